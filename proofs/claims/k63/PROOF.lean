import PyProof.Rows.All
import Wide.All
import OpenK.AllK
import Wide.FinOn
import Lean
import PyProof.EqAt
import PyProof.EqKinds
import PyProof.TupleCall
import PyProof.EqLayable
import KE.KDictSum
import PyProof.Rows.SortWalk
import PyProof.NeKinds
import PyProof.DictWalks
import KE.KMinBuiltin
import PyProof.DictRoadsH
import PySem.Challenge.RW_nightbook_k63_whole_fewest_moves
set_option Elab.async false
set_option linter.all false
set_option maxRecDepth 100000
set_option maxHeartbeats 4000000
set_option exponentiation.threshold 40000
namespace L2
open PySem PySem.Spec PyProof.Rows
abbrev Key := Sum Int Str
def keyIs : Key → Value → Bool
  | .inl k, v => Value.isInt k v
  | .inr x, v => Value.isStrOf x v
def keyH (w : World) : Key → Int
  | .inl k => hashInt k
  | .inr x => hashStr w x
theorem keyIs_shape : ∀ {k : Key} {v : Value}, keyIs k v = true → (∃ i t, k = Sum.inl i ∧ v = Value.int i t) ∨ (∃ x t, k = Sum.inr x ∧ v = Value.str x t)
  | .inl i, v, h => by
    obtain ⟨t, e⟩ := Value.isInt_shape (k := i) (v := v) h
    exact .inl ⟨i, t, rfl, e⟩
  | .inr x, v, h => by
    obtain ⟨t, e⟩ := Value.isStrOf_shape (x := x) (v := v) h
    exact .inr ⟨x, t, rfl, e⟩
theorem keyIs_int (i : Int) (t : Tok) : keyIs (.inl i) (.int i t) = true := by simp [keyIs, Value.isInt]
theorem keyIs_str (x : Str) (t : Tok) : keyIs (.inr x) (.str x t) = true := by simp [keyIs, Value.isStrOf]
theorem key_ll (a b : Int) : decide ((Sum.inl a : Key) = Sum.inl b) = (a == b) := by
  by_cases e : a = b
  · subst e; simp
  · have h : ¬ (Sum.inl a : Key) = Sum.inl b := fun q => e (Sum.inl.inj q)
    rw [decide_eq_false h]
    exact (beq_eq_false_iff_ne.mpr e).symm
theorem key_rr (a b : Str) : decide ((Sum.inr a : Key) = Sum.inr b) = decide (a = b) := by
  by_cases e : a = b
  · subst e; simp
  · have h : ¬ (Sum.inr a : Key) = Sum.inr b := fun q => e (Sum.inr.inj q)
    rw [decide_eq_false h, decide_eq_false e]
theorem key_lr (a : Int) (b : Str) : decide ((Sum.inl a : Key) = Sum.inr b) = false := decide_eq_false (fun q => nomatch q)
theorem key_rl (a : Str) (b : Int) : decide ((Sum.inr a : Key) = Sum.inl b) = false := decide_eq_false (fun q => nomatch q)
def mixKind (prog : Program) (w : World) : PySem.KeyKind prog w Key where
  is := keyIs
  hash := keyH w
  inj := fun v a b ha hb => by
    rcases keyIs_shape ha with ⟨i, t, rfl, rfl⟩ | ⟨x, t, rfl, rfl⟩
    · rcases keyIs_shape hb with ⟨j, u, rfl, e⟩ | ⟨y, u, rfl, e⟩
      · injection e with e1 _; rw [e1]
      · exact nomatch e
    · rcases keyIs_shape hb with ⟨j, u, rfl, e⟩ | ⟨y, u, rfl, e⟩
      · exact nomatch e
      · injection e with e1 _; rw [e1]
  byValue := fun k v h => by
    rcases keyIs_shape h with ⟨i, t, rfl, rfl⟩ | ⟨x, t, rfl, rfl⟩ <;> rfl
  pyHash := fun hv h => by
    rcases keyIs_shape hv with ⟨i, t, rfl, rfl⟩ | ⟨x, t, rfl, rfl⟩
    · exact wpAny_pyHash_int h
    · exact wpAny_pyHash_str h
  eqBool := fun hu hv h => by
    rcases keyIs_shape hu with ⟨i, t, rfl, rfl⟩ | ⟨x, t, rfl, rfl⟩
    · rcases keyIs_shape hv with ⟨j, u, rfl, rfl⟩ | ⟨y, u, rfl, rfl⟩
      · rw [key_ll] at h; exact wpAny_eqBool_int h
      · rw [key_lr] at h; exact SeqAt.EqAt.int_str i t y u _ _ _ _ h
    · rcases keyIs_shape hv with ⟨j, u, rfl, rfl⟩ | ⟨y, u, rfl, rfl⟩
      · rw [key_rl] at h; exact SeqAt.EqAt.str_int x t j u _ _ _ _ h
      · rw [key_rr] at h; exact wpAny_eqBool_str h
  «strs» := fun k x t v h => by
    rcases keyIs_shape h with ⟨i, u, rfl, e⟩ | ⟨y, u, rfl, e⟩
    · exact nomatch e
    · injection e with e1 _
      subst e1
      cases v <;> rfl
theorem mixKind_is (prog : Program) (w : World) (k : Key) (v : Value) : (mixKind prog w).is k v = keyIs k v := rfl
theorem mixKind_int (prog : Program) (w : World) (i : Int) (t : Tok) : (mixKind prog w).is (.inl i) (.int i t) = true := keyIs_int i t
theorem mixKind_str (prog : Program) (w : World) (x : Str) (t : Tok) : (mixKind prog w).is (.inr x) (.str x t) = true := keyIs_str x t
end L2
namespace L2
open PySem PySem.Spec PyProof.Rows
inductive V where
  | non | bl (b : Bool) | int (i : Int) | str (x : Str) | byt (b : Array UInt8) | flt (b : UInt64) | ref (a : Addr) | ty (n : String)
  deriving DecidableEq
def RelV : V → Value → Prop
  | .non, u => u = Value.none
  | .bl b, u => u = Value.bool b
  | .int i, u => ∃ t, u = Value.int i t
  | .str x, u => ∃ t, u = Value.str x t
  | .byt b, u => ∃ t, u = Value.bytes b t
  | .flt b, u => ∃ t, u = Value.float b t
  | .ref a, u => u = Value.ref a
  | .ty n, u => u = Value.type n
abbrev Vals : List V → List Value → Prop := Paired RelV
theorem Vals.length {xs : List V} {us : List Value} (r : Vals xs us) : xs.length = us.length := Paired.length r
theorem Vals.get : ∀ {xs : List V} {us : List Value} {i : Nat} {x : V}, Vals xs us → xs[i]? = some x → ∃ u, us[i]? = some u ∧ RelV x u
  | _, _, _, _, .nil, e => by simp at e
  | _, _, 0, _, .cons r _, e => by simp at e; subst e; exact ⟨_, rfl, r⟩
  | _, _, i + 1, x, .cons _ t, e => by
    obtain ⟨u, h1, h2⟩ := Vals.get (i := i) (x := x) t (by simpa using e)
    exact ⟨u, by simpa using h1, h2⟩
theorem Vals.set {x : V} {u : Value} (r : RelV x u) : ∀ {xs : List V} {us : List Value} (i : Nat), Vals xs us → Vals (xs.set i x) (us.set i u)
  | _, _, _, .nil => .nil
  | _, _, 0, .cons _ t => .cons r t
  | _, _, i + 1, .cons q t => .cons q (Vals.set r i t)
theorem Vals.append : ∀ {xs ys : List V} {us ws : List Value}, Vals xs us → Vals ys ws → Vals (xs ++ ys) (us ++ ws)
  | _, _, _, _, .nil, s => s
  | _, _, _, _, .cons r t, s => .cons r (Vals.append t s)
theorem Vals.take : ∀ {xs : List V} {us : List Value} (n : Nat), Vals xs us → Vals (xs.take n) (us.take n)
  | _, _, 0, _ => .nil
  | _, _, _ + 1, .nil => .nil
  | _, _, n + 1, .cons r t => .cons r (Vals.take n t)
theorem Vals.drop : ∀ {xs : List V} {us : List Value} (n : Nat), Vals xs us → Vals (xs.drop n) (us.drop n)
  | _, _, 0, r => r
  | _, _, _ + 1, .nil => .nil
  | _, _, n + 1, .cons _ t => Vals.drop n t
def RelO : Option V → Option Value → Prop
  | some v, some u => RelV v u
  | none, none => True
  | _, _ => False
def KV {κ : Type} : List (κ × V) → List (κ × Value) → Prop := Paired fun (p : κ × V) (q : κ × Value) => p.1 = q.1 ∧ RelV p.2 q.2
def kV : Key → V
  | .inl i => .int i
  | .inr x => .str x
inductive HO where
  /-- a list -/
  | lst (xs : List V)
  /-- a tuple (never changes) -/
  | tup (xs : List V)
  /-- a dict whose keys are ints and texts; one whose keys are tuples of ints and texts (the empty one is both) -/
  | dK (kvs : List (Key × V)) | dT (kvs : List (List Key × V))
  /-- a set of ints: its members, its size -/
  | set (S : Int → Bool) (n : Nat)
  /-- an instance of the class at C, its dict at dx, its attributes -/
  | ins (C dx : Addr) (fs : List (Str × V))
  /-- the dict of the instance at x -/
  | own (x : Addr)
  /-- the dict of an exception -/
  | xd (fs : List (Str × V))
  /-- a bound method, f of x -/
  | met (f x : Addr)
  /-- a range object lo, lo + 1, .. below hi -/
  | rng (lo hi : Int)
  /-- a thing that is known to the object (the script; a dict while a loop walks it): read, never written while it is so -/
  | frz (o : Obj) (u : HO)
  /-- a code object's table -/
  | tbl (q : Str) (p : Pos)
  /-- any other thing, by what is true of its one object (a def of one's own: SetO a S n := HO.ext fun h => ..) -/
  | ext (φ : Heap → Prop)
abbrev Hp := Addr → Option HO
def upd (H : Hp) (a : Addr) (o : HO) : Hp := fun b => if b = a then some o else H b
theorem upd_same {H : Hp} {a : Addr} {o : HO} : upd H a o a = some o := by unfold upd; rw [if_pos rfl]
theorem upd_ne {H : Hp} {a b : Addr} {o : HO} (h : b ≠ a) : upd H a o b = H b := by unfold upd; rw [if_neg h]
theorem ne_of {H : Hp} {a b : Addr} {o u : HO} (h : H a = some o) (h' : H b = some u) (d : o ≠ u) : a ≠ b := by
  intro e; subst e; rw [h] at h'; exact d (Option.some.inj h')
theorem ne_of_none {H : Hp} {a b : Addr} {o : HO} (h : H a = some o) (h' : H b = none) : a ≠ b := by
  intro e; subst e; rw [h] at h'; cases h'
section
variable (P : Program) (w : World)
def ObjOk (H : Hp) (h : Heap) (a : Addr) : HO → Prop
  | .lst xs => xs.length ≤ sizeLine ∧ ∃ (its : List Value) (n : Nat), Vals xs its ∧ h.get? a = some { cls := .type "list", data := .seq its.toArray n }
  | .tup xs => xs.length ≤ sizeLine ∧ ∃ its : List Value, Vals xs its ∧ IsTup h a its.toArray
  | .dK kvs => kvs.length ≤ sizeLine ∧ (a == sysModules) = false ∧ ∃ vs, KV kvs vs ∧ h.DictOf (mixKind P w) a vs
  | .dT kvs => kvs.length ≤ sizeLine ∧ (a == sysModules) = false ∧ ∃ xs : List (List Key × Addr × Value),
      Paired (fun (p : List Key × V) (q : List Key × Addr × Value) => p.1 = q.1 ∧ H q.2.1 = some (.tup (p.1.map kV)) ∧ RelV p.2 q.2.2) kvs xs ∧
      ∃ o es ep, h.get? a = some o ∧ o.ExactDict ∧ o.data = .dict es ep ∧ es.toList = xs.map (entryOfKey (tupleKind (mixKind P w))) ∧ (xs.map (·.1)).Nodup
  | .set S n => h.SetOf (intKind P w) a S n
  | .ins C dx fs => H dx = some (.own a) ∧ fs.length ≤ 1000 ∧ dx ≠ a ∧ h.get? a = some (PySem.W.instObj C dx) ∧
      ∃ mA, h.Ns1 dx mA ∧ (∀ f, RelO (fs.lookup f) (mA f)) ∧ PySem.Within mA (fs.map (·.1))
  | .own _ => ∃ o, h.get? a = some o
  | .xd fs => ∃ mA, h.Ns1 a mA ∧ ∀ f, RelO (fs.lookup f) (mA f)
  | .rng lo hi => ∃ t u v, h.get? a = some { cls := .type "range", data := .fields #[.int lo t, .int hi u, .int 1 v] }
  | .frz o u => h.get? a = some o ∧ ObjOk H h a u
  | .tbl q p => ∃ ps, h.get? a = some { cls := .none, data := .fields ps } ∧ (ps = #[] ∨ ∃ c', ps = #[rawInt p.line, rawInt p.col, .ref c'] ∧ H c' = some (.own a) ∧ h.CodeRec (.ref c') q)
  | .met f x => h.get? a = some (PySem.W.methodObj (.ref f) (.ref x))
  | .ext φ => φ h ∧ (∃ o, h.get? a = some o) ∧ ∀ h1 h2 : Heap, φ h1 → (∀ o, h1.get? a = some o → h2.get? a = some o) → φ h2
def HOk (H : Hp) (h : Heap) : Prop := ∀ a o, H a = some o → ObjOk P w H h a o
end
section
variable {P : Program} {w : World} {H H' : Hp} {h h' : Heap} {a : Addr} {o : HO}
theorem ObjOk.lt (x : ObjOk P w H h a o) : a < h.objs.size := by
  cases o with
  | lst xs => obtain ⟨_, _, _, _, e⟩ := x; exact Heap.lt_size e
  | tup xs => obtain ⟨_, _, _, p⟩ := x; exact p.lt
  | dK kvs => obtain ⟨_, _, _, _, o, _, _, e, _⟩ := x; exact Heap.lt_size e
  | dT kvs => obtain ⟨_, _, _, _, o, _, _, e, _⟩ := x; exact Heap.lt_size e
  | set S n => obtain ⟨o, _, _, _, e, _⟩ := x; exact Heap.lt_size e
  | ins C dx fs => obtain ⟨_, _, _, e, _⟩ := x; exact Heap.lt_size e
  | own y => obtain ⟨_, e⟩ := x; exact Heap.lt_size e
  | xd fs => obtain ⟨_, ⟨_, _, _, e, _⟩, _⟩ := x; exact Heap.lt_size e
  | rng lo hi => obtain ⟨_, _, _, e⟩ := x; exact Heap.lt_size e
  | frz ob u => obtain ⟨e, _⟩ := x; exact Heap.lt_size e
  | tbl q p => obtain ⟨_, e, _⟩ := x; exact Heap.lt_size e
  | met f y => exact Heap.lt_size (show h.get? a = some _ from x)
  | ext φ => obtain ⟨_, ⟨_, e⟩, _⟩ := x; exact Heap.lt_size e
theorem Paired.mapP {α β : Type} {F G : α → β → Prop} : ∀ {l₁ : List α} {l₂ : List β}, Paired F l₁ l₂ → (∀ a b, F a b → G a b) → Paired G l₁ l₂
  | _, _, .nil, _ => .nil
  | _, _, .cons r t, f => .cons (f _ _ r) (Paired.mapP t f)
theorem ObjOk.stay (x : ObjOk P w H h a o) (k : ∀ b u, (b = a ∨ H b = some (.own a)) → h.get? b = some u → h'.get? b = some u)
    (ho : ∀ b, H b = some (.own a) → H' b = some (.own a)) (ht : ∀ b xs, H b = some (.tup xs) → H' b = some (.tup xs)) : ObjOk P w H' h' a o := by
  induction o with
  | lst xs => obtain ⟨z, its, n, r, e⟩ := x; exact ⟨z, its, n, r, k _ _ (.inl rfl) e⟩
  | tup xs => obtain ⟨z, its, r, ob, e, c⟩ := x; exact ⟨z, its, r, ob, k _ _ (.inl rfl) e, c⟩
  | dK kvs => obtain ⟨z, y, vs, r, ob, es, ep, e, c⟩ := x; exact ⟨z, y, vs, r, ob, es, ep, k _ _ (.inl rfl) e, c⟩
  | dT kvs =>
    obtain ⟨z, y, xs, r, ob, es, ep, e, c⟩ := x
    exact ⟨z, y, xs, Paired.mapP r fun p q z => ⟨z.1, ht _ _ z.2.1, z.2.2⟩, ob, es, ep, k _ _ (.inl rfl) e, c⟩
  | set S n => obtain ⟨ob, es, ep, t, e, c⟩ := x; exact ⟨ob, es, ep, t, k _ _ (.inl rfl) e, c⟩
  | ins C dx fs =>
    obtain ⟨d, z, ne, e, mA, ⟨od, es, ep, e2, c⟩, r⟩ := x
    exact ⟨ho _ d, z, ne, k _ _ (.inl rfl) e, mA, ⟨od, es, ep, k _ _ (.inr d) e2, c⟩, r⟩
  | own y => obtain ⟨ob, e⟩ := x; exact ⟨ob, k _ _ (.inl rfl) e⟩
  | xd fs => obtain ⟨mA, ⟨od, es, ep, e, c⟩, r⟩ := x; exact ⟨mA, ⟨od, es, ep, k _ _ (.inl rfl) e, c⟩, r⟩
  | rng lo hi => obtain ⟨t, u, v, e⟩ := x; exact ⟨t, u, v, k _ _ (.inl rfl) e⟩
  | frz ob u ih => obtain ⟨e, q⟩ := x; exact ⟨k _ _ (.inl rfl) e, ih q⟩
  | tbl q p =>
    obtain ⟨ps, e, z⟩ := x
    refine ⟨ps, k a _ (.inl rfl) e, ?_⟩
    rcases z with z | ⟨c', z1, z2, z3⟩
    · exact .inl z
    · obtain ⟨c, oc, vs, tq, hc, hoc, hdc, hq⟩ := z3
      have hc' : c' = c := by injection hc
      exact .inr ⟨c', z1, ho _ z2, c, oc, vs, tq, hc, k _ _ (.inr (hc' ▸ z2)) hoc, hdc, hq⟩
  | met f y =>
    have e : h.get? a = some (PySem.W.methodObj (.ref f) (.ref y)) := x
    show h'.get? a = some (PySem.W.methodObj (.ref f) (.ref y))
    exact k a _ (.inl rfl) e
  | ext φ => obtain ⟨p, ⟨o, e⟩, st⟩ := x; exact ⟨st _ _ p fun o q => k _ _ (.inl rfl) q, ⟨o, k _ _ (.inl rfl) e⟩, st⟩
theorem HOk.lt (x : HOk P w H h) (e : H a = some o) : a < h.objs.size := (x a o e).lt
theorem HOk.fresh (x : HOk P w H h) (e : h.objs.size ≤ a) : H a = none := by
  cases q : H a with
  | none => rfl
  | some u => exact absurd (Nat.lt_of_lt_of_le (x.lt q) e) (Nat.lt_irrefl _)
theorem HOk.kept (x : HOk P w H h) (k : ∀ b u, h.get? b = some u → h'.get? b = some u) : HOk P w H h' := fun a o e =>
  (x a o e).stay (fun b u _ q => k b u q) (fun _ q => q) fun _ _ q => q
theorem HOk.laid (x : HOk P w H h) (k : ∀ b u, h.get? b = some u → h'.get? b = some u) (hp : h.objs.size ≤ a) (new : ObjOk P w (upd H a o) h' a o) : HOk P w (upd H a o) h' := fun b u e => by
  have hn := x.fresh hp
  by_cases hb : b = a
  · subst hb; rw [upd_same] at e; cases e; exact new
  · rw [upd_ne hb] at e
    exact (x b u e).stay (fun c v _ q => k c v q) (fun c q => by rw [upd_ne (ne_of_none q hn)]; exact q) fun c xs q => by rw [upd_ne (ne_of_none q hn)]; exact q
end
def Rd (H : Hp) (a : Addr) (u : HO) : Prop := H a = some u ∨ ∃ o, H a = some (.frz o u)
theorem Rd.of {H : Hp} {a : Addr} {u : HO} (h : H a = some u) : Rd H a u := .inl h
theorem Rd.ok {P : Program} {w : World} {H : Hp} {h : Heap} {a : Addr} {u : HO} (r : Rd H a u) (x : HOk P w H h) : ObjOk P w H h a u := by
  rcases r with r | ⟨o, r⟩
  · exact x a u r
  · obtain ⟨_, q⟩ := x a _ r
    exact q
def Mut : Option HO → Prop
  | some (.lst _) => True
  | some (.dK _) => True
  | some (.dT _) => True
  | some (.set _ _) => True
  | some (.ins _ _ _) => True
  | some (.ext _) => True
  | _ => False
section
variable {P : Program} {w : World} {H : Hp} {h h' : Heap} {x e : Addr} {o' : HO}
theorem HOk.write (ok : HOk P w H h) (mu : Mut (H x)) (he : e = x ∨ H e = some (.own x)) (k : ∀ b u, b ≠ e → h.get? b = some u → h'.get? b = some u) (heo : ∃ u, h'.get? e = some u)
    (new : ObjOk P w (upd H x o') h' x o') : HOk P w (upd H x o') h' := fun b u q => by
  have nown : ∀ c y, H c = some (.own y) → c ≠ x := fun c y r z => by subst z; rw [r] at mu; exact mu
  have ntup : ∀ c xs, H c = some (.tup xs) → c ≠ x := fun c xs r z => by subst z; rw [r] at mu; exact mu
  by_cases hb : b = x
  · subst hb; rw [upd_same] at q; cases q; exact new
  · rw [upd_ne hb] at q
    by_cases hbe : b = e
    · have q' : H b = some (.own x) := by
        rcases he with z | z
        · exact absurd (hbe.trans z) hb
        · rw [hbe]; exact z
      rw [q] at q'; cases q'
      obtain ⟨v, hv⟩ := heo
      exact ⟨v, by rw [hbe]; exact hv⟩
    · refine (ok b u q).stay (fun c v hc r => k c v ?_ r) (fun c r => by rw [upd_ne (nown c b r)]; exact r) fun c xs r => by rw [upd_ne (ntup c xs r)]; exact r
      rcases hc with rfl | hc
      · exact hbe
      · rintro rfl
        rcases he with z | z
        · exact nown c b hc z
        · rw [hc] at z; cases z; exact hb rfl
end
structure Un (fs ex : List Addr) (H H' : Hp) (h h' : Heap) : Prop where
  keep : ∀ b o, h.get? b = some o → H b = none → b ∉ fs → b ∉ ex → h'.get? b = some o
  slot : ∀ b o, h.get? b = some o → H b = none → b ∈ fs → b ∉ ex → ∃ sl, h'.get? b = some { o with slots := sl }
  free : ∀ b o, h.get? b = some o → H b = none → b ∉ ex → H' b = none
  there : ∀ b o, h.get? b = some o → b ∉ ex → ∃ o', h'.get? b = some o'
  tups : ∀ b xs, H b = some (.tup xs) → H' b = some (.tup xs)
  frzs : ∀ b o u, H b = some (.frz o u) → H' b = some (.frz o u)
  tbls : ∀ b q p, H b = some (.tbl q p) → H' b = some (.tbl q p)
section
variable {fs fs' ex ex' : List Addr} {H H1 H2 : Hp} {h h1 h2 h' : Heap} {a x e : Addr} {o : HO}
theorem Un.any (u : Un fs ex H H1 h h1) {b : Addr} {ob : Obj} (q : h.get? b = some ob) (n : H b = none) (hx : b ∉ ex) : ∃ sl, h1.get? b = some { ob with slots := sl } := by
  by_cases hb : b ∈ fs
  · exact u.slot b ob q n hb hx
  · exact ⟨ob.slots, u.keep b ob q n hb hx⟩
theorem Un.trans (a : Un fs ex H H1 h h1) (b : Un fs ex H1 H2 h1 h2) : Un fs ex H H2 h h2 where
  keep := fun c ob q n hc hx => b.keep c ob (a.keep c ob q n hc hx) (a.free c ob q n hx) hc hx
  slot := fun c ob q n hc hx => by
    obtain ⟨sl, e1⟩ := a.slot c ob q n hc hx
    obtain ⟨sl', e2⟩ := b.slot c _ e1 (a.free c ob q n hx) hc hx
    exact ⟨sl', e2⟩
  free := fun c ob q n hx => by
    obtain ⟨o', e1⟩ := a.there c ob q hx
    exact b.free c o' e1 (a.free c ob q n hx) hx
  there := fun c ob q hx => by
    obtain ⟨o', e1⟩ := a.there c ob q hx
    exact b.there c o' e1 hx
  tups := fun c xs q => b.tups c xs (a.tups c xs q)
  frzs := fun c ob xs q => b.frzs c ob xs (a.frzs c ob xs q)
  tbls := fun c q p e => b.tbls c q p (a.tbls c q p e)
theorem Un.kept (k : ∀ b u, h.get? b = some u → h'.get? b = some u) : Un fs ex H H h h' :=
  ⟨fun b ob q _ _ _ => k b ob q, fun b ob q _ _ _ => ⟨ob.slots, k b ob q⟩, fun _ _ _ n _ => n, fun b ob q _ => ⟨ob, k b ob q⟩, fun _ _ q => q, fun _ _ _ q => q, fun _ _ _ q => q⟩
theorem Un.refl : Un fs ex H H h h := Un.kept fun _ _ q => q
theorem Un.laid (k : ∀ b u, h.get? b = some u → h'.get? b = some u) (hp : h.objs.size ≤ a) (hn : H a = none) : Un fs ex H (upd H a o) h h' where
  keep := fun b u q _ _ _ => k b u q
  slot := fun b u q _ _ _ => ⟨u.slots, k b u q⟩
  free := fun b u q n _ => by rw [upd_ne (Nat.ne_of_lt (Nat.lt_of_lt_of_le (Heap.lt_size q) hp))]; exact n
  there := fun b u q _ => ⟨u, k b u q⟩
  tups := fun b xs q => by rw [upd_ne (ne_of_none q hn)]; exact q
  frzs := fun b u xs q => by rw [upd_ne (ne_of_none q hn)]; exact q
  tbls := fun b q p e => by rw [upd_ne (ne_of_none e hn)]; exact e
theorem Un.write (mu : Mut (H x)) (he : e = x ∨ H e = some (.own x)) (k : ∀ b u, b ≠ e → h.get? b = some u → h'.get? b = some u) (heo : ∃ u, h'.get? e = some u) : Un fs ex H (upd H x o) h h' := by
  have hx : ∀ b, H b = none → b ≠ x := fun b n z => by subst z; rw [n] at mu; exact mu
  have hb : ∀ b, H b = none → b ≠ e := fun b n z => by
    subst z
    rcases he with r | r
    · exact hx b n r
    · rw [n] at r; cases r
  have hm : ∀ b u, H b = some u → ¬ Mut (some u) → b ≠ x := fun b u q nm z => by subst z; rw [q] at mu; exact nm mu
  refine ⟨fun b u q n _ _ => k b u (hb b n) q, fun b u q n _ _ => ⟨u.slots, k b u (hb b n) q⟩, fun b u q n _ => by rw [upd_ne (hx b n)]; exact n, fun b u q _ => ?_,
    fun b xs q => by rw [upd_ne (hm b _ q fun z => z)]; exact q, fun b u xs q => by rw [upd_ne (hm b _ q fun z => z)]; exact q, fun b q p e => by rw [upd_ne (hm b _ e fun z => z)]; exact e⟩
  by_cases hbe : b = e
  · subst hbe; exact heo
  · exact ⟨u, k b u hbe q⟩
theorem Un.mono (u : Un fs ex H H1 h h1) (hs : ∀ b ∈ fs, b ∈ fs') (hx : ∀ b ∈ ex, b ∈ ex') : Un fs' ex' H H1 h h1 :=
  ⟨fun b ob q n hb he => u.keep b ob q n (fun z => hb (hs b z)) fun z => he (hx b z), fun _ _ q n _ he => u.any q n fun z => he (hx _ z), fun b ob q n he => u.free b ob q n fun z => he (hx b z), fun b ob q he => u.there b ob q fun z => he (hx b z), u.tups, u.frzs, u.tbls⟩
end
def trk (h : Heap) (H : Hp) : List Addr := (List.range h.objs.size).filter fun a => (H a).isSome
def hidT (h : Heap) (H : Hp) : Heap := PySem.W.hideAll h (trk h H)
theorem hidT_size (h : Heap) (H : Hp) : (hidT h H).objs.size = h.objs.size := PySem.W.hideAll_size _ _
theorem hidT_get {h : Heap} {H : Hp} {b : Addr} {o : Obj} (e : h.get? b = some o) (n : H b = none) : (hidT h H).get? b = some o :=
  PySem.W.hideAll_get _ e fun hm => by
    have q : (H b).isSome = true := (List.mem_filter.mp hm).2
    rw [n] at q; simp at q
theorem of_hidT {h : Heap} {H : Hp} {b : Addr} {o : Obj} (e : (hidT h H).get? b = some o) : h.get? b = some o ∧ H b = none := by
  have e' : h.get? b = some o := PySem.W.of_hideAll (trk h H) e
  refine ⟨e', ?_⟩
  cases q : H b with
  | none => rfl
  | some x =>
    have hm : b ∈ trk h H := List.mem_filter.mpr ⟨List.mem_range.mpr (Heap.lt_size e'), by simp [q]⟩
    have z : (hidT h H).get? b = none := PySem.W.hideAll_none (trk h H) hm
    rw [z] at e; cases e
def allNews (g h : Heap) (L : Addr) : List (Addr × Obj) := (List.range h.objs.size).filterMap fun a => if a = L ∨ (g.get? a).isSome = true then none else (h.get? a).map fun o => (a, o)
def rest (g h : Heap) (L d : Addr) : List (Addr × Obj) := (allNews g h L).filter fun p => decide (p.1 ≠ d)
end L2
namespace L2
open PySem PySem.Spec PyProof.Rows
structure Mod (K : PySem.W.Frag) (mg : Str → Option Value) (base : Heap) : Prop where
  kin : K.In base
  glob : base.Ns mainGlobals mg
  blt : ∃ mb, base.Ns builtinsNs mb ∧ ∀ x : Str, x ≠ "__name__" → mb x = bootBuiltins x
  nolimit : base.NoLimit
  bm : ∃ bm ob, mg "__builtins__" = some (.ref bm) ∧ bm ≠ builtinsNs ∧ base.get? bm = some ob ∧ ob.cls = .type "module" ∧ ob.dict = some builtinsNs ∧ ob.data = .plain
structure Cx where
  prog : Program
  w : World
  K : PySem.W.Frag
  mg : Str → Option Value
  base : Heap
  A : Around
  N : List Str
  s₀ : Shared
  H₀ : Hp
  env : Env
  outer : List Env
  stack : List Env
  ex : List Addr
  fn : Str → Bool
  calm : Bool
  pn : List (Addr × Obj)
  xe : Value → Shared → Prop
def frs (l : List Env) : List Addr := l.filterMap (·.frame)
abbrev Cx.fs (X : Cx) : List Addr := frs X.outer
def Vis (sc : Scope) (x : Str) : Prop := sc.names.lookup x = some .local ∨ sc.names.lookup x = some .cell ∨ sc.names.lookup x = some .free
def Loc (sc : Scope) (x : Str) : Prop := sc.names.lookup x = some .local ∨ sc.names.lookup x = some .cell
def Look (env : Env) (h : Heap) (m : Str → Option Value) (x : Str) (u : Value) : Prop :=
  (env.kindOf x = some .local ∧ m x = some u) ∨ ((env.kindOf x = some .cell ∨ env.kindOf x = some .free) ∧ ∃ c, env.cells.lookup x = some c ∧ h.IsCell c (some u))
structure Cx.Ok (X : Cx) : Prop where
  mod : Mod X.K X.mg X.base
  kind : X.env.scope.kind = .function
  glob : X.env.globals = mainGlobals
  blt : X.env.builtins = builtinsNs
  above : X.s₀.heap.objs.size ≤ X.env.locals
  inj : ∀ x y c, X.env.cells.lookup x = some c → X.env.cells.lookup y = some c → x = y
  has : ∀ x, (X.env.kindOf x = some .cell ∨ X.env.kindOf x = some .free) → ∃ c, X.env.cells.lookup x = some c
  cab : ∀ x c, X.fn x = true → X.env.cells.lookup x = some c → X.s₀.heap.objs.size ≤ c
  hd : X.calm = true → X.A.handled = none
  frames : X.A.frames = some X.stack
  stk : X.stack = X.outer ∨ (X.stack = X.env :: X.outer ∧ X.env.frame = some X.env.locals)
  exf : ∀ b ∈ X.ex, b ≠ X.env.locals ∧ ∀ x c, X.env.cells.lookup x = some c → c ≠ b
  bs : ∀ b o, X.base.get? b = some o → X.s₀.heap.get? b = some o ∧ X.H₀ b = none
  bsz : X.base.objs.size ≤ X.s₀.heap.objs.size
  noex : ∀ b o, X.base.get? b = some o → b ∉ X.ex
  exfs : ∀ b ∈ X.ex, b ∉ X.fs
  funs : X.s₀.heap.FunFrames X.base X.outer
  frf : ∀ b ∈ X.fs, X.H₀ b = none
structure Inv (X : Cx) (pins : List (Addr × Obj)) (σ : List (Option V)) (H : Hp) (s : Shared) : Prop where
  ok : X.Ok
  os : s.os = X.s₀.os
  bare : AllBare s.gens
  base : Un X.fs X.ex X.H₀ H X.s₀.heap s.heap
  loc : ∃ m, s.heap.Ns X.env.locals m ∧ ∀ (i : Nat) (x : Str) (v : V), X.N[i]? = some x → σ[i]? = some (some v) → Vis X.env.scope x → ∃ u, RelV v u ∧ Look X.env s.heap m x u
  cell : ∀ x c, X.env.cells.lookup x = some c → ∃ v, s.heap.IsCell c v
  free : H X.env.locals = none
  freeC : ∀ x c, X.env.cells.lookup x = some c → H c = none
  pin : ∀ p ∈ X.pn ++ pins, s.heap.get? p.1 = some p.2 ∧ H p.1 = none ∧ p.1 ≠ X.env.locals ∧ p.1 ∉ X.fs ∧ ∀ v, p.2.data ≠ .cell v
  hok : HOk X.prog X.w H s.heap
  len : σ.length = X.N.length
section
variable {X : Cx} {pins : List (Addr × Obj)} {σ : List (Option V)} {H H' : Hp} {s : Shared} {h' : Heap}
theorem Cx.Ok.nofr (ok : X.Ok) {b : Addr} {o : Obj} (e : X.base.get? b = some o) : b ∉ X.fs := fun hb => by
  have := (ok.funs.mem hb).1
  rw [e] at this; cases this
theorem Inv.bs (I : Inv X pins σ H s) : ∀ b o, X.base.get? b = some o → s.heap.get? b = some o ∧ H b = none := fun b o e =>
  ⟨I.base.keep b o (I.ok.bs b o e).1 (I.ok.bs b o e).2 (I.ok.nofr e) (I.ok.noex b o e), I.base.free b o (I.ok.bs b o e).1 (I.ok.bs b o e).2 (I.ok.noex b o e)⟩
theorem Inv.bk (I : Inv X pins σ H s) : ∀ b o, X.base.get? b = some o → s.heap.get? b = some o := fun b o e => (I.bs b o e).1
theorem Inv.mod (I : Inv X pins σ H s) : Mod X.K X.mg X.base := I.ok.mod
theorem Inv.kIn (I : Inv X pins σ H s) : X.K.In s.heap := I.ok.mod.kin.keeps I.bk
theorem Inv.nolimit (I : Inv X pins σ H s) : s.heap.NoLimit := I.ok.mod.nolimit.keeps I.bk
theorem Inv.fr (I : Inv X pins σ H s) : ∃ m, Fr X.base X.env.locals s.heap m :=
  let ⟨m, hn, _⟩ := I.loc
  ⟨m, hn, I.bk, Nat.le_trans I.ok.bsz I.ok.above⟩
theorem Inv.lt (I : Inv X pins σ H s) : X.env.locals < s.heap.objs.size := let ⟨_, hn, _⟩ := I.loc; hn.lt
theorem Inv.sz (I : Inv X pins σ H s) : X.s₀.heap.objs.size ≤ s.heap.objs.size := Nat.le_trans I.ok.above (Nat.le_of_lt I.lt)
theorem Inv.nofs (I : Inv X pins σ H s) {a : Addr} (h : s.heap.objs.size ≤ a) : a ∉ X.fs := fun hb => by
  obtain ⟨_, o, ho, _⟩ := I.ok.funs.mem hb
  exact absurd (Nat.lt_of_lt_of_le (Heap.lt_size ho) (Nat.le_trans I.sz h)) (Nat.lt_irrefl _)
theorem Inv.cne (I : Inv X pins σ H s) : ∀ x c, X.env.cells.lookup x = some c → c ≠ X.env.locals := fun x c e z => by
  obtain ⟨v, o, ho, hd⟩ := I.cell x c e
  obtain ⟨m, ⟨o', es, ep, ho', hd', _⟩, _⟩ := I.loc
  rw [z, ho'] at ho; cases ho; rw [hd'] at hd; cases hd
theorem Inv.funs (I : Inv X pins σ H s) : s.heap.FunFrames X.base X.outer := by
  have all : ∀ (l : List Env), (∀ b ∈ frs l, b ∈ X.fs) → X.s₀.heap.FunFrames X.base l → s.heap.FunFrames X.base l := by
    intro l
    induction l with
    | nil => intro _ _; trivial
    | cons env r ih =>
      intro hs hl
      obtain ⟨hk, ⟨L, o, hf, hn, ho, hd⟩, hr⟩ := hl
      have hL : L ∈ X.fs := hs L (by unfold frs; rw [List.filterMap_cons, hf]; exact List.mem_cons_self)
      obtain ⟨sl, e⟩ := I.base.slot L o ho (I.ok.frf L hL) hL fun z => I.ok.exfs L z hL
      exact ⟨hk, ⟨L, _, hf, hn, e, hd⟩, ih (fun b hb => hs b (by unfold frs; rw [List.filterMap_cons, hf]; exact List.mem_cons_of_mem _ hb)) hr⟩
  exact all X.outer (fun _ hb => hb) I.ok.funs
theorem Inv.stack (I : Inv X pins σ H s) : s.heap.FunFrames X.base X.stack := by
  rcases I.ok.stk with e | ⟨e, hf⟩
  · rw [e]; exact I.funs
  · rw [e]
    obtain ⟨m, hn, _⟩ := I.loc
    refine .cons (by rw [I.ok.kind]; decide) hf hn ?_ I.funs
    exact Heap.get?_none_of_le (Nat.le_trans I.ok.bsz I.ok.above)
theorem Inv.stkSub (I : Inv X pins σ H s) : ∀ b ∈ frs X.stack, b ∈ X.env.locals :: X.fs := fun b hb => by
  rcases I.ok.stk with e | ⟨e, hf⟩
  · rw [e] at hb; exact List.mem_cons_of_mem _ hb
  · rw [e] at hb
    unfold frs at hb
    rw [List.filterMap_cons, hf] at hb
    exact hb
theorem Inv.stkFree (I : Inv X pins σ H s) : ∀ b ∈ frs X.stack, H b = none := fun b hb => by
  rcases List.mem_cons.mp (I.stkSub b hb) with e | hb
  · rw [e]; exact I.free
  · obtain ⟨_, o, ho, _⟩ := I.ok.funs.mem hb
    exact I.base.free b o ho (I.ok.frf b hb) fun z => I.ok.exfs b z hb
theorem Inv.step {g' : Array GenState} {t' : Nat} {d' : Drawn} {ch : List Addr} (I : Inv X pins σ H s)
    (hch : ∀ b ∈ ch, (b ∈ X.ex ∨ X.s₀.heap.objs.size ≤ b) ∧ b ≠ X.env.locals ∧ (∀ x c, X.env.cells.lookup x = some c → c ≠ b) ∧ ∀ p ∈ X.pn ++ pins, p.1 ≠ b)
    (keep : ∀ b o, b ≠ X.env.locals → b ∉ X.fs → b ∉ ch → s.heap.get? b = some o → H b = none → h'.get? b = some o)
    (slot : ∀ b o, b ≠ X.env.locals → b ∈ X.fs → b ∉ ch → s.heap.get? b = some o → H b = none → ∃ sl, h'.get? b = some { o with slots := sl }) (free : ∀ b o, b ∉ ch → s.heap.get? b = some o → H b = none → H' b = none)
    (there : ∀ b o, b ∉ ch → s.heap.get? b = some o → ∃ o', h'.get? b = some o')
    (tups : ∀ b xs, H b = some (.tup xs) → H' b = some (.tup xs)) (frzs : ∀ b o u, H b = some (.frz o u) → H' b = some (.frz o u)) (tbls : ∀ b q p, H b = some (.tbl q p) → H' b = some (.tbl q p))
    (ns : ∀ m, s.heap.Ns X.env.locals m → h'.Ns X.env.locals m) (hok : HOk X.prog X.w H' h') (hg : AllBare g') :
    Inv X pins σ H' { s with heap := h', gens := g', drawn := d', toks := t' } := by
  have neL : ∀ b o, X.s₀.heap.get? b = some o → b ≠ X.env.locals := fun b o e => Nat.ne_of_lt (Nat.lt_of_lt_of_le (Heap.lt_size e) I.ok.above)
  have neC : ∀ b o, X.s₀.heap.get? b = some o → b ∉ X.ex → b ∉ ch := fun b o e hx hb => by
    rcases (hch b hb).1 with z | z
    · exact hx z
    · exact absurd (Nat.lt_of_lt_of_le (Heap.lt_size e) z) (Nat.lt_irrefl _)
  have cellK : ∀ x c, X.env.cells.lookup x = some c → ∀ v, s.heap.IsCell c v → h'.IsCell c v := fun x c e v ⟨o, ho, hd⟩ => by
    have nch : c ∉ ch := fun z => (hch c z).2.2.1 x c e rfl
    by_cases hc : c ∈ X.fs
    · obtain ⟨sl, q⟩ := slot c o (I.cne x c e) hc nch ho (I.freeC x c e)
      exact ⟨_, q, hd⟩
    · exact ⟨o, keep c o (I.cne x c e) hc nch ho (I.freeC x c e), hd⟩
  refine ⟨I.ok, I.os, hg, ⟨fun b o e n hb hx => ?_, fun b o e n hb hx => ?_, fun b o e n hx => ?_, fun b o e hx => ?_, fun b xs e => tups b xs (I.base.tups b xs e), fun b o xs e => frzs b o xs (I.base.frzs b o xs e), fun b q p e => tbls b q p (I.base.tbls b q p e)⟩, ?_, fun x c e => ?_, ?_, fun x c e => ?_, fun p hp => ?_, hok, I.len⟩
  · exact keep b o (neL b o e) hb (neC b o e hx) (I.base.keep b o e n hb hx) (I.base.free b o e n hx)
  · obtain ⟨sl, e1⟩ := I.base.slot b o e n hb hx
    obtain ⟨sl', e2⟩ := slot b _ (neL b o e) hb (neC b o e hx) e1 (I.base.free b o e n hx)
    exact ⟨sl', e2⟩
  · obtain ⟨o', e1⟩ := I.base.there b o e hx
    exact free b o' (neC b o e hx) e1 (I.base.free b o e n hx)
  · obtain ⟨o', e1⟩ := I.base.there b o e hx
    exact there b o' (neC b o e hx) e1
  · obtain ⟨m, hn, hl⟩ := I.loc
    refine ⟨m, ns m hn, fun i x v e1 e2 e3 => ?_⟩
    obtain ⟨u, r, l⟩ := hl i x v e1 e2 e3
    refine ⟨u, r, ?_⟩
    rcases l with l | ⟨k, c, e, z⟩
    · exact .inl l
    · exact .inr ⟨k, c, e, cellK x c e _ z⟩
  · obtain ⟨v, z⟩ := I.cell x c e
    exact ⟨v, cellK x c e v z⟩
  · obtain ⟨m, ⟨o, _, _, ho, _⟩, _⟩ := I.loc
    exact free _ o (fun z => (hch _ z).2.1 rfl) ho I.free
  · obtain ⟨v, o, ho, hd⟩ := I.cell x c e
    exact free c o (fun z => (hch c z).2.2.1 x c e rfl) ho (I.freeC x c e)
  · obtain ⟨e, n, ne, nf, d⟩ := I.pin p hp
    have nch : p.1 ∉ ch := fun z => (hch p.1 z).2.2.2 p hp rfl
    exact ⟨keep p.1 p.2 ne nf nch e n, free p.1 p.2 nch e n, ne, nf, d⟩
theorem Inv.un {t' : Nat} (I : Inv X pins σ H s) (u : Un X.fs [] H H' s.heap h') (hok : HOk X.prog X.w H' h') : Inv X pins σ H' { s with heap := h', toks := t' } := by
  obtain ⟨m, ⟨o, es, ep, ho, r⟩, _⟩ := id I.loc
  obtain ⟨sl, hL⟩ := u.any ho I.free (by simp)
  exact I.step (g' := s.gens) (d' := s.drawn) (ch := []) (fun _ z => nomatch z) (fun b o _ hb _ e n => u.keep b o e n hb (by simp)) (fun b o _ hb _ e n => u.slot b o e n hb (by simp)) (fun b o _ e n => u.free b o e n (by simp)) (fun b o _ e => u.there b o e (by simp)) u.tups u.frzs u.tbls (fun m' hm => by
    obtain ⟨o', es', ep', ho', r'⟩ := hm
    rw [ho] at ho'; cases ho'
    exact ⟨_, es', ep', hL, r'⟩) hok I.bare
theorem Inv.call {g' : Array GenState} {t' : Nat} {d' : Drawn} {ch : List Addr} (I : Inv X pins σ H s) (u : Un (frs X.stack) ch H H' s.heap h') (hok : HOk X.prog X.w H' h') (hg : AllBare g')
    (hch : ∀ b ∈ ch, (b ∈ X.ex ∨ X.s₀.heap.objs.size ≤ b) ∧ b ≠ X.env.locals ∧ (∀ x c, X.env.cells.lookup x = some c → c ≠ b) ∧ ∀ p ∈ X.pn ++ pins, p.1 ≠ b) :
    Inv X pins σ H' { s with heap := h', gens := g', drawn := d', toks := t' } := by
  obtain ⟨m, ⟨o, es, ep, ho, r⟩, _⟩ := id I.loc
  obtain ⟨sl, hL⟩ := u.any ho I.free fun z => (hch _ z).2.1 rfl
  exact I.step (ch := ch) hch (fun b o hL hb hc e n => u.keep b o e n (fun z => (List.mem_cons.mp (I.stkSub b z)).elim hL hb) hc) (fun b o _ _ hc e n => u.any e n hc) (fun b o hc e n => u.free b o e n hc) (fun b o hc e => u.there b o e hc) u.tups u.frzs u.tbls (fun m' hm => by
    obtain ⟨o', es', ep', ho', r'⟩ := hm
    rw [ho] at ho'; cases ho'
    exact ⟨_, es', ep', hL, r'⟩) hok hg
theorem Inv.turned {t' : Nat} {it : Addr} (I : Inv X pins σ H s) (k : ∀ b o, b ≠ it → s.heap.get? b = some o → h'.get? b = some o) (hn : H it = none) (hL : it ≠ X.env.locals)
    (h1 : it ∈ X.ex ∨ X.s₀.heap.objs.size ≤ it) (h2 : ∀ x c, X.env.cells.lookup x = some c → c ≠ it) (h3 : ∀ p ∈ X.pn ++ pins, p.1 ≠ it) : Inv X pins σ H { s with heap := h', toks := t' } := by
  have nit : ∀ b u, H b = some u → b ≠ it := fun b u e z => by rw [z, hn] at e; cases e
  refine I.step (g' := s.gens) (d' := s.drawn) (ch := [it]) (fun b hb => ?_) (fun b o _ _ hc e _ => k b o (fun z => hc (by simp [z])) e) (fun b o _ _ hc e _ => ⟨o.slots, k b o (fun z => hc (by simp [z])) e⟩) (fun _ _ _ _ n => n)
    (fun b o hc e => ⟨o, k b o (fun z => hc (by simp [z])) e⟩) (fun _ _ e => e) (fun _ _ _ e => e) (fun _ _ _ e => e) (fun m hm => ?_) (fun b u e => ?_) I.bare
  · have e : b = it := by simpa using hb
    subst e
    exact ⟨h1, hL, h2, h3⟩
  · obtain ⟨o, es, ep, ho, r⟩ := hm
    exact ⟨o, es, ep, k _ o (Ne.symm hL) ho, r⟩
  · refine (I.hok b u e).stay (fun c v hc q => k c v ?_ q) (fun _ q => q) fun _ _ q => q
    rcases hc with z | z
    · rw [z]; exact nit b u e
    · exact nit c _ z
theorem Inv.tok (I : Inv X pins σ H s) (t : Nat) : Inv X pins σ H { s with toks := t } := I.un (h' := s.heap) (t' := t) Un.refl I.hok
theorem Inv.kept {t' : Nat} (I : Inv X pins σ H s) (k : ∀ b u, s.heap.get? b = some u → h'.get? b = some u) : Inv X pins σ H { s with heap := h', toks := t' } := I.un (Un.kept k) (I.hok.kept k)
theorem Inv.laid {a : Addr} {o : HO} {t' : Nat} (I : Inv X pins σ H s) (k : ∀ b u, s.heap.get? b = some u → h'.get? b = some u) (hp : s.heap.objs.size ≤ a) (new : ObjOk X.prog X.w (upd H a o) h' a o) :
    Inv X pins σ (upd H a o) { s with heap := h', toks := t' } := I.un (Un.laid k hp (I.hok.fresh hp)) (I.hok.laid k hp new)
theorem Inv.write {x e : Addr} {o : HO} {t' : Nat} (I : Inv X pins σ H s) (mu : Mut (H x)) (he : e = x ∨ H e = some (.own x)) (k : ∀ b u, b ≠ e → s.heap.get? b = some u → h'.get? b = some u) (heo : ∃ u, h'.get? e = some u)
    (new : ObjOk X.prog X.w (upd H x o) h' x o) : Inv X pins σ (upd H x o) { s with heap := h', toks := t' } := I.un (Un.write mu he k heo) (I.hok.write mu he k heo new)
theorem Inv.pins_of {pins' : List (Addr × Obj)} (I : Inv X pins σ H s) (h : ∀ p ∈ pins', s.heap.get? p.1 = some p.2 ∧ H p.1 = none ∧ p.1 ≠ X.env.locals ∧ p.1 ∉ X.fs ∧ ∀ v, p.2.data ≠ .cell v) : Inv X pins' σ H s :=
  ⟨I.ok, I.os, I.bare, I.base, I.loc, I.cell, I.free, I.freeC, fun p hp => (List.mem_append.mp hp).elim (fun z => I.pin p (List.mem_append_left _ z)) (h p), I.hok, I.len⟩
theorem nodup_ix {N : List Str} (hN : N.Nodup) {i j : Nat} {x : Str} (a : N[i]? = some x) (b : N[j]? = some x) : i = j := by
  obtain ⟨h1, e1⟩ := List.getElem?_eq_some_iff.mp a
  obtain ⟨h2, e2⟩ := List.getElem?_eq_some_iff.mp b
  exact (List.getElem_inj hN).mp (e1.trans e2.symm)
theorem store_ok2 {M : Model} {A : Around} {E : Value → Shared → Prop} {i : Nat} {x : Str} {v : V} {u : Value} {Q : Unit → Shared → Prop} (I : Inv X pins σ H s) (hN : X.N.Nodup) (hi : X.N[i]? = some x) (hx : Loc X.env.scope x) (r : RelV v u)
    (h : ∀ s', Inv X pins (σ.set i (some v)) H s' → (∃ a, Heap.SameBut a s.heap s'.heap ∧ (a = X.env.locals ∨ X.env.cells.lookup x = some a)) → Q () s') (hf : X.fn x = true ∨ X.env.scope.names.lookup x = some .local := by first | exact .inl rfl | exact .inr rfl | assumption) : wpAny M A (storeName X.env x u) Q E s := by
  obtain ⟨m, hn, hl⟩ := id I.loc
  have hcls : (X.env.scope.kind == .class || (X.env.scope.kind == .module && X.env.locals != X.env.globals)) = false := by rw [I.ok.kind]; rfl
  have hiσ : i < σ.length := by rw [I.len]; exact (List.getElem?_eq_some_iff.mp hi).1
  have cne := I.cne
  have tracked : ∀ {a : Addr} {h' : Heap}, (∃ o, s.heap.get? a = some o ∧ H a = none) → Heap.SameBut a s.heap h' → HOk X.prog X.w H h' := fun {a h'} ha hs b ob e => by
    obtain ⟨_, _, hfree⟩ := ha
    refine (I.hok b ob e).stay (fun c w' hc q => (hs.2 c ?_).trans q) (fun _ q => q) fun _ _ q => q
    rintro rfl
    rcases hc with rfl | hc
    · rw [hfree] at e; cases e
    · rw [hfree] at hc; cases hc
  rcases hx with hk | hk
  · refine wpAny_storeName_local hk hn (fun h' hn' hs => ?_) hcls
    obtain ⟨oL, _, _, hoL, _⟩ := id hn
    refine h _ ⟨I.ok, I.os, I.bare, ⟨fun b o e n hb hx => ?_, fun b o e n hb hx => ?_, I.base.free, fun b o e hx => ?_, I.base.tups, I.base.frzs, I.base.tbls⟩, ⟨_, hn', fun j y v' e1 e2 e3 => ?_⟩, fun y c e => ?_, I.free, I.freeC, fun p hp => ?_, tracked ⟨oL, hoL, I.free⟩ hs, by simpa using I.len⟩ ⟨_, hs, .inl rfl⟩
    · exact (hs.2 b (Nat.ne_of_lt (Nat.lt_of_lt_of_le (Heap.lt_size e) I.ok.above))).trans (I.base.keep b o e n hb hx)
    · obtain ⟨sl, e1⟩ := I.base.slot b o e n hb hx
      exact ⟨sl, (hs.2 b (Nat.ne_of_lt (Nat.lt_of_lt_of_le (Heap.lt_size e) I.ok.above))).trans e1⟩
    · obtain ⟨o', e1⟩ := I.base.there b o e hx
      exact ⟨o', (hs.2 b (Nat.ne_of_lt (Nat.lt_of_lt_of_le (Heap.lt_size e) I.ok.above))).trans e1⟩
    · by_cases hj : j = i
      · subst hj
        rw [hi] at e1; cases e1
        rw [List.getElem?_set_self hiσ] at e2
        cases e2
        exact ⟨u, r, .inl ⟨hk, by simp⟩⟩
      · rw [List.getElem?_set_ne (Ne.symm hj)] at e2
        obtain ⟨u', r', q⟩ := hl j y v' e1 e2 e3
        refine ⟨u', r', ?_⟩
        rcases q with ⟨k, e⟩ | ⟨k, c, e, z⟩
        · refine .inl ⟨k, ?_⟩
          have : y ≠ x := fun e => hj (nodup_ix hN e1 (e ▸ hi))
          simp [this, e]
        · exact .inr ⟨k, c, e, z.sameBut hs (cne y c e)⟩
    · obtain ⟨w', z⟩ := I.cell y c e
      exact ⟨w', z.sameBut hs (cne y c e)⟩
    · obtain ⟨e, n, ne, nf, d⟩ := I.pin p hp
      exact ⟨(hs.2 p.1 ne).trans e, n, ne, nf, d⟩
  · have hfn : X.fn x = true := by
      rcases hf with z | z
      · exact z
      · rw [z] at hk; cases hk
    obtain ⟨c, hc⟩ := I.ok.has x (.inl hk)
    obtain ⟨w', z⟩ := I.cell x c hc
    refine wpAny_storeName_cell I.ok.kind hk hc z (fun h' hc' hs => ?_)
    obtain ⟨oc, hoc, hocd⟩ := id z
    refine h { s with heap := h' } ⟨I.ok, I.os, I.bare, ⟨fun b o e n hb hx => ?_, fun b o e n hb hx => ?_, I.base.free, fun b o e hx => ?_, I.base.tups, I.base.frzs, I.base.tbls⟩, ⟨m, hn.sameBut hs (Ne.symm (cne x c hc)), fun j y v' e1 e2 e3 => ?_⟩, fun y c' e => ?_, I.free, I.freeC, fun p hp => ?_, tracked ⟨oc, hoc, I.freeC x c hc⟩ hs, by simpa using I.len⟩ ⟨c, hs, .inr hc⟩
    · exact (hs.2 b (Nat.ne_of_lt (Nat.lt_of_lt_of_le (Heap.lt_size e) (I.ok.cab x c hfn hc)))).trans (I.base.keep b o e n hb hx)
    · obtain ⟨sl, e1⟩ := I.base.slot b o e n hb hx
      exact ⟨sl, (hs.2 b (Nat.ne_of_lt (Nat.lt_of_lt_of_le (Heap.lt_size e) (I.ok.cab x c hfn hc)))).trans e1⟩
    · obtain ⟨o', e1⟩ := I.base.there b o e hx
      exact ⟨o', (hs.2 b (Nat.ne_of_lt (Nat.lt_of_lt_of_le (Heap.lt_size e) (I.ok.cab x c hfn hc)))).trans e1⟩
    · by_cases hj : j = i
      · subst hj
        rw [hi] at e1; cases e1
        rw [List.getElem?_set_self hiσ] at e2
        cases e2
        exact ⟨u, r, .inr ⟨.inl hk, c, hc, hc'⟩⟩
      · rw [List.getElem?_set_ne (Ne.symm hj)] at e2
        obtain ⟨u', r', q⟩ := hl j y v' e1 e2 e3
        refine ⟨u', r', ?_⟩
        rcases q with q | ⟨k, c', e, z'⟩
        · exact .inl q
        · refine .inr ⟨k, c', e, z'.sameBut hs ?_⟩
          rintro rfl
          exact hj (nodup_ix hN e1 (I.ok.inj _ _ _ e hc ▸ hi))
    · by_cases hcc : c' = c
      · subst hcc; exact ⟨_, hc'⟩
      · obtain ⟨w2, z2⟩ := I.cell y c' e
        exact ⟨w2, z2.sameBut hs hcc⟩
    · obtain ⟨e, n, ne, nf, d⟩ := I.pin p hp
      refine ⟨(hs.2 p.1 ?_).trans e, n, ne, nf, d⟩
      intro q
      rw [q, hoc] at e
      have q' : oc = p.2 := Option.some.inj e
      exact d w' (by rw [← q']; exact hocd)
theorem store_ok {M : Model} {A : Around} {E : Value → Shared → Prop} {i : Nat} {x : Str} {v : V} {u : Value} {Q : Unit → Shared → Prop} (I : Inv X pins σ H s) (hN : X.N.Nodup) (hi : X.N[i]? = some x) (hx : Loc X.env.scope x) (r : RelV v u)
    (h : ∀ s', Inv X pins (σ.set i (some v)) H s' → Q () s') (hf : X.fn x = true ∨ X.env.scope.names.lookup x = some .local := by first | exact .inl rfl | exact .inr rfl | assumption) : wpAny M A (storeName X.env x u) Q E s :=
  store_ok2 I hN hi hx r (fun s' I' _ => h s' I') hf
end
abbrev XK := Value → Option Addr → Hp → Prop
abbrev St := List (Option V)
abbrev VK := V → Hp → Prop
abbrev TE := St → Hp → VK → Prop
abbrev TT := St → Hp → (Bool → Hp → Prop) → Prop
abbrev TA := St → Hp → (List V → Hp → Prop) → Prop
structure Ends where
  nx : St → Hp → Prop
  rt : VK
  bk : St → Hp → Prop := fun _ _ => False
  ct : St → Hp → Prop := fun _ _ => False
abbrev TS := Ends → St → Hp → Prop
def EP (X : Cx) (pins : List (Addr × Obj)) (σ : St) (Q : VK) (u : Value) (s' : Shared) : Prop := ∃ v H', Inv X pins σ H' s' ∧ RelV v u ∧ Q v H'
def TP (X : Cx) (pins : List (Addr × Obj)) (σ : St) (Q : Bool → Hp → Prop) (b : Bool) (s' : Shared) : Prop := ∃ H', Inv X pins σ H' s' ∧ Q b H'
def AP (X : Cx) (pins : List (Addr × Obj)) (σ : St) (Q : List V → Hp → Prop) (us : List Value) (s' : Shared) : Prop := ∃ vs H', Inv X pins σ H' s' ∧ Vals vs us ∧ Q vs H'
def SP (X : Cx) (pins : List (Addr × Obj)) (D : Ends) (f : Flow) (s' : Shared) : Prop :=
  match f with
  | .next => ∃ σ' H', Inv X pins σ' H' s' ∧ D.nx σ' H'
  | .brk => ∃ σ' H', Inv X pins σ' H' s' ∧ D.bk σ' H'
  | .cont => ∃ σ' H', Inv X pins σ' H' s' ∧ D.ct σ' H'
  | .ret u => ∃ v σ' H', Inv X pins σ' H' s' ∧ RelV v u ∧ D.rt v H'
def PE (X : Cx) (e : Expr) (t : TE) : Prop :=
  ∀ (pins : List (Addr × Obj)) (s : Shared) (σ : St) (H : Hp) (Q : VK), Inv X pins σ H s → t σ H Q → wpAny (model X.prog X.w) X.A (eval e X.env) (EP X pins σ Q) X.xe s
def PT (X : Cx) (e : Expr) (t : TT) : Prop :=
  ∀ (pins : List (Addr × Obj)) (s : Shared) (σ : St) (H : Hp) (Q : Bool → Hp → Prop), Inv X pins σ H s → t σ H Q → wpAny (model X.prog X.w) X.A (isTrue e X.env (eval e X.env)) (TP X pins σ Q) X.xe s
def PW (X : Cx) (e : Expr) (t : TT) : Prop :=
  ∀ (whole : Sem Value) (pins : List (Addr × Obj)) (s : Shared) (σ : St) (H : Hp) (Q : Bool → Hp → Prop), Inv X pins σ H s → t σ H Q → wpAny (model X.prog X.w) X.A (isTrue e X.env whole) (TP X pins σ Q) X.xe s
theorem PW.pt {X : Cx} {e : Expr} {t : TT} (h : PW X e t) : PT X e t := h _
def PA (X : Cx) (es : List Expr) (t : TA) : Prop :=
  ∀ (pos : Pos) (pins : List (Addr × Obj)) (s : Shared) (σ : St) (H : Hp) (Q : List V → Hp → Prop), Inv X pins σ H s → t σ H Q → wpAny (model X.prog X.w) X.A (spliced (backTo pos (starEach es X.env))) (AP X pins σ Q) X.xe s
def PS (X : Cx) (st : Stmt) (t : TS) : Prop :=
  ∀ (pins : List (Addr × Obj)) (s : Shared) (σ : St) (H : Hp) (D : Ends), Inv X pins σ H s → t D σ H → wpAny (model X.prog X.w) X.A (exec st X.env) (SP X pins D) X.xe s
def PSs (X : Cx) (st : List Stmt) (t : TS) : Prop :=
  ∀ (pins : List (Addr × Obj)) (s : Shared) (σ : St) (H : Hp) (D : Ends), Inv X pins σ H s → t D σ H → wpAny (model X.prog X.w) X.A (execs st X.env) (SP X pins D) X.xe s
theorem thn {α : Type} {t : Sem α} {Q Q' : α → Shared → Prop} {M : Model} {A : Around} {E : Value → Shared → Prop} {s : Shared} (h : wpAny M A t Q E s) (hQ : ∀ a s, Q a s → Q' a s) : wpAny M A t Q' E s := wpAny_mono h hQ fun _ _ x => x
end L2
namespace L2
open PySem PySem.Spec PyProof.Rows
section
variable {X : Cx}
def tVar (i : Nat) : TE := fun σ H Q => ∃ v, σ[i]? = some (some v) ∧ Q v H
def tC (v : V) : TE := fun _ H Q => Q v H
theorem pe_var {i : Nat} {x : Str} {pos : Pos} (hN : X.N[i]? = some x) (hv : Vis X.env.scope x) (hd : (x == ("__debug__" : Str)) = false := by decide) (hcd : (x == ("__classdict__" : Str)) = false := by decide) : PE X (.Name x pos) (tVar i) := by
  intro pins s σ H Q I h
  obtain ⟨v, e, h⟩ := h
  obtain ⟨m, hn, hl⟩ := I.loc
  obtain ⟨u, r, l⟩ := hl i x v hN e hv
  have fin : EP X pins σ Q u s := ⟨v, H, I, r, h⟩
  rcases l with ⟨hk, hm⟩ | ⟨hk, c, hc, hcell⟩
  · exact wpAny_Name (wpAny_loadName_local I.ok.kind hk hn hm fin) hd
  · rcases hk with hk | hk
    · exact wpAny_Name (wpAny_loadName_cell I.ok.kind hk hc hcell fin) hd
    · exact wpAny_Name (wpAny_loadName_free I.ok.kind hk hc hcell fin hcd) hd
theorem pe_int {i j pos} : PE X (.Constant (.int i) j pos) (tC (.int i)) := fun _ _ _ H _ I h => wpAny_Constant_int ⟨.int i, H, I.tok _, ⟨_, rfl⟩, h⟩
theorem pe_bl {b j pos} : PE X (.Constant (.bool b) j pos) (tC (.bl b)) := fun _ _ _ H _ I h => Constant_bool ⟨.bl b, H, I, rfl, h⟩
theorem pe_non {j pos} : PE X (.Constant .none j pos) (tC .non) := fun _ _ _ H _ I h => Constant_none ⟨.non, H, I, rfl, h⟩
theorem pe_str {x j pos} : PE X (.Constant (.str x) j pos) (tC (.str x)) := fun _ _ _ H _ I h => Calls.Constant_str ⟨.str x, H, I.tok _, ⟨_, rfl⟩, h⟩
def Gl (X : Cx) (x : Str) : Prop := X.env.kindOf x = some .globalImplicit
theorem ld_glob {E : Value → Shared → Prop} {pins : List (Addr × Obj)} {s : Shared} {σ : St} {H : Hp} {x : Str} {u : Value} {pos : Pos} {Q : Value → Shared → Prop} (I : Inv X pins σ H s) (hg : Gl X x) (hm : X.mg x = some u) (h : Q u s)
    (hd : (x == ("__debug__" : Str)) = false := by decide) : wpAny (model X.prog X.w) X.A (eval (.Name x pos) X.env) Q E s :=
  Calls.Name_function_global I.ok.kind hg (Calls.loadGlobal_global (by rw [I.ok.glob]; exact I.mod.glob.keeps I.bk) hm h) hd
theorem ld_blt {E : Value → Shared → Prop} {pins : List (Addr × Obj)} {s : Shared} {σ : St} {H : Hp} {x : Str} {u : Value} {pos : Pos} {Q : Value → Shared → Prop} (I : Inv X pins σ H s) (hg : Gl X x) (hm : X.mg x = none) (hv : bootBuiltins x = some u) (h : Q u s)
    (hn : x ≠ "__name__" := by decide) (hd : (x == ("__debug__" : Str)) = false := by decide) : wpAny (model X.prog X.w) X.A (eval (.Name x pos) X.env) Q E s := by
  obtain ⟨mb, h1, h2⟩ := I.mod.blt
  exact Calls.Name_function_global I.ok.kind hg (Calls.loadGlobal_builtin (by rw [I.ok.glob]; exact I.mod.glob.keeps I.bk) hm (by rw [I.ok.blt]; exact h1.keeps I.bk) ((h2 x hn).trans hv) h) hd
variable {a b : Expr} {ta tb : TE} {pos : Pos}
def PC (X : Cx) (op : CmpOp) (a b : Expr) (t : TE) : Prop :=
  ∀ (pins : List (Addr × Obj)) (s : Shared) (σ : St) (H : Hp) (Q : VK), Inv X pins σ H s → t σ H Q →
    wpAny (model X.prog X.w) X.A (eval a X.env) (fun v s₁ => wpAny (model X.prog X.w) X.A (eval b X.env) (fun u s₂ => wpAny (model X.prog X.w) X.A (compareOp op v u) (EP X pins σ Q) X.xe s₂) X.xe s₁) X.xe s
theorem nobehind (b : Expr) {op : CmpOp} (h : op ≠ .In) (h2 : op ≠ .NotIn) : behindInMarks op b = false := by
  have e1 : (op == CmpOp.In) = false := by cases op <;> first | rfl | exact absurd rfl h
  have e2 : (op == CmpOp.NotIn) = false := by cases op <;> first | rfl | exact absurd rfl h2
  cases b <;> simp [behindInMarks, e1, e2]
def tIsN (ta : TE) : TE := fun σ H Q => ta σ H fun x H1 => Q (.bl (decide (x = .non))) H1
def tNotN (ta : TE) : TE := fun σ H Q => ta σ H fun x H1 => Q (.bl (!decide (x = .non))) H1
theorem RelV.none_iff {x : V} {v : Value} (r : RelV x v) : (v == Value.none) = decide (x = .non) := by
  cases x with
  | non => cases r; rfl
  | bl _ => cases r; rfl
  | int _ => obtain ⟨t, rfl⟩ := r; rfl
  | str _ => obtain ⟨t, rfl⟩ := r; rfl
  | byt _ => obtain ⟨t, rfl⟩ := r; rfl
  | flt _ => obtain ⟨t, rfl⟩ := r; rfl
  | ref _ => cases r; rfl
  | ty _ => cases r; rfl
theorem pc_isN {j pos'} (ha : PE X a ta) : PC X .Is a (.Constant .none j pos') (tIsN ta) := by
  intro pins s σ H Q I h
  refine thn (ha pins s σ H _ I h) fun v s1 ⟨x, H1, I1, r1, q1⟩ => ?_
  exact Constant_none (is_none_gen ⟨.bl _, H1, I1, by rw [r1.none_iff]; rfl, q1⟩)
theorem pc_notN {j pos'} (ha : PE X a ta) : PC X .IsNot a (.Constant .none j pos') (tNotN ta) := by
  intro pins s σ H Q I h
  refine thn (ha pins s σ H _ I h) fun v s1 ⟨x, H1, I1, r1, q1⟩ => ?_
  exact Constant_none (isnot_none_gen ⟨.bl _, H1, I1, by rw [r1.none_iff]; rfl, q1⟩)
def tB (t : TE) : TT := fun σ H Q => t σ H fun x H1 => ∃ c, x = .bl c ∧ Q c H1
theorem pt_cmp {op : CmpOp} {t : TE} (h : PC X op a b t) (h1 : behindInMarks op b = false := by first | exact nobehind _ (by decide) (by decide) | rfl) : PT X (.Compare a [op] [b] pos) (tB t) := by
  intro pins s σ H Q I hw
  refine wpAny_isTrue_Compare1 (thn (h pins s σ H _ I hw) fun v s1 h1 => thn h1 fun u s2 h2 => thn h2 fun c s3 ⟨x, H1, I1, r1, q1⟩ => ?_) h1
  obtain ⟨d, rfl, q⟩ := q1
  cases r1
  exact wpAny_truthy_bool ⟨H1, I1, q⟩
theorem pt_val {e : Expr} {t : TE} (h : PE X e t) (he : ∀ whole, isTrue e X.env whole = (do let v ← whole; standAt e.pos; holding [v] (truthy v)) := by intro _; rfl) : PT X e (tB t) := by
  intro pins s σ H Q I hw
  refine isTrue_plain (thn (h pins s σ H _ I hw) fun v s1 ⟨x, H1, I1, r1, q1⟩ => ?_) (he _)
  obtain ⟨d, rfl, q⟩ := q1
  cases r1
  exact wpAny_truthy_bool ⟨H1, I1, q⟩
variable {tA tB' : TT} {rest : List Expr}
def tAnd (t u : TT) : TT := fun σ H Q => t σ H fun c H1 => if c = true then u σ H1 Q else Q false H1
def tOr (t u : TT) : TT := fun σ H Q => t σ H fun c H1 => if c = true then Q true H1 else u σ H1 Q
def tNot (t : TT) : TT := fun σ H Q => t σ H fun c H1 => Q (!c) H1
theorem pw_and1 (ha : PT X a tA) : PW X (.BoolOp .And [a] pos) tA := by
  intro wh pins s σ H Q I h
  refine isTrue_and (thn (ha pins s σ H Q I h) fun c s1 e => ?_)
  cases c with
  | true => exact isTrue_and_nil e
  | false => exact e
theorem pw_or1 (ha : PT X a tA) : PW X (.BoolOp .Or [a] pos) tA := by
  intro wh pins s σ H Q I h
  refine isTrue_or (thn (ha pins s σ H Q I h) fun c s1 e => ?_)
  cases c with
  | false => exact isTrue_or_nil e
  | true => exact e
theorem pw_and (ha : PT X a tA) (hb : PW X (.BoolOp .And (b :: rest) pos) tB') : PW X (.BoolOp .And (a :: b :: rest) pos) (tAnd tA tB') := by
  intro wh pins s σ H Q I h
  refine isTrue_and (thn (ha pins s σ H _ I h) fun c s1 ⟨H1, I1, q1⟩ => ?_)
  cases c with
  | true => exact hb wh pins s1 σ H1 Q I1 q1
  | false => exact ⟨H1, I1, q1⟩
theorem pw_or (ha : PT X a tA) (hb : PW X (.BoolOp .Or (b :: rest) pos) tB') : PW X (.BoolOp .Or (a :: b :: rest) pos) (tOr tA tB') := by
  intro wh pins s σ H Q I h
  refine isTrue_or (thn (ha pins s σ H _ I h) fun c s1 ⟨H1, I1, q1⟩ => ?_)
  cases c with
  | true => exact ⟨H1, I1, q1⟩
  | false => exact hb wh pins s1 σ H1 Q I1 q1
end
end L2
namespace L2
open PySem PySem.Spec PyProof.Rows
def SqL (K : PySem.W.Frag) (H : Hp) (a : Addr) (xs : List V) : Prop :=
  Rd H a (.lst xs) ∨
    ∃ (o : Obj) (its : Array Value) (n : Nat), K.lookup a = some o ∧ o.cls = .type "list" ∧ o.dict = none ∧ o.data = .seq its n ∧ its.size ≤ sizeLine ∧ Vals xs its.toList
def SqT (K : PySem.W.Frag) (H : Hp) (a : Addr) (xs : List V) : Prop :=
  Rd H a (.tup xs) ∨
    ∃ (o : Obj) (its : Array Value) (n : Nat), K.lookup a = some o ∧ o.cls = .type "tuple" ∧ o.data = .seq its n ∧ its.size ≤ sizeLine ∧ Vals xs its.toList
def absV : Value → Option V
  | .none => some .non
  | .bool b => some (.bl b)
  | .int i _ => some (.int i)
  | .str x _ => some (.str x)
  | .bytes b _ => some (.byt b)
  | .float b _ => some (.flt b)
  | .ref a => some (.ref a)
  | .type n => some (.ty n)
  | _ => none
theorem RelV.abs {x : V} {u : Value} (r : RelV x u) : absV u = some x := by
  cases x with
  | non => cases r; rfl
  | bl _ => cases r; rfl
  | int _ => obtain ⟨t, rfl⟩ := r; rfl
  | str _ => obtain ⟨t, rfl⟩ := r; rfl
  | byt _ => obtain ⟨t, rfl⟩ := r; rfl
  | flt _ => obtain ⟨t, rfl⟩ := r; rfl
  | ref _ => cases r; rfl
  | ty _ => cases r; rfl
theorem RelV.inj {x y : V} {u : Value} (r : RelV x u) (q : RelV y u) : x = y := Option.some.inj (r.abs.symm.trans q.abs)
theorem Vals.inj : ∀ {xs ys : List V} {us : List Value}, Vals xs us → Vals ys us → xs = ys
  | _, _, _, .nil, .nil => rfl
  | _, _, _, .cons r t, .cons r' t' => by rw [r.inj r', Vals.inj t t']
section
variable {X : Cx} {pins : List (Addr × Obj)} {σ : St} {H : Hp} {s : Shared} {a : Addr} {xs ys : List V}
theorem SqL.of {K : PySem.W.Frag} (h : H a = some (.lst xs)) : SqL K H a xs := .inl (.inl h)
theorem SqT.of {K : PySem.W.Frag} (h : H a = some (.tup xs)) : SqT K H a xs := .inl (.inl h)
theorem Inv.list (I : Inv X pins σ H s) (h : SqL X.K H a xs) : ∃ its : List Value, Vals xs its ∧ PlainL s.heap a its.toArray ∧ xs.length ≤ sizeLine := by
  rcases h with h | ⟨o, its, n, hk, hc, hd, hs, hz, r⟩
  · obtain ⟨z, its, n, r, e⟩ := h.ok I.hok
    exact ⟨its, r, ⟨_, n, e, rfl, rfl, rfl⟩, z⟩
  · refine ⟨its.toList, r, ⟨o, n, I.kIn a o hk, hc, hd, by simpa using hs⟩, ?_⟩
    have e := r.length
    simp only [Array.length_toList] at e
    omega
theorem Inv.tuple (I : Inv X pins σ H s) (h : SqT X.K H a xs) : ∃ its : List Value, Vals xs its ∧ IsTup s.heap a its.toArray ∧ xs.length ≤ sizeLine := by
  rcases h with h | ⟨o, its, n, hk, hc, hs, hz, r⟩
  · obtain ⟨z, its, r, p⟩ := h.ok I.hok
    exact ⟨its, r, p, z⟩
  · refine ⟨its.toList, r, ⟨o, I.kIn a o hk, hc, n, by simpa using hs⟩, ?_⟩
    have e := r.length
    simp only [Array.length_toList] at e
    omega
theorem Inv.list_inj (I : Inv X pins σ H s) (h : SqL X.K H a xs) (h' : SqL X.K H a ys) : xs = ys := by
  obtain ⟨its, r, ⟨o, n, e, _, _, d⟩, _⟩ := I.list h
  obtain ⟨its', r', ⟨o', n', e', _, _, d'⟩, _⟩ := I.list h'
  rw [e] at e'; cases e'
  rw [d] at d'
  injection d' with d1 _
  have : its = its' := by simpa using congrArg Array.toList d1
  subst this
  exact r.inj r'
end
abbrev Cx.wish (X : Cx) (E : Value → Shared → Prop) : Cx := { X with xe := E }
abbrev Cx.nox (X : Cx) : Cx := X.wish fun _ _ => False
theorem Cx.Ok.wish {X : Cx} (ok : X.Ok) (E : Value → Shared → Prop) : (X.wish E).Ok :=
  ⟨ok.mod, ok.kind, ok.glob, ok.blt, ok.above, ok.inj, ok.has, ok.cab, ok.hd, ok.frames, ok.stk, ok.exf, ok.bs, ok.bsz, ok.noex, ok.exfs, ok.funs, ok.frf⟩
theorem Cx.Ok.unwish {X : Cx} {E : Value → Shared → Prop} (ok : (X.wish E).Ok) : X.Ok :=
  ⟨ok.mod, ok.kind, ok.glob, ok.blt, ok.above, ok.inj, ok.has, ok.cab, ok.hd, ok.frames, ok.stk, ok.exf, ok.bs, ok.bsz, ok.noex, ok.exfs, ok.funs, ok.frf⟩
section
variable {X : Cx} {pins : List (Addr × Obj)} {σ : St} {H : Hp} {s : Shared} {E : Value → Shared → Prop}
theorem Inv.wish (I : Inv X pins σ H s) (E : Value → Shared → Prop) : Inv (X.wish E) pins σ H s := ⟨I.ok.wish E, I.os, I.bare, I.base, I.loc, I.cell, I.free, I.freeC, I.pin, I.hok, I.len⟩
theorem Inv.unwish (I : Inv (X.wish E) pins σ H s) : Inv X pins σ H s := ⟨I.ok.unwish, I.os, I.bare, I.base, I.loc, I.cell, I.free, I.freeC, I.pin, I.hok, I.len⟩
theorem SP.unwish {D : Ends} {f : Flow} {s' : Shared} (h : SP (X.wish E) pins D f s') : SP X pins D f s' := by
  cases f with
  | next => obtain ⟨σ', H', I, q⟩ := h; exact ⟨σ', H', I.unwish, q⟩
  | brk => obtain ⟨σ', H', I, q⟩ := h; exact ⟨σ', H', I.unwish, q⟩
  | cont => obtain ⟨σ', H', I, q⟩ := h; exact ⟨σ', H', I.unwish, q⟩
  | ret u => obtain ⟨v, σ', H', I, r, q⟩ := h; exact ⟨v, σ', H', I.unwish, r, q⟩
theorem PE.nox {e : Expr} {t : TE} (h : PE X.nox e t) : PE X e t := fun pins s σ H Q I hw =>
  wpAny_mono (h pins s σ H Q (I.wish _) hw) (fun _ _ ⟨v, H', I', r, q⟩ => ⟨v, H', I'.unwish, r, q⟩) fun _ _ z => False.elim z
theorem PT.nox {e : Expr} {t : TT} (h : PT X.nox e t) : PT X e t := fun pins s σ H Q I hw =>
  wpAny_mono (h pins s σ H Q (I.wish _) hw) (fun _ _ ⟨H', I', q⟩ => ⟨H', I'.unwish, q⟩) fun _ _ z => False.elim z
theorem PSs.nox {st : List Stmt} {t : TS} (h : PSs X.nox st t) : PSs X st t := fun pins s σ H D I hw =>
  wpAny_mono (h pins s σ H D (I.wish _) hw) (fun _ _ q => q.unwish) fun _ _ z => False.elim z
end
section
variable {X : Cx} {st : Stmt} {rest : List Stmt} {t u : TS} {e : Expr} {te : TE} {pos : Pos}
def tNext : TS := fun D σ H => D.nx σ H
def tSeq (t u : TS) : TS := fun D σ H => t { D with nx := u D } σ H
theorem pss_nil : PSs X [] tNext := fun _ _ σ H _ I h => wpAny_execs_nil ⟨σ, H, I, h⟩
theorem pss_cons (h1 : PS X st t) (h2 : PSs X rest u) : PSs X (st :: rest) (tSeq t u) := by
  intro pins s σ H D I h
  refine wpAny_execs_cons (thn (h1 pins s σ H { D with nx := u D } I h) fun f s1 q => ?_)
  cases f with
  | next =>
    obtain ⟨σ', H', I', q⟩ := q
    exact h2 pins s1 σ' H' D I' q
  | ret v => exact q
  | brk => exact q
  | cont => exact q
theorem pss_one (h1 : PS X st t) : PSs X [st] t := by
  intro pins s σ H D I h
  refine wpAny_execs_cons (thn (h1 pins s σ H D I h) fun f s1 q => ?_)
  cases f with
  | next => exact wpAny_execs_nil q
  | ret v => exact q
  | brk => exact q
  | cont => exact q
theorem Inv.quiet {pins : List (Addr × Obj)} {σ : St} {H : Hp} {s : Shared} (I : Inv X pins σ H s) : interactive X.env = false := by simp [interactive, I.ok.kind]
def tDrop (te : TE) : TS := fun D σ H => te σ H fun _ H1 => D.nx σ H1
theorem ps_expr (he : PE X e te) (hs : swapsWith e none pos.line X.env = pure false := by rfl) : PS X (.Expr e pos) (tDrop te) := by
  intro pins s σ H D I h
  exact wpAny_Expr_any (thn (he pins s σ H _ I h) fun v s1 ⟨x, H1, I1, r1, q1⟩ => ⟨σ, H1, I1, q1⟩) I.quiet hs
def tRet (te : TE) : TS := fun D σ H => te σ H D.rt
theorem ps_ret (he : PE X e te) : PS X (.Return (some e) pos) (tRet te) := by
  intro pins s σ H D I h
  exact wpAny_Return_some (thn (he pins s σ H _ I h) fun v s1 ⟨x, H1, I1, r1, q1⟩ => ⟨x, σ, H1, I1, r1, q1⟩)
def tIfS (c : TT) (t u : TS) : TS := fun D σ H => c σ H fun b H1 => if b = true then t D σ H1 else u D σ H1
theorem ps_if {c : Expr} {a b : List Stmt} {tc : TT} (hc : PT X c tc) (ha : PSs X a t) (hb : PSs X b u) : PS X (.If c a b pos) (tIfS tc t u) := by
  intro pins s σ H D I h
  refine wpAny_If (thn (hc pins s σ H _ I h) fun d s1 ⟨H1, I1, q1⟩ => ?_)
  cases d with
  | true => exact ha pins s1 σ H1 D I1 q1
  | false => exact hb pins s1 σ H1 D I1 q1
end
abbrev TG := V → St → Hp → (St → Hp → Prop) → Prop
abbrev TGs := List V → St → Hp → (St → Hp → Prop) → Prop
def PG (X : Cx) (target : Expr) (t : TG) : Prop :=
  ∀ (pins : List (Addr × Obj)) (s : Shared) (σ : St) (H : Hp) (v : V) (u : Value) (Q : St → Hp → Prop), Inv X pins σ H s → RelV v u → t v σ H Q →
    wpAny (model X.prog X.w) X.A (assign target X.env u) (fun _ s' => ∃ σ' H', Inv X pins σ' H' s' ∧ Q σ' H') X.xe s
def PGs (X : Cx) (ts : List Expr) (t : TGs) : Prop :=
  ∀ (pins : List (Addr × Obj)) (s : Shared) (σ : St) (H : Hp) (vs : List V) (us : List Value) (Q : St → Hp → Prop), Inv X pins σ H s → Vals vs us → t vs σ H Q →
    wpAny (model X.prog X.w) X.A (assignInOrder ((assignEach ts X.env).map (·.2)) us) (fun _ s' => ∃ σ' H', Inv X pins σ' H' s' ∧ Q σ' H') X.xe s
abbrev TSet := V → V → V → Hp → (Hp → Prop) → Prop
def PSet (X : Cx) (t : TSet) : Prop :=
  ∀ (pins : List (Addr × Obj)) (s : Shared) (σ : St) (H : Hp) (o i v : V) (ov iv u : Value) (Q : Hp → Prop), Inv X pins σ H s → RelV o ov → RelV i iv → RelV v u → t o i v H Q →
    wpAny (model X.prog X.w) X.A (setItem ov iv u) (fun _ s' => ∃ H', Inv X pins σ H' s' ∧ Q H') X.xe s
section
variable {X : Cx} {pos : Pos}
def gName (i : Nat) : TG := fun v σ H Q => Q (σ.set i (some v)) H
theorem pg_name {i : Nat} {x : Str} (hN : X.N.Nodup) (hi : X.N[i]? = some x) (hx : Loc X.env.scope x) (hf : X.fn x = true ∨ X.env.scope.names.lookup x = some .local := by first | exact .inl rfl | exact .inr rfl | assumption) : PG X (.Name x pos) (gName i) := by
  intro pins s σ H v u Q I r h
  exact wpAny_assign_Name (store_ok I hN hi hx r (fun s' I' => ⟨_, H, I', h⟩) hf)
def gNil : TGs := fun vs σ H Q => vs = [] ∧ Q σ H
def gCons (t : TG) (u : TGs) : TGs := fun vs σ H Q => ∃ v r, vs = v :: r ∧ t v σ H fun σ' H' => u r σ' H' Q
theorem pgs_nil : PGs X [] gNil := by
  intro pins s σ H vs us Q I r h
  obtain ⟨e, h⟩ := h
  subst e
  cases r
  exact assignInOrder_nil ⟨σ, H, I, h⟩
theorem pgs_cons {e : Expr} {es : List Expr} {t : TG} {u : TGs} (h1 : PG X e t) (h2 : PGs X es u)
    (hs : (assignEach (e :: es) X.env).map (·.2) = assign e X.env :: (assignEach es X.env).map (·.2) := by rfl) : PGs X (e :: es) (gCons t u) := by
  intro pins s σ H vs us Q I r h
  obtain ⟨v, vr, e1, h⟩ := h
  subst e1
  cases r with
  | cons r rr =>
    rw [hs]
    refine assignInOrder_cons (thn (h1 pins s σ H _ _ _ I r h) fun _ s1 ⟨σ1, H1, I1, q1⟩ => ?_)
    exact h2 pins s1 σ1 H1 _ _ Q I1 rr q1
def gTup (K : PySem.W.Frag) (n : Nat) (t : TGs) : TG := fun v σ H Q => ∃ a xs, v = .ref a ∧ SqT K H a xs ∧ xs.length = n ∧ t xs σ H Q
theorem pg_tup {es : List Expr} {k : Nat} {t : TGs} {n : Nat} (hc : X.calm = true) (h : PGs X es t)
    (hn : (assignEach es X.env).length = n := by rfl) (hst : (assignEach es X.env).findIdx? (·.1) = none := by rfl) : PG X (.Tuple es k pos) (gTup X.K n t) := by
  intro pins s σ H v u Q I r hw
  obtain ⟨a, xs, e1, hq, hl, hw⟩ := hw
  subst e1
  cases r
  obtain ⟨its, rv, ht, hz⟩ := I.tuple hq
  refine assign_Tuple_tuple (I.ok.hd hc) ht (by simp [hn, ← hl, rv.length]) hst fun h' hx => ?_
  have I1 : Inv X pins σ H { s with heap := h' } := I.kept (t' := s.toks) fun b o e => hx b o (Nat.ne_of_lt (Heap.lt_size e)) e
  exact h pins _ σ H xs _ Q I1 (by simpa using rv) hw
def gSub (to ti : TE) (t : TSet) : TG := fun v σ H Q => to σ H fun o H1 => ti σ H1 fun i H2 => t o i v H2 fun H3 => Q σ H3
theorem pg_sub {o i : Expr} {to ti : TE} {t : TSet} (ho : PE X o to) (hi : PE X i ti) (hs : PSet X t)
    (ha : ∀ v, assign (.Subscript o i pos) X.env v = (do
      let ov ← holding [v] (eval o X.env)
      let iv ← holding [v, ov] (eval i X.env)
      standAt pos
      holding [v, ov, iv] (setItem ov iv v)
      release [v, ov, iv] []) := by intro _; rfl) : PG X (.Subscript o i pos) (gSub to ti t) := by
  intro pins s σ H v u Q I r h
  rw [ha]
  refine wpAny_bind (wpAny_holding (thn (ho pins s σ H _ I h) fun ov s1 ⟨x, H1, I1, r1, q1⟩ => ?_))
  refine wpAny_bind (wpAny_holding (thn (hi pins s1 σ H1 _ I1 q1) fun iv s2 ⟨y, H2, I2, r2, q2⟩ => ?_))
  refine wpAny_bind (wpAny_standAt (wpAny_bind (wpAny_holding (thn (hs pins s2 σ H2 x y v ov iv u _ I2 r1 r2 r q2) fun _ s3 ⟨H3, I3, q3⟩ => ?_))))
  exact wpAny_release ⟨σ, H3, I3, q3⟩
def tAsg (te : TE) (g : TG) : TS := fun D σ H => te σ H fun x H1 => g x σ H1 D.nx
theorem ps_asg {tg e : Expr} {te : TE} {g : TG} (he : PE X e te) (hg : PG X tg g) (hs : swapsWithSole [tg] e pos.line X.env = pure false := by rfl) (hw : swappedStores [tg] e X.env = pure none := by rfl)
    (h1 : (assignEach [tg] X.env).map (·.2) = [assign tg X.env] := by rfl) : PS X (.Assign [tg] e pos) (tAsg te g) := by
  intro pins s σ H D I h
  refine wpAny_Assign_stores (thn (he pins s σ H _ I h) fun v s1 ⟨x, H1, I1, r1, q1⟩ => ?_) hs hw
  rw [h1]
  exact thn (hg pins s1 σ H1 x v _ I1 r1 q1) fun _ s2 q => q
theorem ps_set {i : Nat} {x : Str} {e : Expr} {te : TE} {pos' : Pos} (hN : X.N.Nodup) (hi : X.N[i]? = some x) (hx : Loc X.env.scope x) (he : PE X e te) (hs : swapsWith e (some (.Name x pos')) pos.line X.env = pure false := by rfl) (hf : X.fn x = true ∨ X.env.scope.names.lookup x = some .local := by first | exact .inl rfl | exact .inr rfl | assumption) :
    PS X (.Assign [.Name x pos'] e pos) (tAsg te (gName i)) := by
  intro pins s σ H D I h
  refine wpAny_Assign_Name (thn (he pins s σ H _ I h) fun v s1 ⟨y, H1, I1, r1, q1⟩ => ?_) hs
  exact store_ok I1 hN hi hx r1 (fun s2 I2 => ⟨_, H1, I2, q1⟩) hf
end
section
variable {X : Cx} {pos : Pos}
def tWhile (c : TT) (tb : TS) : TS := fun D σ H => ∃ W : Nat → St → Hp → Prop, (∃ m, W m σ H) ∧ ∀ m σ H, W m σ H →
  c σ H fun b H1 => if b = true then ∃ N : St → Hp → Prop, (∀ σ' H', N σ' H' → ∃ m', m' < m ∧ W m' σ' H') ∧ tb { D with nx := N, ct := N, bk := D.nx } σ H1 else D.nx σ H1
theorem ps_while {c : Expr} {body : List Stmt} {tc : TT} {tb : TS} (hp : PassesOwn (model X.prog X.w) X.A X.env X.xe) (hc : PT X c tc) (hb : PSs X body tb) : PS X (.While c body [] pos) (tWhile tc tb) := by
  intro pins s σ H D I h
  obtain ⟨W, ⟨m0, w0⟩, turn⟩ := h
  refine wpAny_While (codeAny_whileLoop (fun n s' => ∃ σ' H', Inv X pins σ' H' s' ∧ W n σ' H') ?_ m0 ⟨σ, H, I, w0⟩)
  rintro n s1 ⟨σ1, H1, I1, w1⟩
  refine wpAny_passesOwn hp (thn (hc pins s1 σ1 H1 _ I1 (turn n σ1 H1 w1)) fun b s2 ⟨H2, I2, q2⟩ => ?_)
  cases b with
  | true =>
    obtain ⟨N, hN, q2⟩ := q2
    rw [if_pos rfl]
    refine wpAny_passesOwn hp (thn (hb pins s2 σ1 H2 _ I2 q2) fun f s3 q3 => ?_)
    cases f with
    | next =>
      obtain ⟨σ3, H3, I3, n3⟩ := q3
      obtain ⟨m', hm, w3⟩ := hN σ3 H3 n3
      exact ⟨m', hm, σ3, H3, I3, w3⟩
    | cont =>
      obtain ⟨σ3, H3, I3, n3⟩ := q3
      obtain ⟨m', hm, w3⟩ := hN σ3 H3 n3
      exact ⟨m', hm, σ3, H3, I3, w3⟩
    | brk => exact q3
    | ret v => exact q3
  | false =>
    rw [if_neg Bool.false_ne_true]
    exact wpAny_execs_nil ⟨σ1, H2, I2, q2⟩
end
structure It where
  go : Nat → Hp → Prop
  yld : Nat → Hp → V → Hp → Prop
  stop : Nat → Hp → Prop
def FpOk (X : Cx) (pins : List (Addr × Obj)) (H : Hp) (b : Addr) : Prop :=
  H b = none ∧ b ≠ X.env.locals ∧ b ∉ X.fs ∧ (b ∈ X.ex ∨ X.s₀.heap.objs.size ≤ b) ∧ (∀ x c, X.env.cells.lookup x = some c → c ≠ b) ∧ ∀ p ∈ X.pn ++ pins, p.1 ≠ b
theorem Inv.fpOk {X : Cx} {pins : List (Addr × Obj)} {σ : St} {H H' : Hp} {s : Shared} {b : Addr} (I : Inv X pins σ H s) (hb : s.heap.objs.size ≤ b) (hn : H' b = none) : FpOk X pins H' b := by
  refine ⟨hn, Nat.ne_of_gt (Nat.lt_of_lt_of_le I.lt hb), I.nofs hb, .inr (Nat.le_trans I.sz hb), fun x c e z => ?_, fun p hp z => ?_⟩
  · obtain ⟨v, q⟩ := I.cell x c e
    exact absurd (Nat.lt_of_lt_of_le q.lt (by rw [z]; exact hb)) (Nat.lt_irrefl _)
  · exact absurd (Nat.lt_of_lt_of_le (Heap.lt_size (I.pin p hp).1) (by rw [z]; exact hb)) (Nat.lt_irrefl _)
structure Turn (P : Program) (w : World) (K : PySem.W.Frag) (tg : Expr) (J : It) (fp : List Addr) (it : Addr) (tn : Nat → Heap → Prop) : Prop where
  mem : it ∈ fp
  obj : ∀ i h, tn i h → ∀ b ∈ fp, ∃ o, h.get? b = some o ∧ ∀ v, o.data ≠ .cell v
  keep : ∀ i h h', tn i h → (∀ b ∈ fp, ∀ o, h.get? b = some o → h'.get? b = some o) → tn i h'
  item : ∀ (X : Cx), X.prog = P → X.w = w → X.K = K → X.calm = true → ∀ (i : Nat) (pins : List (Addr × Obj)) (s : Shared) (σ : St) (H : Hp) (E : Value → Shared → Prop), Inv X pins σ H s → (∀ b ∈ fp, FpOk X pins H b) → tn i s.heap → J.go i H →
    wpAny (model P w) X.A (pyNext (.ref it)) (fun r s1 => ∃ u, r = some u ∧
      wpAny (model P w) X.A (letOwnedTupleGo tg (.ref it) u) (fun _ s2 => ∃ x H', Inv X pins σ H' s2 ∧ RelV x u ∧ J.yld i H x H' ∧ tn (i + 1) s2.heap ∧ ∀ b ∈ fp, H' b = none) E s1) E s
  done : ∀ (X : Cx), X.prog = P → X.w = w → X.K = K → X.calm = true → ∀ (i : Nat) (pins : List (Addr × Obj)) (s : Shared) (σ : St) (H : Hp) (E : Value → Shared → Prop), Inv X pins σ H s → (∀ b ∈ fp, FpOk X pins H b) → tn i s.heap → J.stop i H →
    wpAny (model P w) X.A (pyNext (.ref it)) (fun r s1 => r = none ∧ Inv X pins σ H s1) E s
  self : ∀ (A : Around) (i : Nat) (s : Shared) (Q : Value → Shared → Prop) (E : Value → Shared → Prop), tn i s.heap → Q (.ref it) s → wpAny (model P w) A (pyIter (.ref it)) Q E s
abbrev TI := St → Hp → (It → Hp → Prop) → Prop
def PIE (X : Cx) (pins : List (Addr × Obj)) (σ : St) (tg : Expr) (R : It → Hp → Prop) (itv : Value) (s2 : Shared) : Prop :=
  ∃ (it : Addr) (fp : List Addr) (tn : Nat → Heap → Prop) (J : It) (H' : Hp), itv = .ref it ∧ Inv X pins σ H' s2 ∧ Turn X.prog X.w X.K tg J fp it tn ∧ tn 0 s2.heap ∧ (∀ b ∈ fp, FpOk X pins H' b) ∧ R J H'
def PI (X : Cx) (tg iter : Expr) (wi : TI) : Prop :=
  ∀ (pins : List (Addr × Obj)) (s : Shared) (σ : St) (H : Hp) (R : It → Hp → Prop), Inv X pins σ H s → wi σ H R →
    wpAny (model X.prog X.w) X.A (eval iter X.env) (fun v s1 => wpAny (model X.prog X.w) X.A (pyIter v) (PIE X pins σ tg R) X.xe s1) X.xe s
theorem go_of {M : Model} {A : Around} {E : Value → Shared → Prop} {s : Shared} {tg : Expr} {it : Addr} {u : Value} {o : Obj} {n : String} {vs : Array Value} {Q : Unit → Shared → Prop} (ho : s.heap.get? it = some o) (hc : o.cls = .type n) (hd : o.data = .fields vs)
    (hn : ["enumerate", "zip", "dict_itemiterator", "dict_reverseitemiterator", "odict_iterator", "itertools.zip_longest", "itertools.pairwise"].contains n = false) (hQ : Q () s) : wpAny M A (letOwnedTupleGo tg (.ref it) u) Q E s := by
  unfold letOwnedTupleGo
  cases tg <;> first
    | exact wpAny_pure hQ
    | (cases u <;> first
        | exact wpAny_pure hQ
        | (refine wpAny_bind (wpAny_load ho ?_)
           rw [hc, hd]
           show wpAny M A (if (["enumerate", "zip", "dict_itemiterator", "dict_reverseitemiterator", "odict_iterator", "itertools.zip_longest", "itertools.pairwise"].contains n && vs[0]? == some (rawInt _)) = true then _ else _) Q E s
           rw [if_neg (by intro h; rw [hn, Bool.false_and] at h; cases h)]
           exact wpAny_pure hQ))
def Itl (K : PySem.W.Frag) (a : Addr) : It :=
  ⟨fun i H => ∃ xs x, SqL K H a xs ∧ xs[i]? = some x, fun i H x H' => H' = H ∧ ∀ xs, SqL K H a xs → xs[i]? = some x, fun i H => ∃ xs, SqL K H a xs ∧ xs.length ≤ i⟩
def Itr (lo : Int) (n : Nat) : It := ⟨fun i _ => i < n, fun i H x H' => H' = H ∧ x = .int (lo + i), fun i _ => n ≤ i⟩
theorem turn_list {P : Program} {w : World} {K : PySem.W.Frag} {tg : Expr} (a it : Addr) : Turn P w K tg (Itl K a) [it] it (fun i h => h.IsListIter it a i) where
  mem := by simp
  obj := fun i h st b hb => by
    have e : b = it := by simpa using hb
    subst e
    obtain ⟨o, e, c, d⟩ := st
    exact ⟨o, e, fun v z => by rw [d] at z; cases z⟩
  keep := fun i h h' st k => st.at fun o e => k it (by simp) o e
  item := by
    intro X hP hw hK hc i pins s σ H E I hf st hg
    subst hP hw hK
    obtain ⟨xs, x, hq, hx⟩ := hg
    obtain ⟨its, rv, p, hz⟩ := I.list hq
    obtain ⟨u, hu, ru⟩ := rv.get hx
    obtain ⟨f0, f1, f2, f3, f4, f5⟩ := hf it (by simp)
    refine wpAny_pyNext_list_item st p.isList (x := u) (by simpa using hu) fun h' st' sb => ?_
    have I1 : Inv X pins σ H { s with heap := h' } := I.turned (t' := s.toks) (fun b o hb e => (sb.2 b hb).trans e) f0 f1 f3 f4 f5
    obtain ⟨o, e, c, d⟩ := id st'
    exact ⟨u, rfl, go_of (s := { s with heap := h' }) e c d (by decide) ⟨x, H, I1, ru, ⟨rfl, fun ys hy => by rw [I.list_inj hy hq]; exact hx⟩, st', fun b hb => (hf b hb).1⟩⟩
  done := by
    intro X hP hw hK hc i pins s σ H E I hf st hg
    subst hP hw hK
    obtain ⟨xs, hq, hx⟩ := hg
    obtain ⟨its, rv, p, hz⟩ := I.list hq
    obtain ⟨f0, f1, f2, f3, f4, f5⟩ := hf it (by simp)
    have hl := rv.length
    exact wpAny_pyNext_list_end (I.ok.hd hc) st p.isList (by simp; omega) fun h' eb => ⟨rfl, I.turned (t' := s.toks) (fun b o hb e => eb b o hb e) f0 f1 f3 f4 f5⟩
  self := fun _ _ _ _ _ st h => wpAny_pyIter_listiter st h
theorem turn_range {P : Program} {w : World} {K : PySem.W.Frag} {tg : Expr} (it : Addr) (lo : Int) (n : Nat) : Turn P w K tg (Itr lo n) [it] it (fun i h => IsRangeIter h it (lo + (i : Nat) * 1) ((n : Int) - (i : Nat)) 1) where
  mem := by simp
  obj := fun i h st b hb => by
    have e : b = it := by simpa using hb
    subst e
    exact ⟨_, st, fun v z => by
      have z' : Data.fields _ = Data.cell v := z
      cases z'⟩
  keep := fun i h h' st k => k it (by simp) _ st
  item := by
    intro X hP hw hK hc i pins s σ H E I hf st hg
    subst hP hw hK
    obtain ⟨f0, f1, f2, f3, f4, f5⟩ := hf it (by simp)
    have W := Walks.range (prog := X.prog) (w := X.w) (I.ok.hd hc) it lo 1 n
    refine W.item i s _ _ hg st fun v h' tk hv st' kk => ?_
    obtain ⟨t, rfl⟩ := hv
    have I1 : Inv X pins σ H { s with heap := h', toks := tk } := I.turned (fun b o hb e => kk b o (by simpa using hb) e) f0 f1 f3 f4 f5
    refine ⟨_, rfl, go_of (s := { s with heap := h', toks := tk }) (n := "range_iterator") st' rfl rfl (by decide) ⟨.int (lo + i), H, I1, ⟨t, ?_⟩, ⟨rfl, rfl⟩, st', fun b hb => (hf b hb).1⟩⟩
    rw [Int.mul_one]
  done := by
    intro X hP hw hK hc i pins s σ H E I hf st hg
    subst hP hw hK
    obtain ⟨f0, f1, f2, f3, f4, f5⟩ := hf it (by simp)
    exact wpAny_pyNext_range_end (I.ok.hd hc) st (by have : n ≤ i := hg; omega) fun h' eb => ⟨rfl, I.turned (t' := s.toks) (fun b o hb e => eb b o hb e) f0 f1 f3 f4 f5⟩
  self := fun _ _ _ _ _ st h => wpAny_pyIter_rangeiter st h
end L2
namespace L2
open PySem PySem.Spec PyProof.Rows
section
variable {X : Cx} {tg : Expr}
def iList (K : PySem.W.Frag) (tl : TE) : TI := fun σ H R => tl σ H fun x H1 => ∃ a, x = .ref a ∧ (∃ xs, SqL K H1 a xs) ∧ R (Itl K a) H1
theorem pi_list {l : Expr} {tl : TE} (hl : PE X l tl) : PI X tg l (iList X.K tl) := by
  intro pins s σ H R I h
  refine thn (hl pins s σ H _ I h) fun v s1 ⟨x, H1, I1, r1, q1⟩ => ?_
  obtain ⟨a, e, ⟨xs, hq⟩, q⟩ := q1
  subst e
  cases r1
  obtain ⟨its, rv, p, hz⟩ := I1.list hq
  refine wpAny_pyIter_list p.isList ?_
  refine ⟨s1.heap.objs.size, [s1.heap.objs.size], _, _, H1, rfl, I1.kept (t' := s1.toks) fun b o e => Heap.get?_push_of_some _ e, turn_list a _, ⟨_, Heap.get?_push_size _ rfl, rfl, rfl⟩, fun b hb => ?_, q⟩
  have e : b = s1.heap.objs.size := by simpa using hb
  subst e
  exact I1.fpOk (Nat.le_refl _) (I1.hok.fresh (Nat.le_refl _))
theorem range_it {pins : List (Addr × Obj)} {σ : St} {H : Hp} {s : Shared} {R : It → Hp → Prop} {E : Value → Shared → Prop} {lo hi : Int} {t u v : Tok} {tk : Nat} (I : Inv X pins σ H s) (h1 : -(2 ^ 62) ≤ lo) (h2 : lo < 2 ^ 62) (h3 : -(2 ^ 62) ≤ hi) (h4 : hi < 2 ^ 62)
    (q : R (Itr lo (hi - lo).toNat) H) : wpAny (model X.prog X.w) X.A (pyIter (.ref s.heap.objs.size)) (PIE X pins σ tg R) E { s with heap := s.heap.push { cls := .type "range", data := .fields #[.int lo t, .int hi u, .int 1 v] }, toks := tk } := by
  refine wpAny_pyIter_range (IsRange.new ..) (small_one h1 h2 h3 h4) ?_
  have I1 : Inv X pins σ H { s with heap := s.heap.push { cls := .type "range", data := .fields #[.int lo t, .int hi u, .int 1 v] }, toks := tk } := I.kept fun b o e => Heap.get?_push_of_some _ e
  refine ⟨(s.heap.push { cls := .type "range", data := .fields #[.int lo t, .int hi u, .int 1 v] }).objs.size, [(s.heap.push { cls := .type "range", data := .fields #[.int lo t, .int hi u, .int 1 v] }).objs.size], _, _, H, rfl,
    I1.kept (t' := tk) fun b o e => Heap.get?_push_of_some _ e, turn_range _ lo (hi - lo).toNat, ?_, fun b hb => ?_, q⟩
  · have e1 : lo + ((0 : Nat) : Int) * 1 = lo := by simp
    have e2 : (((hi - lo).toNat : Nat) : Int) - ((0 : Nat) : Int) = Builtin.Range.rangeSize lo hi 1 := by rw [rangeSize_one]; split <;> omega
    show IsRangeIter _ _ (lo + ((0 : Nat) : Int) * 1) ((((hi - lo).toNat : Nat) : Int) - ((0 : Nat) : Int)) 1
    rw [e1, e2]
    exact Heap.get?_push_size _ rfl
  · have e : b = (s.heap.push { cls := .type "range", data := .fields #[.int lo t, .int hi u, .int 1 v] }).objs.size := by simpa using hb
    subst e
    exact I1.fpOk (Nat.le_refl _) (I1.hok.fresh (Nat.le_refl _))
def iRng1 (ta : TA) : TI := fun σ H R => ta σ H fun vs H1 => ∃ j : Int, vs = [.int j] ∧ -(2 ^ 62) ≤ j ∧ j < 2 ^ 62 ∧ R (Itr 0 j.toNat) H1
def iRng2 (ta : TA) : TI := fun σ H R => ta σ H fun vs H1 => ∃ i j : Int, vs = [.int i, .int j] ∧ (-(2 ^ 62) ≤ i ∧ i < 2 ^ 62 ∧ -(2 ^ 62) ≤ j ∧ j < 2 ^ 62) ∧ R (Itr i (j - i).toNat) H1
theorem pi_range1 {a : Expr} {ta : TA} {p pos : Pos} (hg : Gl X "range") (hm : X.mg "range" = none) (ha : PA X [a] ta) (hs : starEach [a] X.env = [(false, eval a X.env)] := by rfl) : PI X tg (.Call (.Name "range" p) [a] [] pos) (iRng1 ta) := by
  intro pins s σ H R I h
  refine Call_ (ld_blt I hg hm boot_range (PyProof.Rows.callWith_type1 (thn (ha pos pins s σ H _ I h) fun us s1 ⟨vs, H1, I1, r1, q1⟩ => ?_) hs rfl))
  obtain ⟨j, e, q1, q2, q⟩ := q1
  subst e
  cases r1 with
  | cons r rr =>
    cases rr
    obtain ⟨t, rfl⟩ := r
    exact call_range_1 (range_it I1 (by omega) (by omega) q1 q2 (by simpa using q))
theorem pi_range2 {a b : Expr} {ta : TA} {p pos : Pos} (hg : Gl X "range") (hm : X.mg "range" = none) (ha : PA X [a, b] ta) (hs : starEach [a, b] X.env = [(false, eval a X.env), (false, eval b X.env)] := by rfl) (hs2 : starEach [b] X.env = [(false, eval b X.env)] := by rfl) :
    PI X tg (.Call (.Name "range" p) [a, b] [] pos) (iRng2 ta) := by
  intro pins s σ H R I h
  refine Call_ (ld_blt I hg hm boot_range (PyProof.Rows.callWith_type1 (thn (ha pos pins s σ H _ I h) fun us s1 ⟨vs, H1, I1, r1, q1⟩ => ?_) (by rw [hs, hs2]) (by rw [hs2]; rfl)))
  obtain ⟨i, j, e, ⟨q1, q2, q3, q4⟩, q⟩ := q1
  subst e
  cases r1 with
  | cons r rr =>
    cases rr with
    | cons r' rr =>
      cases rr
      obtain ⟨t, rfl⟩ := r
      obtain ⟨t', rfl⟩ := r'
      exact call_range_2 (range_it I1 q1 q2 q3 q4 q)
def tFor (wi : TI) (g : TG) (tb : TS) : TS := fun D σ H => wi σ H fun J H1 => ∃ W : Nat → Nat → St → Hp → Prop, (∃ m, W 0 m σ H1) ∧ ∀ i m σ H, W i m σ H →
  (J.stop i H ∧ D.nx σ H) ∨ (J.go i H ∧ ∃ N : St → Hp → Prop, (∀ σ' H', N σ' H' → ∃ m', m' < m ∧ W (i + 1) m' σ' H') ∧ ∀ x H', J.yld i H x H' → g x σ H' fun σ2 H2 => tb { D with nx := N, ct := N, bk := D.nx } σ2 H2)
def pinsAt (fp : List Addr) (h : Heap) : List (Addr × Obj) := fp.filterMap fun b => (h.get? b).map fun o => (b, o)
theorem mem_pinsAt {fp : List Addr} {h : Heap} {b : Addr} {o : Obj} (hb : b ∈ fp) (e : h.get? b = some o) : (b, o) ∈ pinsAt fp h := List.mem_filterMap.mpr ⟨b, hb, by rw [e]; rfl⟩
theorem of_pinsAt {fp : List Addr} {h : Heap} {p : Addr × Obj} (hp : p ∈ pinsAt fp h) : p.1 ∈ fp ∧ h.get? p.1 = some p.2 := by
  obtain ⟨b, hb, e⟩ := List.mem_filterMap.mp hp
  cases q : h.get? b with
  | none => rw [q] at e; cases e
  | some o =>
    rw [q] at e
    have e' : (b, o) = p := Option.some.inj e
    subst e'
    exact ⟨hb, q⟩
theorem Inv.pinned {pins : List (Addr × Obj)} {σ : St} {H : Hp} {s : Shared} {fp : List Addr} (I : Inv X pins σ H s) (hf : ∀ b ∈ fp, FpOk X pins H b) (ho : ∀ b ∈ fp, ∃ o, s.heap.get? b = some o ∧ ∀ v, o.data ≠ .cell v) : Inv X (pins ++ pinsAt fp s.heap) σ H s :=
  I.pins_of fun p hp => (List.mem_append.mp hp).elim (fun z => I.pin p (List.mem_append_right _ z)) fun z => by
    obtain ⟨hb, e⟩ := of_pinsAt z
    obtain ⟨f0, f1, f2, _⟩ := hf p.1 hb
    obtain ⟨o, e', d⟩ := ho p.1 hb
    rw [e] at e'; cases e'
    exact ⟨e, f0, f1, f2, d⟩
theorem Inv.unpinned {pins pl : List (Addr × Obj)} {σ : St} {H : Hp} {s : Shared} (I : Inv X (pins ++ pl) σ H s) : Inv X pins σ H s := I.pins_of fun p hp => I.pin p (List.mem_append_right _ (List.mem_append_left _ hp))
theorem ps_for {iter : Expr} {body : List Stmt} {wi : TI} {g : TG} {tb : TS} {pos : Pos} (hp : PassesOwn (model X.prog X.w) X.A X.env X.xe) (hc : X.calm = true) (hi : PI X tg iter wi) (hg : PG X tg g) (hb : PSs X body tb)
    (hs : ∀ x, foldedSetIterable iter X.env x = pure x := by intro _; rfl) : PS X (.For tg iter body [] pos) (tFor wi g tb) := by
  intro pins s σ H D I h
  refine wpAny_For (thn (hi pins s σ H _ I h) fun v s1 h1 => thn h1 fun itv s2 h2 => ?_) hs
  obtain ⟨it, fp, tn, J, H2, e, I2, T, st2, f2, W, ⟨m0, w0⟩, turn⟩ := h2
  subst e
  have stat : ∀ {H' : Hp}, (∀ b ∈ fp, H' b = none) → ∀ b ∈ fp, FpOk X pins H' b := fun hn b hb => ⟨hn b hb, (f2 b hb).2⟩
  refine codeAny_forLoop_any (fun n s' => ∃ i σ' H', Inv X pins σ' H' s' ∧ tn i s'.heap ∧ (∀ b ∈ fp, H' b = none) ∧ W i n σ' H') ?_ m0 ⟨0, σ, H2, I2, st2, fun b hb => (f2 b hb).1, w0⟩
  rintro n s3 ⟨i, σ3, H3, I3, st3, fr3, w3⟩
  rcases turn i n σ3 H3 w3 with ⟨stop, qn⟩ | ⟨go, N, hN, step⟩
  · refine wpAny_passesOwn hp (thn (T.done X rfl rfl rfl hc i pins s3 σ3 H3 X.xe I3 (stat fr3) st3 stop) fun r s4 ⟨hr, I4⟩ => ?_)
    subst hr
    exact wpAny_execs_nil ⟨σ3, H3, I4, qn⟩
  · refine wpAny_passesOwn hp (thn (T.item X rfl rfl rfl hc i pins s3 σ3 H3 X.xe I3 (stat fr3) st3 go) fun r s4 ⟨u, hr, h4⟩ => ?_)
    subst hr
    refine wpAny_passesOwn hp (thn h4 fun _ s5 ⟨x, H5, I5, r5, y5, st5, fr5⟩ => ?_)
    have I5' := I5.pinned (stat fr5) (T.obj _ _ st5)
    refine wpAny_passesOwn hp (thn (hg _ s5 σ3 H5 x u _ I5' r5 (step x H5 y5)) fun _ s6 ⟨σ6, H6, I6, q6⟩ => ?_)
    refine wpAny_passesOwn hp (thn (hb _ s6 σ6 H6 _ I6 q6) fun f s7 q7 => ?_)
    have again : ∀ {σ7 : St} {H7 : Hp}, Inv X (pins ++ pinsAt fp s5.heap) σ7 H7 s7 → N σ7 H7 → ∃ m, m < n ∧ ∃ i σ' H', Inv X pins σ' H' s7 ∧ tn i s7.heap ∧ (∀ b ∈ fp, H' b = none) ∧ W i m σ' H' := fun {σ7 H7} I7 n7 => by
      obtain ⟨m', hm, w7⟩ := hN σ7 H7 n7
      refine ⟨m', hm, i + 1, σ7, H7, I7.unpinned, T.keep _ _ _ st5 fun b hb o e => (I7.pin (b, o) (List.mem_append_right _ (List.mem_append_right _ (mem_pinsAt hb e)))).1, fun b hb => ?_, w7⟩
      obtain ⟨o, e, d⟩ := T.obj _ _ st5 b hb
      exact (I7.pin (b, o) (List.mem_append_right _ (List.mem_append_right _ (mem_pinsAt hb e)))).2.1
    cases f with
    | next => obtain ⟨σ7, H7, I7, n7⟩ := q7; exact again I7 n7
    | cont => obtain ⟨σ7, H7, I7, n7⟩ := q7; exact again I7 n7
    | brk => obtain ⟨σ7, H7, I7, q7⟩ := q7; exact ⟨σ7, H7, I7.unpinned, q7⟩
    | ret v => obtain ⟨x7, σ7, H7, I7, r7, q7⟩ := q7; exact ⟨x7, σ7, H7, I7.unpinned, r7, q7⟩
end
end L2
namespace L2
open PySem PySem.Spec PyProof.Rows
abbrev R2 := V → V → Hp → VK → Prop
def OpR (X : Cx) (f : Value → Value → Sem Value) (r : R2) : Prop :=
  ∀ (pins : List (Addr × Obj)) (s : Shared) (σ : St) (H : Hp) (x y : V) (v u : Value) (Q : VK), Inv X pins σ H s → RelV x v → RelV y u → r x y H Q →
    wpAny (model X.prog X.w) X.A (f v u) (EP X pins σ Q) X.xe s
def UnR (X : Cx) (f : Value → Sem Value) (r : V → Hp → VK → Prop) : Prop :=
  ∀ (pins : List (Addr × Obj)) (s : Shared) (σ : St) (H : Hp) (x : V) (v : Value) (Q : VK), Inv X pins σ H s → RelV x v → r x H Q →
    wpAny (model X.prog X.w) X.A (f v) (EP X pins σ Q) X.xe s
def CallR (X : Cx) (f : Value) (r : List V → Hp → VK → Prop) : Prop :=
  ∀ (pins : List (Addr × Obj)) (s : Shared) (σ : St) (H : Hp) (xs : List V) (us : List Value) (Q : VK), Inv X pins σ H s → Vals xs us → r xs H Q →
    wpAny (model X.prog X.w) X.A (call f us) (EP X pins σ Q) X.xe s
def tOp (r : R2) (ta tb : TE) : TE := fun σ H Q => ta σ H fun x H1 => tb σ H1 fun y H2 => r x y H2 Q
def tUn (r : V → Hp → VK → Prop) (ta : TE) : TE := fun σ H Q => ta σ H fun x H1 => r x H1 Q
def rI (C : Int → Int → Prop) (g : Int → Int → V) : R2 := fun x y H Q => ∃ i j, x = .int i ∧ y = .int j ∧ C i j ∧ Q (g i j) H
def rI0 (g : Int → Int → V) : R2 := fun x y H Q => ∃ i j, x = .int i ∧ y = .int j ∧ Q (g i j) H
def rU (g : Int → V) : V → Hp → VK → Prop := fun x H Q => ∃ i, x = .int i ∧ Q (g i) H
section
variable {X : Cx} {a b c : Expr} {ta tb tc : TE} {pos : Pos}
theorem binT (ha : PE X a ta) (hb : PE X b tb) {pins : List (Addr × Obj)} {s : Shared} {σ : St} {H : Hp} {R : V → V → Hp → Prop} (I : Inv X pins σ H s)
    (h : ta σ H fun x H1 => tb σ H1 fun y H2 => R x y H2) {Q : Value → Shared → Prop} {f : Value → Value → Sem Value}
    (hf : ∀ v u s2 x y H2, Inv X pins σ H2 s2 → RelV x v → RelV y u → R x y H2 → wpAny (model X.prog X.w) X.A (f v u) Q X.xe s2) :
    wpAny (model X.prog X.w) X.A (eval a X.env) (fun v s₁ => wpAny (model X.prog X.w) X.A (eval b X.env) (fun u s₂ => wpAny (model X.prog X.w) X.A (f v u) Q X.xe s₂) X.xe s₁) X.xe s := by
  refine thn (ha pins s σ H _ I h) fun v s1 ⟨x, H1, I1, r1, q1⟩ => ?_
  refine thn (hb pins s1 σ H1 _ I1 q1) fun u s2 ⟨y, H2, I2, r2, q2⟩ => ?_
  exact hf v u s2 x y H2 I2 r1 r2 q2
theorem pe_op {op : Operator} {r : R2} (ho : OpR X (binaryOp op) r) (ha : PE X a ta) (hb : PE X b tb) : PE X (.BinOp a op b pos) (tOp r ta tb) := by
  intro pins s σ H Q I h
  exact wpAny_BinOp (binT ha hb I h fun v u s2 x y H2 I2 rx ry q => ho pins s2 σ H2 x y v u Q I2 rx ry q)
theorem pe_un {op : UnaryOp} {r : V → Hp → VK → Prop} (ho : UnR X (unaryOp op) r) (ha : PE X a ta) : PE X (.UnaryOp op a pos) (tUn r ta) := by
  intro pins s σ H Q I h
  exact UnaryOp_ (thn (ha pins s σ H _ I h) fun v s1 ⟨x, H1, I1, r1, q1⟩ => ho pins s1 σ H1 x v Q I1 r1 q1)
theorem opI {f : Value → Value → Sem Value} {C : Int → Int → Prop} {g : Int → Int → Int}
    (rule : ∀ (i j : Int) (t u : Tok) (s : Shared) (Q : Value → Shared → Prop) (E : Value → Shared → Prop), C i j → Q (.int (g i j) s.toks) { s with toks := s.toks + 1 } → wpAny (model X.prog X.w) X.A (f (.int i t) (.int j u)) Q E s) :
    OpR X f (rI C fun i j => .int (g i j)) := by
  intro pins s σ H x y v u Q I rx ry h
  obtain ⟨i, j, rfl, rfl, hc, q⟩ := h
  obtain ⟨t, rfl⟩ := rx
  obtain ⟨t', rfl⟩ := ry
  exact rule i j t t' s _ _ hc ⟨.int (g i j), H, I.tok _, ⟨_, rfl⟩, q⟩
theorem opI0 {f : Value → Value → Sem Value} {g : Int → Int → Int}
    (rule : ∀ (i j : Int) (t u : Tok) (s : Shared) (Q : Value → Shared → Prop) (E : Value → Shared → Prop), Q (.int (g i j) s.toks) { s with toks := s.toks + 1 } → wpAny (model X.prog X.w) X.A (f (.int i t) (.int j u)) Q E s) :
    OpR X f (rI0 fun i j => .int (g i j)) := by
  intro pins s σ H x y v u Q I rx ry h
  obtain ⟨i, j, rfl, rfl, q⟩ := h
  obtain ⟨t, rfl⟩ := rx
  obtain ⟨t', rfl⟩ := ry
  exact rule i j t t' s _ _ ⟨.int (g i j), H, I.tok _, ⟨_, rfl⟩, q⟩
theorem opB0 {f : Value → Value → Sem Value} {g : Int → Int → Bool}
    (rule : ∀ (i j : Int) (t u : Tok) (s : Shared) (Q : Value → Shared → Prop) (E : Value → Shared → Prop), Q (.bool (g i j)) s → wpAny (model X.prog X.w) X.A (f (.int i t) (.int j u)) Q E s) :
    OpR X f (rI0 fun i j => .bl (g i j)) := by
  intro pins s σ H x y v u Q I rx ry h
  obtain ⟨i, j, rfl, rfl, q⟩ := h
  obtain ⟨t, rfl⟩ := rx
  obtain ⟨t', rfl⟩ := ry
  exact rule i j t t' s _ _ ⟨.bl (g i j), H, I, rfl, q⟩
def CPow (i j : Int) : Prop := 0 ≤ j ∧ j ≤ 1000000 ∧ i.natAbs < 2 ^ 64
def CMul (i j : Int) : Prop := (-(2 ^ 64) < i ∧ i < 2 ^ 64) ∨ (-(2 ^ 64) < j ∧ j < 2 ^ 64)
theorem CMul.ok {i j : Int} (h : CMul i j) : IntMulOk i j := by
  rcases h with ⟨h1, h2⟩ | ⟨h1, h2⟩
  · exact .of_left (intBits_le_64 h1 h2)
  · exact .of_right (intBits_le_64 h1 h2)
theorem op_add : OpR X (binaryOp .Add) (rI0 fun i j => .int (i + j)) := opI0 fun _ _ _ _ _ _ _ q => add_int q
theorem op_modN : OpR X (binaryOp .Mod) (rI (fun _ j => j ≠ 0) fun i j => .int (i.fmod j)) := opI fun _ _ _ _ _ _ _ hc q => mod_int' hc q
theorem op_pow : OpR X (binaryOp .Pow) (rI CPow fun i j => .int (i ^ j.toNat)) := opI fun _ _ _ _ _ _ _ hc q => pow_int_small hc.1 hc.2.1 hc.2.2 q
theorem unI {f : Value → Sem Value} {g : Int → Int}
    (rule : ∀ (i : Int) (t : Tok) (s : Shared) (Q : Value → Shared → Prop) (E : Value → Shared → Prop), Q (.int (g i) s.toks) { s with toks := s.toks + 1 } → wpAny (model X.prog X.w) X.A (f (.int i t)) Q E s) :
    UnR X f (rU fun i => .int (g i)) := by
  intro pins s σ H x v Q I rx h
  obtain ⟨i, rfl, q⟩ := h
  obtain ⟨t, rfl⟩ := rx
  exact rule i t s _ _ ⟨.int (g i), H, I.tok _, ⟨_, rfl⟩, q⟩
theorem un_neg : UnR X (unaryOp .USub) (rU fun i => .int (-i)) := unI fun _ _ _ _ _ q => neg_int q
end
section
variable {X : Cx} {a b c : Expr} {ta tb tc : TE} {pos : Pos}
theorem op_lt : OpR X (compareOp .Lt) (rI0 fun i j => .bl (decide (i < j))) := opB0 fun _ _ _ _ _ _ _ q => lt_int q
theorem op_gt : OpR X (compareOp .Gt) (rI0 fun i j => .bl (decide (j < i))) := opB0 fun _ _ _ _ _ _ _ q => gt_int q
theorem op_ge : OpR X (compareOp .GtE) (rI0 fun i j => .bl (decide (j ≤ i))) := opB0 fun _ _ _ _ _ _ _ q => ge_int q
theorem OpR.or {f : Value → Value → Sem Value} {r r' : R2} (h : OpR X f r) (h' : OpR X f r') : OpR X f (fun x y H Q => r x y H Q ∨ r' x y H Q) := by
  intro pins s σ H x y v u Q I rx ry q
  rcases q with q | q
  · exact h pins s σ H x y v u Q I rx ry q
  · exact h' pins s σ H x y v u Q I rx ry q
theorem nomark (b : Expr) {op : CmpOp} (h : op ≠ .In := by decide) (h2 : op ≠ .NotIn := by decide) : behindInMarks op b = false := by
  have e1 : (op == CmpOp.In) = false := by cases op <;> first | rfl | exact absurd rfl h
  have e2 : (op == CmpOp.NotIn) = false := by cases op <;> first | rfl | exact absurd rfl h2
  cases b <;> simp [behindInMarks, e1, e2]
theorem pe_cmpR {op : CmpOp} {r : R2} (ho : OpR X (compareOp op) r) (ha : PE X a ta) (hb : PE X b tb) (hm : behindInMarks op b = false) : PE X (.Compare a [op] [b] pos) (tOp r ta tb) := by
  intro pins s σ H Q I h
  exact wpAny_Compare1 (binT ha hb I h fun v u s2 x y H2 I2 rx ry q => ho pins s2 σ H2 x y v u Q I2 rx ry q) hm
def tTest (t : TE) : TT := fun σ H Q => t σ H fun x H' => ∃ k, x = .bl k ∧ Q k H'
theorem pt_cmpR {op : CmpOp} {r : R2} (ho : OpR X (compareOp op) r) (ha : PE X a ta) (hb : PE X b tb) (hm : behindInMarks op b = false) : PT X (.Compare a [op] [b] pos) (tTest (tOp r ta tb)) := by
  intro pins s σ H Q I h
  refine wpAny_isTrue_Compare1 (thn (ha pins s σ H _ I h) fun v s1 ⟨x, H1, I1, r1, q1⟩ => thn (hb pins s1 σ H1 _ I1 q1) fun u s2 ⟨y, H2, I2, r2, q2⟩ =>
    thn (ho pins s2 σ H2 x y v u _ I2 r1 r2 q2) fun c s3 ⟨z, H3, I3, r3, k, e, q3⟩ => ?_) hm
  subst e
  cases r3
  exact wpAny_truthy_bool ⟨H3, I3, q3⟩
theorem line63 : (sizeLine : Nat) < 2 ^ 63 := by rw [sizeLine_eq]; decide
theorem vals1 {x : V} {us : List Value} (r : Vals [x] us) : ∃ u, us = [u] ∧ RelV x u := by
  cases r with
  | cons r1 r2 => cases r2; exact ⟨_, rfl, r1⟩
end
end L2
namespace L2
open PySem PySem.Spec PyProof.Rows
structure ObjM (h : Heap) (x dx C : Addr) (mA : Str → Option Value) : Prop where
  obj : h.get? x = some (PySem.W.instObj C dx)
  ns : h.Ns1 dx mA
  ne : dx ≠ x
section
variable {prog : Program} {w : World} {A : Around} {E : Value → Shared → Prop} {s : Shared} {K : PySem.W.Frag} {x dx C f : Addr} {mA : Str → Option Value} {name : Str} {v : Value}
end
theorem RelO.some_of {v : V} {o : Option Value} (r : RelO (some v) o) : ∃ u, o = some u ∧ RelV v u := by
  cases o with
  | none => exact (show False from r).elim
  | some u => exact ⟨u, rfl, r⟩
section
variable {P : Program} {w : World} {H H' : Hp} {h h' : Heap} {a C dx : Addr} {fs fs' : List (Str × V)}
end
structure Cls (K : PySem.W.Frag) (C : Addr) : Prop where
  pg : PySem.W.plainGet K C Str.empty = true
  hd : PySem.W.hasDictIn K C = true
  po : PySem.W.plainOver K C = true
  sa : PySem.W.findIn K (.ref C) "__setattr__" = some (some (.builtin "object.__setattr__"))
theorem Cls.get {K : PySem.W.Frag} {C : Addr} (c : Cls K C) (f : Str) : PySem.W.plainGet K C f = true := c.pg
structure Con (K : PySem.W.Frag) (C : Addr) (f : Str) (v : V) (u : Value) : Prop where
  at_ : PySem.W.findIn K (.ref C) f = some (some u)
  rel : RelV v u
  get : PySem.W.specialIn K u "__get__" = some none
  cp : PySem.W.copiedNames.contains f = false
structure Meth (K : PySem.W.Frag) (C : Addr) (m : Str) (f : Addr) : Prop where
  at_ : PySem.W.findIn K (.ref C) m = some (some (.ref f))
  fn : PySem.W.isFn K (.ref f) = true
  kp : PySem.W.keepIn K (.ref f) = true
section
variable {X : Cx} {pins : List (Addr × Obj)} {σ : St} {H : Hp} {s : Shared} {a C dx : Addr} {fs : List (Str × V)} {f : Str} {v : V} {A : Around} {E : Value → Shared → Prop}
end
section
variable {X : Cx} {o e value : Expr} {f : Str} {pos pos' tpos : Pos} {ta tv : TE}
end
section
variable {X : Cx} {pins : List (Addr × Obj)} {σ : St} {H : Hp} {s : Shared} {A : Around} {E : Value → Shared → Prop} {Q : Value → Shared → Prop} {c : Value} {b : Bool}
inductive TyOf (K : PySem.W.Frag) (H : Hp) : V → Value → Prop where
  | non : TyOf K H .non (.type "NoneType")
  | bl (x : Bool) : TyOf K H (.bl x) (.type "bool")
  | int (i : Int) : TyOf K H (.int i) (.type "int")
  | str (x : Str) : TyOf K H (.str x) (.type "str")
  | flt (x : UInt64) : TyOf K H (.flt x) (.type "float")
  | lst {a : Addr} {xs : List V} (e : H a = some (.lst xs)) : TyOf K H (.ref a) (.type "list")
  | frz {a : Addr} {o : Obj} {xs : List V} (e : H a = some (.frz o (.lst xs))) : TyOf K H (.ref a) (.type "list")
  | tup {a : Addr} {xs : List V} (e : H a = some (.tup xs)) : TyOf K H (.ref a) (.type "tuple")
  | dK {a : Addr} {kvs : List (Key × V)} (e : H a = some (.dK kvs)) : TyOf K H (.ref a) (.type "dict")
  | dT {a : Addr} {kvs : List (List Key × V)} (e : H a = some (.dT kvs)) : TyOf K H (.ref a) (.type "dict")
  | ins {a C dx : Addr} {fs : List (Str × V)} (e : H a = some (.ins C dx fs)) (cl : Cls K C) (ha : PySem.W.findIn K (.ref C) "__class__" = some (some (.builtin "object.__class__")))
      (hn : PySem.W.specialIn K (.builtin "object.__class__") "__get__" = some (some (.builtin "getset_descriptor.__get__"))) (htk : PySem.W.takesIn K (.builtin "object.__class__") = some true)
      (hm : PySem.W.mroIn K C (.type "object") = some true) : TyOf K H (.ref a) (.ref C)
end
end L2
namespace L2
open PySem PySem.Spec PyProof.Rows
structure Room (k : Nat) (A : Around) : Prop where
  hd : A.handled = none
  dp : A.depth + 3 * k + 5 < recursionLimit
  un : A.units + 16 * k + 200 < cLine
theorem Room.mono {j k : Nat} {A : Around} (r : Room k A) (h : j ≤ k) : Room j A := ⟨r.hd, by have := r.dp; omega, by have := r.un; omega⟩
theorem Room.deeper {k : Nat} {A : Around} (r : Room (k + 1) A) (env : Env) : Room k (A.deeper env) :=
  ⟨r.hd, by have := r.dp; show A.depth + 1 + 3 * k + 5 < _; omega, by have := r.un; show A.units + 3 + 16 * k + 200 < _; omega⟩
theorem Room.in1 {k : Nat} {A : Around} (r : Room (k + 1) A) : Room k A.in1 :=
  ⟨r.hd, by have := r.dp; show A.depth + 3 * k + 5 < _; omega, by have := r.un; show A.units + 1 + 16 * k + 200 < _; omega⟩
theorem Room.depth {k : Nat} {A : Around} (r : Room k A) : A.depth < recursionLimit := by have := r.dp; omega
theorem Room.units {k : Nat} {A : Around} (r : Room k A) : A.units + 64 < cLine := by have := r.un; omega
def tNil : TA := fun _ H Q => Q [] H
def tCons (ta : TE) (tr : TA) : TA := fun σ H Q => ta σ H fun x H1 => tr σ H1 fun xs H2 => Q (x :: xs) H2
section
variable {X : Cx} {e : Expr} {es : List Expr} {te : TE} {t : TA} {pos : Pos}
theorem pa_nil : PA X [] tNil := fun _ _ _ _ H Q I h => Calls.spliced_nil ⟨[], H, I, .nil, h⟩
theorem pa_cons (ha : PE X e te) (hr : PA X es t) (hs : starEach (e :: es) X.env = (false, eval e X.env) :: starEach es X.env := by rfl) : PA X (e :: es) (tCons te t) := by
  intro pos pins s σ H Q I h
  rw [hs]
  show wpAny _ _ (spliced ((false, eval e X.env) :: backTo pos (starEach es X.env))) _ _ s
  refine Calls.spliced_cons (thn (ha pins s σ H _ I h) fun u s1 ⟨x, H1, I1, r1, q1⟩ => ?_)
  exact thn (hr pos pins s1 σ H1 _ I1 q1) fun us s2 ⟨xs, H2, I2, r2, q2⟩ => ⟨x :: xs, H2, I2, .cons r1 r2, q2⟩
def tTup (t : TA) : TE := fun σ H Q => t σ H fun xs H1 => xs.length ≤ sizeLine ∧ ∀ p, H1 p = none → Q (.ref p) (upd H1 p (.tup xs))
def tLst (t : TA) : TE := fun σ H Q => t σ H fun xs H1 => xs.length ≤ sizeLine ∧ ∀ p, H1 p = none → Q (.ref p) (upd H1 p (.lst xs))
theorem pe_tup {x1} (h : PA X es t) : PE X (.Tuple es x1 pos) (tTup t) := by
  intro pins s σ H Q I hq
  refine wpAny_Tuple_spliced (thn (h pos pins s σ H _ I hq) fun us s1 ⟨xs, H1, I1, r, z, q⟩ => ⟨by rw [← r.length]; exact z, ?_⟩)
  have hf : H1 s1.heap.objs.size = none := I1.hok.fresh (Nat.le_refl _)
  refine ⟨.ref s1.heap.objs.size, upd H1 s1.heap.objs.size (.tup xs), I1.laid (t' := s1.toks) (fun b u e => Heap.get?_push_of_some _ e) (Nat.le_refl _) ?_, rfl, q _ hf⟩
  exact ⟨z, us, r, ⟨_, Heap.get?_push_size _ rfl, rfl, _, rfl⟩⟩
theorem pe_lst (h : PA X es t) : PE X (.List es pos) (tLst t) := by
  intro pins s σ H Q I hq
  refine wpAny_List_spliced (thn (h pos pins s σ H _ I hq) fun us s1 ⟨xs, H1, I1, r, z, q⟩ => ⟨by rw [← r.length]; exact z, ?_⟩)
  have hf : H1 s1.heap.objs.size = none := I1.hok.fresh (Nat.le_refl _)
  refine ⟨.ref s1.heap.objs.size, upd H1 s1.heap.objs.size (.lst xs), I1.laid (t' := s1.toks) (fun b u e => Heap.get?_push_of_some _ e) (Nat.le_refl _) ?_, rfl, q _ hf⟩
  exact ⟨z, us, 0, r, Heap.get?_push_size _ rfl⟩
end
abbrev Sp := List V → Hp → VK → XK → Prop
abbrev CXT := List Env → Hp → Shared → XK → Value → Shared → Prop
structure Env0 (P : Program) (w : World) (K : PySem.W.Frag) (mg : Str → Option Value) (base : Heap) (A : Around) (outer : List Env) (s : Shared) (H : Hp) : Prop where
  frames : A.frames = some outer
  mod : Mod K mg base
  bs : ∀ b o, base.get? b = some o → s.heap.get? b = some o ∧ H b = none
  bsz : base.objs.size ≤ s.heap.objs.size
  funs : s.heap.FunFrames base outer
  frf : ∀ b ∈ frs outer, H b = none
  hok : HOk P w H s.heap
  bare : AllBare s.gens
def CE (outer : List Env) (P : Program) (w : World) (H : Hp) (s : Shared) (Q : VK) (u : Value) (s' : Shared) : Prop :=
  ∃ v H', s'.os = s.os ∧ AllBare s'.gens ∧ Un (frs outer) [] H H' s.heap s'.heap ∧ HOk P w H' s'.heap ∧ RelV v u ∧ Q v H'
def CR (CX : CXT) (outer : List Env) (P : Program) (w : World) (H : Hp) (s : Shared) (Q : VK) (E : XK) (r : Result) (s' : Shared) : Prop :=
  match r with
  | .ok (.ret u) => CE outer P w H s Q u s'
  | .ok _ => False
  | .error e => CX outer H s E e s'
structure FnOk (P : Program) (w : World) (K : PySem.W.Frag) (mg : Str → Option Value) (base : Heap) (CX : CXT) (k : Nat) (f : Addr) (fd : FuncData) (ps : List Str) (sp : Sp) : Prop where
  len : ∀ vs H Q E, sp vs H Q E → vs.length = ps.length
  run : ∀ (A : Around) (outer : List Env) (s : Shared) (H : Hp) (args : Args) (us : List Value) (vs : List V) (Q : VK) (E : XK), Room k A → Env0 P w K mg base A outer s H → BindsTo s fd args (ps.zip us) → Vals vs us → sp vs H Q E →
    codeAny (model P w) A (.call (.ref f) args) (CR CX outer P w H s Q E) s
theorem FnOk.mono {P : Program} {w : World} {K : PySem.W.Frag} {mg : Str → Option Value} {base : Heap} {CX : CXT} {j k : Nat} {f : Addr} {fd : FuncData} {ps : List Str} {sp : Sp} (F : FnOk P w K mg base CX j f fd ps sp) (h : j ≤ k) :
    FnOk P w K mg base CX k f fd ps sp := ⟨F.len, fun A outer s H args us vs Q E hr => F.run A outer s H args us vs Q E (hr.mono h)⟩
theorem FnOk.imp {P : Program} {w : World} {K : PySem.W.Frag} {mg : Str → Option Value} {base : Heap} {CX : CXT} {k : Nat} {f : Addr} {fd : FuncData} {ps : List Str} {sp sp' : Sp} (F : FnOk P w K mg base CX k f fd ps sp)
    (h : ∀ vs H Q E, sp' vs H Q E → sp vs H Q E) : FnOk P w K mg base CX k f fd ps sp' :=
  ⟨fun vs H Q E q => F.len vs H Q E (h _ _ _ _ q), fun A outer s H args us vs Q E hr he hb hv hs => F.run A outer s H args us vs Q E hr he hb hv (h _ _ _ _ hs)⟩
theorem Env0.in1 {P : Program} {w : World} {K : PySem.W.Frag} {mg : Str → Option Value} {base : Heap} {A : Around} {outer : List Env} {s : Shared} {H : Hp} (e : Env0 P w K mg base A outer s H) :
    Env0 P w K mg base A.in1 outer s H := ⟨e.frames, e.mod, e.bs, e.bsz, e.funs, e.frf, e.hok, e.bare⟩
section
variable {X : Cx} {pins : List (Addr × Obj)} {σ : St} {H : Hp} {s s' : Shared}
theorem Inv.env0 (I : Inv X pins σ H s) : Env0 X.prog X.w X.K X.mg X.base X.A X.stack s H :=
  ⟨I.ok.frames, I.ok.mod, I.bs, Nat.le_trans I.ok.bsz I.sz, I.stack, I.stkFree, I.hok, I.bare⟩
theorem Inv.after {Q : VK} {u : Value} (I : Inv X pins σ H s) (h : CE X.stack X.prog X.w H s Q u s') : EP X pins σ Q u s' := by
  obtain ⟨v, H', os, bare, un, hok, r, q⟩ := h
  obtain ⟨hh, g, d, t, os'⟩ := s'
  obtain rfl : os' = s.os := os
  exact ⟨v, H', I.call (h' := hh) (g' := g) (d' := d) (t' := t) (ch := []) un hok bare (fun b z => absurd z (by simp)), r, q⟩
end
def tCall (sp : Sp) (dvs : List V) (E : XK) (t : TA) : TE := fun σ H Q => t σ H fun vs H1 => sp (vs ++ dvs) H1 Q E
def Binds (K : PySem.W.Frag) (fd : FuncData) (ps : List Str) (ds : List Value) : Prop :=
  ∀ (s : Shared) (us : List Value), K.In s.heap → (us ++ ds).length = ps.length → BindsTo s fd ⟨us, []⟩ (ps.zip (us ++ ds))
theorem Binds.all {K : PySem.W.Frag} {fd : FuncData} {ps : List Str} (h : ∀ us : List Value, us.length = ps.length → bindArgs fd ⟨us, []⟩ = pure (ps.zip us)) : Binds K fd ps [] := fun s us _ hl => by
  rw [List.append_nil] at hl ⊢
  exact .of_eq (h us hl)
def Passes (CX : CXT) (X : Cx) (E : XK) : Prop := ∀ (pins : List (Addr × Obj)) (σ : St) (H : Hp) (s : Shared) (e : Value) (s' : Shared), Inv X pins σ H s → CX X.stack H s E e s' → X.xe e s'
section
variable {X : Cx} {CX : CXT} {k : Nat} {f C : Addr} {fd : FuncData} {ps : List Str} {sp : Sp} {dvs : List V} {ds : List Value} {E : XK} {x m : Str} {p pos apos : Pos} {e o : Expr} {es : List Expr} {ta : TE} {t : TA}
theorem run_fn {pins : List (Addr × Obj)} {σ : St} {H : Hp} {s : Shared} {Q : VK} {us : List Value} {vs : List V} (F : FnOk X.prog X.w X.K X.mg X.base CX k f fd ps sp) (hr : Room k X.A) (hb : Binds X.K fd ps ds) (hd : Vals dvs ds) (hx : Passes CX X E)
    (I : Inv X pins σ H s) (r : Vals vs us) (h : sp (vs ++ dvs) H Q E) : wpAny (model X.prog X.w) X.A (call (.ref f) us) (EP X pins σ Q) X.xe s := by
  have r2 : Vals (vs ++ dvs) (us ++ ds) := r.append hd
  have hl : (us ++ ds).length = ps.length := by rw [← r2.length]; exact F.len _ _ _ _ h
  refine wpAny_call (codeAny_mono (F.run X.A X.stack s H ⟨us, []⟩ (us ++ ds) (vs ++ dvs) Q E hr I.env0 (hb s us I.kIn hl) r2 h) fun r s' hq => ?_)
  cases r with
  | error e => exact hx pins σ H s e s' I hq
  | ok fl =>
    cases fl with
    | ret u => exact I.after hq
    | next => exact False.elim hq
    | brk => exact False.elim hq
    | cont => exact False.elim hq
theorem pe_call (F : FnOk X.prog X.w X.K X.mg X.base CX k f fd ps sp) (hr : Room k X.A) (hg : Gl X x) (hm : X.mg x = some (.ref f)) (hk : PySem.W.keepIn X.K (.ref f) = true) (hb : Binds X.K fd ps ds) (hd : Vals dvs ds) (hx : Passes CX X E)
    (ha : PA X (e :: es) t) (hdb : (x == ("__debug__" : Str)) = false := by decide) (he : starEach (e :: es) X.env = (false, eval e X.env) :: starEach es X.env := by rfl) (hpl : (backTo pos (starEach es X.env)).any (·.1) = false := by rfl) :
    PE X (.Call (.Name x p) (e :: es) [] pos) (tCall sp dvs E t) := by
  intro pins s σ H Q I h
  refine wpAny_Call_Name_kw (ld_glob I hg hm ?_ hdb)
  refine PySem.W.callWith_K (h₀ := X.base) I.ok.mod.kin hk (thn (ha pos pins s σ H _ I h) fun us s1 ⟨vs, H1, I1, r, q⟩ => ⟨I1.kIn, ?_⟩) he hpl
  exact run_fn F hr hb hd hx I1 r q
structure Mk (K : PySem.W.Frag) (C f : Addr) : Prop where
  makes : PySem.W.makesIn K C = true
  init : PySem.W.findIn K (.ref C) "__init__" = some (some (.ref f))
  fn : PySem.W.isFn K (.ref f) = true
  kp : PySem.W.keepIn K (.ref C) = true
end
def PK (X : Cx) (kws : List Keyword) (t : TA) : Prop :=
  ∀ (pos : Pos) (pins : List (Addr × Obj)) (s : Shared) (σ : St) (H : Hp) (Q : List V → Hp → Prop), Inv X pins σ H s → t σ H Q → wpAny (model X.prog X.w) X.A (evalAll ((backToKw pos (keywordEach kws X.env)).map (·.2))) (AP X pins σ Q) X.xe s
section
variable {X : Cx} {CX : CXT} {k : Nat} {f C : Addr} {fd : FuncData} {ps ks : List Str} {sp : Sp} {E : XK} {x m : Str} {p pos apos kpos : Pos} {e o : Expr} {es : List Expr} {kws : List Keyword} {te ta : TE} {t tk : TA} {nm : Option Str}
theorem pk_nil : PK X [] tNil := fun _ _ _ _ H Q I h => wpAny_evalAll_nil ⟨[], H, I, .nil, h⟩
theorem pk_cons (ha : PE X e te) (hr : PK X kws t) : PK X (⟨nm, e, kpos⟩ :: kws) (tCons te t) := by
  intro pos pins s σ H Q I h
  show wpAny _ _ (evalAll ((do let v ← eval e X.env; standAt pos; pure v) :: (backToKw pos (keywordEach kws X.env)).map (·.2))) _ _ s
  refine wpAny_evalAll_cons (wpAny_bind (thn (ha pins s σ H _ I h) fun u s1 ⟨x, H1, I1, r1, q1⟩ => wpAny_bind (wpAny_standAt (wpAny_pure ?_))))
  exact thn (hr pos pins s1 σ H1 _ I1 q1) fun us s2 ⟨xs, H2, I2, r2, q2⟩ => ⟨x :: xs, H2, I2, .cons r1 r2, q2⟩
structure KBinds (K : PySem.W.Frag) (fd : FuncData) (ps ks : List Str) (g : List Value → List Value → List Value) (gV : List V → List V → List V) : Prop where
  to : ∀ (s : Shared) (us ws : List Value), K.In s.heap → (g us ws).length = ps.length → BindsTo s fd ⟨us, ks.zip ws⟩ (ps.zip (g us ws))
  rel : ∀ {vs : List V} {us : List Value} {zs : List V} {ws : List Value}, Vals vs us → Vals zs ws → Vals (gV vs zs) (g us ws)
variable {g : List Value → List Value → List Value} {gV : List V → List V → List V}
end
structure FnScope (N P : List Str) (sc : Scope) : Prop where
  kind : sc.kind = .function
  co : sc.isCoroutine = false
  gen : sc.isGenerator = false
  nd : N.Nodup
  pre : N.take P.length = P
  par : ∀ x ∈ P, sc.names.lookup x = some .local ∨ sc.names.lookup x = some .cell
  nofree : ∀ y ∈ sc.names, y.2 ≠ .free
theorem bindL_out {kindOf : Str → Option NameKind} {x : Str} : ∀ {binds : List (Str × Value)} {m : Str → Option Value}, (∀ v, (x, v) ∉ binds) → bindL kindOf binds m x = m x
  | [], _, _ => rfl
  | (n, v) :: r, m, h => by
    unfold bindL
    rw [bindL_out fun w hw => h w (List.mem_cons_of_mem _ hw)]
    split
    · have : x ≠ n := by rintro rfl; exact h v List.mem_cons_self
      simp [this]
    · rfl
theorem bindC_out {kindOf : Str → Option NameKind} {x : Str} : ∀ {binds : List (Str × Value)} {m : Str → Option Value}, (∀ v, (x, v) ∉ binds) → bindC kindOf binds m x = m x
  | [], _, _ => rfl
  | (n, v) :: r, m, h => by
    unfold bindC
    rw [bindC_out fun w hw => h w (List.mem_cons_of_mem _ hw)]
    split
    · rfl
    · have : x ≠ n := by rintro rfl; exact h v List.mem_cons_self
      simp [this]
theorem bindL_get {kindOf : Str → Option NameKind} {x : Str} {v : Value} : ∀ {P : List Str} {vs : List Value} {i : Nat} {m : Str → Option Value}, P.Nodup → P[i]? = some x → vs[i]? = some v → kindOf x = some .local →
    bindL kindOf (P.zip vs) m x = some v
  | [], _, _, _, _, h, _, _ => by simp at h
  | _ :: _, [], _, _, _, _, h, _ => by simp at h
  | p :: P, w :: vs, 0, m, nd, h1, h2, hk => by
    simp at h1 h2; subst h1; subst h2
    show bindL kindOf ((p, w) :: P.zip vs) m p = _
    unfold bindL
    rw [bindL_out fun v hv => (List.nodup_cons.mp nd).1 (List.of_mem_zip hv).1, if_pos hk]
    simp
  | p :: P, w :: vs, i + 1, m, nd, h1, h2, hk => by
    show bindL kindOf ((p, w) :: P.zip vs) m x = _
    unfold bindL
    exact bindL_get (i := i) (List.nodup_cons.mp nd).2 (by simpa using h1) (by simpa using h2) hk
theorem bindC_get {kindOf : Str → Option NameKind} {x : Str} {v : Value} : ∀ {P : List Str} {vs : List Value} {i : Nat} {m : Str → Option Value}, P.Nodup → P[i]? = some x → vs[i]? = some v → kindOf x ≠ some .local →
    bindC kindOf (P.zip vs) m x = some v
  | [], _, _, _, _, h, _, _ => by simp at h
  | _ :: _, [], _, _, _, _, h, _ => by simp at h
  | p :: P, w :: vs, 0, m, nd, h1, h2, hk => by
    simp at h1 h2; subst h1; subst h2
    show bindC kindOf ((p, w) :: P.zip vs) m p = _
    unfold bindC
    rw [bindC_out fun v hv => (List.nodup_cons.mp nd).1 (List.of_mem_zip hv).1, if_neg hk]
    simp
  | p :: P, w :: vs, i + 1, m, nd, h1, h2, hk => by
    show bindC kindOf ((p, w) :: P.zip vs) m x = _
    unfold bindC
    exact bindC_get (i := i) (List.nodup_cons.mp nd).2 (by simpa using h1) (by simpa using h2) hk
def start (N : List Str) (vs : List V) : St := vs.map some ++ List.replicate (N.length - vs.length) none
def cxOf (CX : CXT) (P : Program) (w : World) (K : PySem.W.Frag) (mg : Str → Option Value) (base : Heap) (N : List Str) (qual : Str) (scope : Scope) (f : Addr) (cd : Value) (A : Around) (outer : List Env) (s : Shared) (H : Hp) (E : XK) : Cx where
  prog := P
  w := w
  K := K
  mg := mg
  base := base
  A := A.deeper (envOfC qual scope s.heap.objs.size f cd)
  N := N
  s₀ := s
  H₀ := H
  env := envOfC qual scope s.heap.objs.size f cd
  outer := outer
  stack := envOfC qual scope s.heap.objs.size f cd :: outer
  ex := []
  calm := true
  fn := fun _ => true
  pn := []
  xe := fun e s' => wpAny (model P w) (A.deeper (envOfC qual scope s.heap.objs.size f cd)) (leaving (envOfC qual scope s.heap.objs.size f cd) e) (fun _ s'' => CX outer H s E e s'') (fun e' s'' => CX outer H s E e' s'') s'
theorem cell_has {sc : Scope} {n : Nat} {x : Str} (h : sc.names.lookup x = some .cell) : ∃ c, (cellsFrom n sc.names []).lookup x = some c := by
  have q := PySem.W.cellsFrom_some sc.names n [] (.inl h)
  exact Option.isSome_iff_exists.mp q
theorem inv_start {CX : CXT} {P : Program} {w : World} {K : PySem.W.Frag} {mg : Str → Option Value} {base : Heap} {N ps : List Str} {qual : Str} {scope : Scope} {f : Addr} {cd : Value} {A : Around} {outer : List Env} {s s1 : Shared} {H : Hp} {E : XK} {us : List Value} {vs : List V}
    (S : FnScope N ps scope) (hd : A.handled = none) (e0 : Env0 P w K mg base A outer s H) (hl : vs.length = ps.length) (r : Vals vs us)
    (x : InCallC s s.heap.objs.size (bindL (envOfC qual scope s.heap.objs.size f cd).kindOf (ps.zip us) fun _ => none) (cellsFrom (s.heap.objs.size + 1) scope.names []) (bindC (envOfC qual scope s.heap.objs.size f cd).kindOf (ps.zip us) fun _ => none) s1) :
    Inv (cxOf CX P w K mg base N qual scope f cd A outer s H E) [] (start N vs) H s1 := by
  have hpl : ps.length ≤ N.length := by have := congrArg List.length S.pre; rw [List.length_take] at this; omega
  obtain ⟨h1, tk, rfl, hk⟩ := x.done
  have noA : ∀ b : Addr, b ∉ (cxOf CX P w K mg base N qual scope f cd A outer s H E).ex := fun b z => absurd (show b ∈ ([] : List Addr) from z) (by simp)
  refine ⟨⟨e0.mod, S.kind, rfl, rfl, Nat.le_refl _, fun y z c h1 h2 => ?_, fun y hy => ?_, fun y c _ h => ?_, fun _ => hd, Around.frames_deeper e0.frames, .inr ⟨rfl, rfl⟩, fun b z => absurd z (noA b), e0.bs, e0.bsz, fun b _ _ => noA b, fun b z => absurd z (noA b), e0.funs, e0.frf⟩,
    rfl, e0.bare, Un.kept hk, ⟨_, x.toInCall.ns, fun i y v h1 h2 h3 => ?_⟩, fun y c h => ⟨_, x.cell y c h⟩, e0.hok.fresh (Nat.le_refl _), fun y c h => ?_, fun p hp => absurd (show p ∈ ([] : List (Addr × Obj)) from hp) (by simp), e0.hok.kept hk, ?_⟩
  · exact name_of_addr x.apart (PySem.mem_of_lookup h1) (PySem.mem_of_lookup h2)
  · have hy : scope.names.lookup y = some .cell ∨ scope.names.lookup y = some .free := hy
    rcases hy with hy | hy
    · exact cell_has hy
    · exact absurd rfl (S.nofree _ (PySem.mem_of_lookup hy))
  · exact Nat.le_of_lt (x.above y c (PySem.mem_of_lookup h))
  · have hi : i < vs.length := by
      unfold start at h2
      by_cases hi : i < vs.length
      · exact hi
      · rw [List.getElem?_append_right (by simpa using hi)] at h2
        rw [List.getElem?_replicate] at h2
        split at h2 <;> cases h2
    have ha : vs[i]? = some v := by
      unfold start at h2
      rw [List.getElem?_append_left (by simpa using hi), List.getElem?_map] at h2
      cases e : vs[i]? with
      | none => rw [e] at h2; cases h2
      | some a => rw [e] at h2; cases h2; rfl
    obtain ⟨u, hu, rv⟩ := r.get ha
    have hp : ps[i]? = some y := by
      rw [← S.pre, List.getElem?_take_of_lt (by omega)]; exact h1
    have ndP : ps.Nodup := by rw [← S.pre]; exact S.nd.sublist (List.take_sublist _ _)
    refine ⟨u, rv, ?_⟩
    rcases S.par y (List.mem_of_getElem? hp) with k | k
    · exact .inl ⟨k, bindL_get ndP hp hu k⟩
    · obtain ⟨c, e⟩ := cell_has (n := s.heap.objs.size + 1) k
      refine .inr ⟨.inl k, c, e, ?_⟩
      have q := x.cell y c e
      rw [bindC_get ndP hp hu (by show scope.names.lookup y ≠ _; rw [k]; decide)] at q
      exact q
  · exact e0.hok.fresh (Nat.le_of_lt (x.above y c (PySem.mem_of_lookup h)))
  · unfold start
    show _ = N.length
    rw [List.length_append, List.length_map, List.length_replicate]
    omega
theorem fn_of {CX : CXT} {P : Program} {w : World} {K : PySem.W.Frag} {mg : Str → Option Value} {base : Heap} {k : Nat} {f : Addr} {name qual : Str} {params : Arguments} {body : List Stmt} {scope : Scope} {dV kV doc pm cdv ct oc : Value} {an od : Option Addr}
    {osl : Array (Option Value)} {N ps : List Str} {sp : Sp} (lk : K.lookup f = some ⟨oc, od, .func (PySem.W.fnOf name qual params body scope dV kV doc pm an cdv ct), osl⟩) (hcd : PySem.W.codeIn K cdv qual = true) (S : FnScope N ps scope)
    (len : ∀ vs H Q E, sp vs H Q E → vs.length = ps.length)
    (hbody : ∀ (A : Around) (outer : List Env) (s : Shared) (H : Hp) (vs : List V) (Q : VK) (E : XK), Room k (A.deeper (envOfC qual scope s.heap.objs.size f cdv)) → sp vs H Q E →
      ∃ t, PSs (cxOf CX P w K mg base N qual scope f cdv A outer s H E) body t ∧ t { nx := fun _ H' => Q .non H', rt := Q } (start N vs) H) :
    FnOk P w K mg base CX (k + 1) f (PySem.W.fnOf name qual params body scope dV kV doc pm an cdv ct) ps sp := by
  refine ⟨len, fun A outer s H args us vs Q E hr e0 hb r hsp => ?_⟩
  have hl := len _ _ _ _ hsp
  have KX : K.In s.heap := e0.mod.kin.keeps fun b o e => (e0.bs b o e).1
  have lim : s.heap.NoLimit := e0.mod.nolimit.keeps fun b o e => (e0.bs b o e).1
  have hkind : ∀ y ∈ ps.zip us, scope.names.lookup y.1 = some .local ∨ (scope.names.lookup y.1 = some .cell ∧ ((cellsFrom (s.heap.objs.size + 1) scope.names []).lookup y.1).isSome = true) := fun ⟨n, v⟩ hy => by
    rcases S.par n (List.of_mem_zip hy).1 with q | q
    · exact .inl q
    · exact .inr ⟨q, PySem.W.cellsFrom_some _ _ _ (.inl q)⟩
  refine codeAny_call_function hr.depth (KX _ _ lk) rfl S.co S.gen rfl (PySem.W.codeRec_of KX hcd) (hb _ _ _ _ ?_)
  refine wpAny_newFunctionEnv_cells S.kind hkind fun env he s1 x => ?_
  subst he
  refine ⟨lim.keeps x.toInCall.keep, codeAny_func ?_⟩
  obtain ⟨t, ht, hq⟩ := hbody A outer s H vs Q E (hr.deeper _) hsp
  have I : Inv (cxOf CX P w K mg base N qual scope f cdv A outer s H E) [] (start N vs) H s1 := inv_start S hr.hd e0 hl r x
  refine wpAny_mono (ht [] s1 (start N vs) H _ I hq) (fun fl s' hs => ?_) fun e s' hs => hs
  have fin : ∀ {σ' : St} {H' : Hp} {v : V} {u : Value}, Inv (cxOf CX P w K mg base N qual scope f cdv A outer s H E) [] σ' H' s' → RelV v u → Q v H' → CE outer P w H s Q u s' :=
    fun {σ' H' v u} J rv q => ⟨v, H', J.os, J.bare, J.base, J.hok, rv, q⟩
  cases fl with
  | ret u =>
    obtain ⟨v, σ', H', J, rv, q⟩ := hs
    exact fin J rv q
  | next =>
    obtain ⟨σ', H', J, q⟩ := hs
    exact fin (v := V.non) (u := Value.none) J rfl q
  | brk =>
    obtain ⟨_, _, _, q⟩ := hs
    exact False.elim q
  | cont =>
    obtain ⟨_, _, _, q⟩ := hs
    exact False.elim q
end L2
namespace L2
open PySem PySem.Spec PyProof.Rows
section
variable {X : Cx} {x : Str} {p pos : Pos} {e : Expr} {es : List Expr} {t : TA} {id T : String} {r : List V → Hp → VK → Prop}
def tCB (r : List V → Hp → VK → Prop) (t : TA) : TE := fun σ H Q => t σ H fun vs H1 => r vs H1 Q
theorem pe_callB (hc : CallR X (.builtin id) r) (hg : Gl X x) (hm : X.mg x = none) (hv : bootBuiltins x = some (.builtin id)) (ha : PA X (e :: es) t) (hn : x ≠ "__name__" := by decide) (hdb : (x == ("__debug__" : Str)) = false := by decide)
    (he : starEach (e :: es) X.env = (false, eval e X.env) :: starEach es X.env := by rfl) (hpl : (backTo pos (starEach es X.env)).any (·.1) = false := by rfl) : PE X (.Call (.Name x p) (e :: es) [] pos) (tCB r t) := by
  intro pins s σ H Q I h
  refine wpAny_Call_Name_kw (ld_blt I hg hm hv ?_ hn hdb)
  exact PyProof.Rows.callWith_builtin1 (thn (ha pos pins s σ H _ I h) fun us s1 ⟨vs, H1, I1, r1, q1⟩ => hc pins s1 σ H1 vs us Q I1 r1 q1) he hpl
theorem pe_callTy (hc : CallR X (.type T) r) (hg : Gl X x) (hm : X.mg x = none) (hv : bootBuiltins x = some (.type T)) (ha : PA X (e :: es) t) (hn : x ≠ "__name__" := by decide) (hdb : (x == ("__debug__" : Str)) = false := by decide)
    (he : starEach (e :: es) X.env = (false, eval e X.env) :: starEach es X.env := by rfl) (hpl : (backTo pos (starEach es X.env)).any (·.1) = false := by rfl) : PE X (.Call (.Name x p) (e :: es) [] pos) (tCB r t) := by
  intro pins s σ H Q I h
  refine wpAny_Call_Name_kw (ld_blt I hg hm hv ?_ hn hdb)
  exact PyProof.Rows.callWith_type1 (thn (ha pos pins s σ H _ I h) fun us s1 ⟨vs, H1, I1, r1, q1⟩ => hc pins s1 σ H1 vs us Q I1 r1 q1) he hpl
end
end L2
namespace HT
open PySem PyProof.Rows
section
open PySem.SeqAt
open PySem.AutoSeq1 (wpAny_loadPart')
open PySem.MeetsSeq PySem.MeetsSeq2 PySem.MeetsSeq3
end
section
variable {prog : Program} {w : World} {A : Around} {E : Value → Shared → Prop} {s : Shared}
def sIx (n d : Nat) : Option Int → Nat
  | none => d
  | some v => if v < 0 then (v + (n : Int)).toNat else min v.toNat n
end
end HT
namespace L2
open PySem PySem.Spec PyProof.Rows
abbrev TO := St → Hp → (Option Int → Hp → Prop) → Prop
def PO (X : Cx) (e : Option Expr) (t : TO) : Prop :=
  ∀ (pins : List (Addr × Obj)) (s : Shared) (σ : St) (H : Hp) (Q : Option Int → Hp → Prop), Inv X pins σ H s → t σ H Q →
    wpAny (model X.prog X.w) X.A (evalPart e X.env) (fun u s' => ∃ o H', Inv X pins σ H' s' ∧ IsPart u o ∧ Q o H') X.xe s
def tNoPart : TO := fun _ H Q => Q none H
def tPart (t : TE) : TO := fun σ H Q => t σ H fun x H1 => ∃ i, x = .int i ∧ Q (some i) H1
section
variable {X : Cx} {e : Expr} {te : TE} {lo hi : Option Expr} {tl th : TO} {pos p2 : Pos}
theorem po_none : PO X none tNoPart := by
  intro pins s σ H Q I h
  rw [evalPart_none]
  exact wpAny_pure ⟨none, H, I, .none, h⟩
theorem po_some (h : PE X e te) : PO X (some e) (tPart te) := by
  intro pins s σ H Q I hw
  rw [evalPart_some]
  refine thn (h pins s σ H _ I hw) fun u s1 ⟨x, H1, I1, r1, q1⟩ => ?_
  obtain ⟨i, rfl, q⟩ := q1
  obtain ⟨t, rfl⟩ := r1
  exact ⟨some i, H1, I1, .int i t, q⟩
def SlR (X : Cx) (r : V → Option Int → Option Int → Hp → VK → Prop) : Prop :=
  ∀ (pins : List (Addr × Obj)) (s : Shared) (σ : St) (H : Hp) (x : V) (v vl vu : Value) (lo hi : Option Int) (sl : Addr) (Q : VK), Inv X pins σ H s → RelV x v → s.heap.IsSliceOf sl vl vu .none → IsPart vl lo → IsPart vu hi → r x lo hi H Q →
    ∃ T id, typeLookup (.type T) "__getitem__" = pure (some (.builtin id)) ∧ s.TypeIs v T ∧ wpAny (model X.prog X.w) X.A (getItem v (.ref sl)) (EP X pins σ Q) X.xe s
theorem SlR.or {r r' : V → Option Int → Option Int → Hp → VK → Prop} (h : SlR X r) (h' : SlR X r') : SlR X (fun x lo hi H Q => r x lo hi H Q ∨ r' x lo hi H Q) := by
  intro pins s σ H x v vl vu lo hi sl Q I rx hs pl pu q
  rcases q with q | q
  · exact h pins s σ H x v vl vu lo hi sl Q I rx hs pl pu q
  · exact h' pins s σ H x v vl vu lo hi sl Q I rx hs pl pu q
def tSl (r : V → Option Int → Option Int → Hp → VK → Prop) (te : TE) (tl th : TO) : TE := fun σ H Q => te σ H fun x H1 => tl σ H1 fun l H2 => th σ H2 fun u H3 => r x l u H3 Q
theorem pe_slice {r : V → Option Int → Option Int → Hp → VK → Prop} (hr : SlR X r) (he : PE X e te) (hl : PO X lo tl) (hu : PO X hi th) : PE X (.Subscript e (.Slice lo hi none p2) pos) (tSl r te tl th) := by
  intro pins s σ H Q I h
  refine Subscript_ (thn (he pins s σ H _ I h) fun v s1 ⟨x, H1, I1, r1, q1⟩ => ?_)
  refine wpAny_Slice (thn (hl pins s1 σ H1 _ I1 q1) fun vl s2 ⟨l, H2, I2, pl, q2⟩ => thn (hu pins s2 σ H2 _ I2 q2) fun vu s3 ⟨u, H3, I3, pu, q3⟩ => ?_)
  rw [evalPart_none]
  refine wpAny_pure ?_
  have I4 : Inv X pins σ H3 { s3 with heap := s3.heap.push { cls := .type "slice", data := .fields #[vl, vu, .none] } } := I3.kept (t' := s3.toks) fun b ob q => Heap.get?_push_of_some _ q
  obtain ⟨T, id, hT, ht, hg⟩ := hr pins { s3 with heap := s3.heap.push { cls := .type "slice", data := .fields #[vl, vu, .none] } } σ H3 x v vl vu l u s3.heap.objs.size Q I4 r1 (Heap.IsSliceOf.new ..) pl pu q3
  show wpAny (model X.prog X.w) X.A (subscriptTail e (.Slice lo hi none p2) v (.ref s3.heap.objs.size)) (EP X pins σ Q) X.xe { s3 with heap := s3.heap.push { cls := .type "slice", data := .fields #[vl, vu, .none] } }
  exact tail_any (ops := [.ref s3.heap.objs.size, v]) ht hT hg (by with_unfolding_all rfl)
def cutV (xs : List V) (lo hi : Option Int) : List V := (xs.drop (HT.sIx xs.length 0 lo)).take (HT.sIx xs.length xs.length hi - HT.sIx xs.length 0 lo)
theorem cutV_length (xs : List V) (lo hi : Option Int) : (cutV xs lo hi).length ≤ xs.length := by
  unfold cutV
  rw [List.length_take, List.length_drop]
  omega
end
end L2
namespace L2
open PySem PySem.Spec PyProof.Rows
def ixN (n : Nat) (i : Int) : Option Nat := if 0 ≤ i then (if i < n then some i.toNat else none) else if -(n : Int) ≤ i then some (i + n).toNat else none
def atI {α : Type} (xs : List α) (i : Int) : Option α := (ixN xs.length i).bind fun j => xs[j]?
theorem ixN_seq {n : Nat} {i : Int} {j : Nat} (h : ixN n i = some j) : seqIndex? i n = some j ∧ j < n ∧ -(n : Int) ≤ i ∧ i < n := by
  unfold ixN at h
  by_cases h0 : 0 ≤ i
  · rw [if_pos h0] at h
    by_cases h1 : i < n
    · rw [if_pos h1] at h
      have e : i.toNat = j := Option.some.inj h
      exact ⟨by rw [seqIndex_of h0 h1, e], by omega, by omega, h1⟩
    · rw [if_neg h1] at h; cases h
  · rw [if_neg h0] at h
    by_cases h1 : -(n : Int) ≤ i
    · rw [if_pos h1] at h
      have e : (i + n).toNat = j := Option.some.inj h
      exact ⟨by rw [seqIndex_neg (by omega) h1, e], by omega, h1, by omega⟩
    · rw [if_neg h1] at h; cases h
theorem atI_get {α : Type} {xs : List α} {i : Int} {v : α} (h : atI xs i = some v) : ∃ j, seqIndex? i xs.length = some j ∧ xs[j]? = some v ∧ j < xs.length ∧ -(xs.length : Int) ≤ i ∧ i < xs.length := by
  unfold atI at h
  cases e : ixN xs.length i with
  | none => rw [e] at h; cases h
  | some j =>
    rw [e] at h
    obtain ⟨h1, h2, h3, h4⟩ := ixN_seq e
    exact ⟨j, h1, h, h2, h3, h4⟩
def PlainIx (b : Expr) : Prop := ∀ o i, subscripted b false o i = operate [o, i] (getItem o i)
def IxR (X : Cx) (r : R2) : Prop :=
  ∀ (value slice : Expr) (pins : List (Addr × Obj)) (s : Shared) (σ : St) (H : Hp) (x y : V) (v u : Value) (Q : VK), Inv X pins σ H s → RelV x v → RelV y u → r x y H Q →
    subscripted slice false v u = operate [v, u] (getItem v u) → wpAny (model X.prog X.w) X.A (subscriptTail value slice v u) (EP X pins σ Q) X.xe s
def MtR (X : Cx) (id : String) (r : V → List V → Hp → VK → Prop) : Prop :=
  ∀ (pins : List (Addr × Obj)) (s : Shared) (σ : St) (H : Hp) (x : V) (xs : List V) (v : Value) (us : List Value) (Q : VK), Inv X pins σ H s → RelV x v → Vals xs us → r x xs H Q →
    wpAny (model X.prog X.w) X.A (call (.builtin id) (v :: us)) (EP X pins σ Q) X.xe s
section
variable {X : Cx} {a b : Expr} {ta tb : TE} {pos : Pos}
theorem IxR.or {r r' : R2} (h : IxR X r) (h' : IxR X r') : IxR X (fun x y H Q => r x y H Q ∨ r' x y H Q) := by
  intro value slice pins s σ H x y v u Q I rx ry q hs
  rcases q with q | q
  · exact h value slice pins s σ H x y v u Q I rx ry q hs
  · exact h' value slice pins s σ H x y v u Q I rx ry q hs
theorem MtR.or {id : String} {r r' : V → List V → Hp → VK → Prop} (h : MtR X id r) (h' : MtR X id r') : MtR X id (fun x xs H Q => r x xs H Q ∨ r' x xs H Q) := by
  intro pins s σ H x xs v us Q I rx rs q
  rcases q with q | q
  · exact h pins s σ H x xs v us Q I rx rs q
  · exact h' pins s σ H x xs v us Q I rx rs q
theorem pe_ix {r : R2} (hr : IxR X r) (ha : PE X a ta) (hb : PE X b tb) (hs : PlainIx b) : PE X (.Subscript a b pos) (tOp r ta tb) := by
  intro pins s σ H Q I h
  exact Subscript_ (binT ha hb I h fun v u s2 x y H2 I2 rx ry q => hr a b pins s2 σ H2 x y v u Q I2 rx ry q (hs _ _))
def rIxL (K : PySem.W.Frag) : R2 := fun x y H Q => ∃ p xs i v, x = .ref p ∧ y = .int i ∧ SqL K H p xs ∧ atI xs i = some v ∧ Q v H
def rIxT (K : PySem.W.Frag) : R2 := fun x y H Q => ∃ p xs i v, x = .ref p ∧ y = .int i ∧ SqT K H p xs ∧ atI xs i = some v ∧ Q v H
def rIxS : R2 := fun x y H Q => ∃ z i c, x = .str z ∧ y = .int i ∧ z.length ≤ sizeLine ∧ atI z.cps.toList i = some c ∧ Q (.str ⟨#[c]⟩) H
theorem ix_list : IxR X (rIxL X.K) := by
  intro value slice pins s σ H x y v u Q I rx ry h hs
  obtain ⟨p, xs, i, z, rfl, rfl, hq, he, q⟩ := h
  cases rx
  obtain ⟨t, rfl⟩ := ry
  obtain ⟨its, r, pl, hz⟩ := I.list hq
  obtain ⟨j, h1, h2, h3, h4, h5⟩ := atI_get he
  obtain ⟨w, ew, rw'⟩ := r.get h2
  have hl := r.length
  have hn := line63
  have fin : EP X pins σ Q w s := ⟨z, H, I, rw', q⟩
  by_cases h0 : 0 ≤ i
  · have hj : i.toNat = j := by
      rw [seqIndex_of h0 h5] at h1
      exact Option.some.inj h1
    exact item_listR pl.isList h0 (by omega) (by rw [hj]; simpa using ew) fin hs
  · have hj : (i + (its.toArray.size : Int)).toNat = j := by
      rw [seqIndex_neg (by omega) h4] at h1
      rw [List.size_toArray, ← hl]
      exact Option.some.inj h1
    exact subscriptTail_builtinR (x := w) pl.isList.typeIs slot_list_getitem.lookup
      (wpAny_getItem_list_neg (Q := fun r s' => r = w ∧ EP X pins σ Q r s') pl.isList (by omega) (by rw [List.size_toArray] <;> omega) (by omega) (by rw [hj]; simpa using ew) ⟨rfl, fin⟩) hs
theorem ix_tup : IxR X (rIxT X.K) := by
  intro value slice pins s σ H x y v u Q I rx ry h hs
  obtain ⟨p, xs, i, z, rfl, rfl, hq, he, q⟩ := h
  cases rx
  obtain ⟨t, rfl⟩ := ry
  obtain ⟨its, r, pl, hz⟩ := I.tuple hq
  obtain ⟨j, h1, h2, h3, h4, h5⟩ := atI_get he
  obtain ⟨w, ew, rw'⟩ := r.get h2
  have hl := r.length
  have hn := line63
  have fin : EP X pins σ Q w s := ⟨z, H, I, rw', q⟩
  exact subscriptTail_builtinR (x := w) pl.typeIs slot_tuple_getitem.lookup
    (getItem_tuple (j := j) (Q := fun r s' => r = w ∧ EP X pins σ Q r s') pl (by omega) (by omega) (by rw [List.size_toArray, ← hl]; exact h1) (by simpa using ew) ⟨rfl, fin⟩) hs
theorem ix_str : IxR X rIxS := by
  intro value slice pins s σ H x y v u Q I rx ry h hs
  obtain ⟨z, i, c, rfl, rfl, hz, he, q⟩ := h
  obtain ⟨t, rfl⟩ := rx
  obtain ⟨t', rfl⟩ := ry
  obtain ⟨j, h1, h2, h3, h4, h5⟩ := atI_get he
  have hl : z.cps.toList.length = z.length := by simp [Str.length]
  rw [hl] at h1 h4 h5
  have hn := line63
  exact tail_any (typeIs_str s z t) slot_str_getitem.lookup (getItem_str (c := c) (by
    have e1 : decide (i < -(2 ^ 63 : Int)) = false := decide_eq_false (by omega)
    have e2 : decide (i ≥ 2 ^ 63) = false := decide_eq_false (by omega)
    rw [e1, e2, Bool.or_false]) (by rw [h1]; simpa using h2) ⟨.str ⟨#[c]⟩, H, I.tok _, ⟨_, rfl⟩, q⟩) hs
def rIx (K : PySem.W.Frag) : R2 := fun x y H Q => rIxL K x y H Q ∨ rIxT K x y H Q ∨ rIxS x y H Q
theorem ix_seq : IxR X (rIx X.K) := ix_list.or (ix_tup.or ix_str)
theorem mapSeq_set (its : List Value) (n j : Nat) (u : Value) : Obj.mapSeq (·.setIfInBounds j u) { cls := .type "list", data := .seq its.toArray n } = { cls := .type "list", data := .seq (its.set j u).toArray n } := by
  simp [Obj.mapSeq]
theorem Inv.lst {pins : List (Addr × Obj)} {σ : St} {H : Hp} {s : Shared} {p : Addr} {xs : List V} (I : Inv X pins σ H s) (h : H p = some (.lst xs)) :
    ∃ (its : List Value) (n : Nat), Vals xs its ∧ s.heap.get? p = some { cls := .type "list", data := .seq its.toArray n } ∧ xs.length ≤ sizeLine := by
  obtain ⟨z, its, n, r, e⟩ := I.hok p _ h
  exact ⟨its, n, r, e, z⟩
theorem Inv.lstUpd {pins : List (Addr × Obj)} {σ : St} {H : Hp} {s : Shared} {p : Addr} {xs ys : List V} {its its' : List Value} {n n' : Nat} {f : Obj → Obj} (I : Inv X pins σ H s) (h : H p = some (.lst xs))
    (ho : s.heap.get? p = some { cls := .type "list", data := .seq its.toArray n }) (hf : f { cls := .type "list", data := .seq its.toArray n } = { cls := .type "list", data := .seq its'.toArray n' }) (r : Vals ys its') (hz : ys.length ≤ sizeLine) (t : Nat) :
    Inv X pins σ (upd H p (.lst ys)) { s with heap := s.heap.update p f, toks := t } := by
  have e : (s.heap.update p f).get? p = some { cls := .type "list", data := .seq its'.toArray n' } := by
    rw [Heap.get?_update_self f ho (by rw [hf] <;> rfl), hf]
  refine I.write (x := p) (e := p) (by rw [h]; trivial) (.inl rfl) (fun b u hb q => (Heap.get?_update_other _ _ (Ne.symm hb)).trans q) ⟨_, e⟩ ?_
  exact ⟨hz, its', n', r, e⟩
def rSetL : V → V → V → Hp → (Hp → Prop) → Prop := fun o i v H Q => ∃ p xs k j, o = .ref p ∧ i = .int k ∧ H p = some (.lst xs) ∧ ixN xs.length k = some j ∧ Q (upd H p (.lst (xs.set j v)))
theorem set_list : PSet X rSetL := by
  intro pins s σ H o i v ov iv u Q I ro ri rv h
  obtain ⟨p, xs, k, j, rfl, rfl, hp, hj, q⟩ := h
  cases ro
  obtain ⟨t, rfl⟩ := ri
  obtain ⟨its, n, r, ho, hz⟩ := I.lst hp
  obtain ⟨h1, h2, h3, h4⟩ := ixN_seq hj
  have hl := r.length
  have hn := line63
  have I' : Inv X pins σ (upd H p (.lst (xs.set j v))) { s with heap := s.heap.update p (Obj.mapSeq (·.setIfInBounds j u)) } :=
    I.lstUpd hp ho (mapSeq_set its n j u) (r.set rv j) (by rw [List.length_set]; exact hz) s.toks
  by_cases h0 : 0 ≤ k
  · have hk : k.toNat = j := by
      rw [seqIndex_of h0 h4] at h1
      exact Option.some.inj h1
    exact PySem.W.ki_setAt ho h0 (by omega) (by rw [List.size_toArray, ← hl]; exact h4) (by rw [hk]; exact ⟨_, I', q⟩)
  · have hk : (k + (its.toArray.size : Int)).toNat = j := by
      rw [seqIndex_neg (by omega) h3] at h1
      rw [List.size_toArray, ← hl]
      exact Option.some.inj h1
    exact PySem.W.ki_setBack ho (by omega) (by rw [List.size_toArray, ← hl]; exact h3) (by omega) (by rw [hk]; exact ⟨_, I', q⟩)
theorem slice_bounds (lo hi : Option Int) (n : Nat) : (sliceBounds lo hi none n).1 = ((HT.sIx n 0 lo : Nat) : Int) ∧ (sliceBounds lo hi none n).2.1 = ((HT.sIx n n hi : Nat) : Int) ∧ (sliceBounds lo hi none n).2.2 = 1 := by
  refine ⟨?_, ?_, rfl⟩
  · cases lo with
    | none => simp [sliceBounds, HT.sIx]
    | some i =>
      simp only [sliceBounds, HT.sIx, Option.getD_none, show (1 : Int) > 0 by decide, if_true]
      by_cases h : i < 0
      · simp only [h, if_true] <;> omega
      · simp only [h, if_false] <;> omega
  · cases hi with
    | none => simp [sliceBounds, HT.sIx]
    | some i =>
      simp only [sliceBounds, HT.sIx, Option.getD_none, show (1 : Int) > 0 by decide, if_true]
      by_cases h : i < 0
      · simp only [h, if_true] <;> omega
      · simp only [h, if_false] <;> omega
theorem slicePick_cut (its : List Value) (lo hi : Option Int) : slicePick its.toArray lo hi none = ((its.drop (HT.sIx its.length 0 lo)).take (HT.sIx its.length its.length hi - HT.sIx its.length 0 lo)).toArray := by
  obtain ⟨h1, h2, h3⟩ := slice_bounds lo hi its.toArray.size
  unfold slicePick
  rw [h1, h2, h3]
  simp only [sliceRange_one, pick_run, List.size_toArray] <;> rfl
def rSlL (K : PySem.W.Frag) : V → Option Int → Option Int → Hp → VK → Prop := fun x lo hi H Q => ∃ a xs, x = .ref a ∧ SqL K H a xs ∧ ∀ p, H p = none → Q (.ref p) (upd H p (.lst (cutV xs lo hi)))
theorem sl_list : SlR X (rSlL X.K) := by
  intro pins s σ H x v vl vu lo hi sl Q I rx hs pl pu h
  obtain ⟨a, xs, rfl, hx, q⟩ := h
  cases rx
  obtain ⟨its, r, ht, hz⟩ := I.list hx
  have hlen := r.length
  refine ⟨"list", _, slot_list_getitem.lookup, ht.isList.typeIs, ?_⟩
  refine wpAny_getItem_list_slice ht.isList hs pl pu .none (by simp) ?_ (by rw [List.size_toArray] <;> omega)
  rw [slicePick_cut, ← hlen]
  refine ⟨.ref s.heap.objs.size, _, I.laid (t' := s.toks) (o := .lst (cutV xs lo hi)) (fun b ob q => Heap.get?_push_of_some _ q) (Nat.le_refl _) ?_, rfl, q _ (I.hok.fresh (Nat.le_refl _))⟩
  exact ⟨Nat.le_trans (cutV_length xs lo hi) hz, _, 0, (r.drop (HT.sIx xs.length 0 lo)).take (HT.sIx xs.length xs.length hi - HT.sIx xs.length 0 lo), Heap.get?_push_size _ rfl⟩
theorem call_len_seq : CallR X (.builtin "len") (fun xs H Q => ∃ p ys, xs = [.ref p] ∧ (SqL X.K H p ys ∨ SqT X.K H p ys) ∧ Q (.int ys.length) H) := by
  intro pins s σ H xs us Q I r h
  obtain ⟨p, ys, rfl, hq, q⟩ := h
  obtain ⟨u, rfl, rx⟩ := vals1 r
  cases rx
  have hn := line63
  rcases hq with hq | hq
  · obtain ⟨its, r', pl, hz⟩ := I.list hq
    have hlen := r'.length
    exact Calls.call_len_list pl.isList (by simp only [List.size_toArray] <;> omega) ⟨.int ys.length, H, I.tok _, ⟨s.toks + 1, by rw [List.size_toArray, hlen]⟩, q⟩
  · obtain ⟨its, r', pl, hz⟩ := I.tuple hq
    have hlen := r'.length
    exact len_tuple pl (by simp only [List.size_toArray] <;> omega) ⟨.int ys.length, H, I.tok _, ⟨s.toks + 1, by rw [List.size_toArray, hlen]⟩, q⟩
theorem CallR.or {f : Value} {r r' : List V → Hp → VK → Prop} (h : CallR X f r) (h' : CallR X f r') : CallR X f (fun xs H Q => r xs H Q ∨ r' xs H Q) := by
  intro pins s σ H xs us Q I rs q
  rcases q with q | q
  · exact h pins s σ H xs us Q I rs q
  · exact h' pins s σ H xs us Q I rs q
theorem call_list_of : CallR X (.type "list") (fun xs H Q => ∃ p ys, xs = [.ref p] ∧ (SqL X.K H p ys ∨ SqT X.K H p ys) ∧ ∀ l, H l = none → Q (.ref l) (upd H l (.lst ys))) := by
  intro pins s σ H xs us Q I r h
  obtain ⟨p, ys, rfl, hq, q⟩ := h
  obtain ⟨u, rfl, rx⟩ := vals1 r
  cases rx
  have fin : ∀ (its : List Value), Vals ys its → ys.length ≤ sizeLine → ∀ (h' : Heap) (c' : Nat), (∀ b o', s.heap.get? b = some o' → h'.get? b = some o') →
      h'.get? s.heap.objs.size = some { cls := .type "list", dict := none, data := .seq its.toArray c', slots := #[] } → EP X pins σ Q (.ref s.heap.objs.size) { s with heap := h' } := fun its r' hz h' c' kp e =>
    ⟨.ref s.heap.objs.size, _, I.laid (t' := s.toks) kp (Nat.le_refl _) (show ObjOk X.prog X.w _ h' _ (.lst ys) from ⟨hz, its, c', r', e⟩), rfl, q _ (I.hok.fresh (Nat.le_refl _))⟩
  rcases hq with hq | hq
  · obtain ⟨its, r', pl, hz⟩ := I.list hq
    have hlen := r'.length
    obtain ⟨o, ho, hc, n, hd⟩ := pl.isList
    exact call_list_seq p (.inl rfl) ho hc hd (fun h' c' kp e => fin its r' hz h' c' kp e) (by simp only [List.size_toArray] <;> omega)
  · obtain ⟨its, r', pl, hz⟩ := I.tuple hq
    have hlen := r'.length
    obtain ⟨o, ho, hc, n, hd⟩ := pl
    exact call_list_seq p (.inr rfl) ho hc hd (fun h' c' kp e => fin its r' hz h' c' kp e) (by simp only [List.size_toArray] <;> omega)
theorem call_tuple_of : CallR X (.type "tuple") (fun xs H Q => ∃ p ys, xs = [.ref p] ∧ ((SqL X.K H p ys ∧ ∀ l, H l = none → Q (.ref l) (upd H l (.tup ys))) ∨ (SqT X.K H p ys ∧ Q (.ref p) H))) := by
  intro pins s σ H xs us Q I r h
  obtain ⟨p, ys, rfl, h⟩ := h
  obtain ⟨u, rfl, rx⟩ := vals1 r
  cases rx
  rcases h with ⟨hq, q⟩ | ⟨hq, q⟩
  · obtain ⟨its, r', pl, hz⟩ := I.list hq
    have hlen := r'.length
    refine call_tuple_list pl.isList (fun h' kp => ?_) (by simp only [List.size_toArray] <;> omega)
    have I1 : Inv X pins σ H { s with heap := h' } := I.kept (t' := s.toks) kp
    have I2 : Inv X pins σ (upd H h'.objs.size (.tup ys)) { s with heap := h'.push { cls := .type "tuple", data := .seq its.toArray } } :=
      I1.laid (t' := s.toks) (fun b o e => Heap.get?_push_of_some _ e) (Nat.le_refl _) (show ObjOk X.prog X.w _ _ _ (.tup ys) from ⟨hz, its, r', IsTup.new _ _⟩)
    exact ⟨.ref h'.objs.size, _, I2, rfl, q _ (I1.hok.fresh (Nat.le_refl _))⟩
  · obtain ⟨its, r', pl, hz⟩ := I.tuple hq
    exact call_tuple_same pl ⟨.ref p, H, I, rfl, q⟩
def tyV (K : PySem.W.Frag) (T : String) (x : V) (H : Hp) : Prop := match x with
  | .str _ => T = "str"
  | .int _ => T = "int"
  | .ref p => (T = "list" ∧ ∃ xs, SqL K H p xs) ∨ (T = "tuple" ∧ ∃ o, K.lookup p = some o ∧ o.cls = .type "tuple" ∧ o.dict = none) ∨
      (T = "dict" ∧ ((∃ kvs, H p = some (.dK kvs)) ∨ ∃ kvs, H p = some (.dT kvs))) ∨ (T = "set" ∧ ∃ S n, H p = some (.set S n))
  | _ => False
theorem tyV_is {pins : List (Addr × Obj)} {σ : St} {H : Hp} {s : Shared} {T : String} {x : V} {v : Value} (I : Inv X pins σ H s) (r : RelV x v) (ty : tyV X.K T x H) :
    s.TypeIs v T ∧ ∀ a, v = .ref a → ∃ ob, s.heap.get? a = some ob ∧ ob.dict = none := by
  cases x with
  | str z =>
    obtain ⟨t, rfl⟩ := r
    cases (show T = "str" from ty)
    exact ⟨typeIs_str s z t, fun _ e => nomatch e⟩
  | int i =>
    obtain ⟨t, rfl⟩ := r
    cases (show T = "int" from ty)
    exact ⟨typeIs_int s i t, fun _ e => nomatch e⟩
  | ref p =>
    cases r
    rcases ty with ⟨rfl, xs, hq⟩ | ⟨rfl, o, hk, hc, hd⟩ | ⟨rfl, hk⟩ | ⟨rfl, S, n, hk⟩
    · obtain ⟨its, _, pl, _⟩ := I.list hq
      refine ⟨pl.isList.typeIs, fun a e => ?_⟩
      cases e
      obtain ⟨o, n, e, c, hd, _⟩ := pl
      exact ⟨o, e, hd⟩
    · refine ⟨⟨o, I.kIn p o hk, hc⟩, fun a e => ?_⟩
      cases e
      exact ⟨o, I.kIn _ o hk, hd⟩
    · have z : ∃ o, s.heap.get? p = some o ∧ o.ExactDict := by
        rcases hk with ⟨kvs, hk⟩ | ⟨kvs, hk⟩
        · obtain ⟨_, _, _, _, o, _, _, e, ex, _⟩ := I.hok p _ hk
          exact ⟨o, e, ex⟩
        · obtain ⟨_, _, _, _, o, _, _, e, ex, _⟩ := I.hok p _ hk
          exact ⟨o, e, ex⟩
      obtain ⟨o, e, ex⟩ := z
      refine ⟨⟨o, e, ex.1⟩, fun a e2 => ?_⟩
      cases e2
      exact ⟨o, e, ex.2.1⟩
    · obtain ⟨o, _, _, _, e, ex, _⟩ := I.hok p _ hk
      refine ⟨⟨o, e, ex.1⟩, fun a e2 => ?_⟩
      cases e2
      exact ⟨o, e, ex.2.1⟩
  | _ => exact False.elim ty
def tBM (K : PySem.W.Frag) (T : String) (r : V → List V → Hp → VK → Prop) (to : TE) (t : TA) : TE := fun σ H Q => to σ H fun x H1 => tyV K T x H1 ∧ t σ H1 fun xs H2 => r x xs H2 Q
variable {o e : Expr} {es : List Expr} {to : TE} {t : TA} {name : Str} {apos cpos : Pos} {T id : String} {r : V → List V → Hp → VK → Prop}
theorem pe_bm (pa : PlainAttrs T) (slot : Slot T name id) (hty : typeOf (.builtin id) = pure (.type "method_descriptor")) (hm : MtR X id r) (ho : PE X o to) (ha : PA X (e :: es) t)
    (hbase : attributeBase o name X.env (eval o X.env) = eval o X.env := by rfl)
    (hfew : ((backTo cpos (starEach (e :: es) X.env)).all (fun x => !x.1) && (backToKw cpos (keywordEach [] X.env)).all (fun x => x.1.isSome)
      && decide ((e :: es).length + ([] : List Keyword).length + (if ([] : List Keyword).isEmpty then 0 else 1) < 30)) = true := by rfl)
    (hline : (apos.endLine == cpos.line) = true := by rfl) (hs : starEach (e :: es) X.env = (false, eval e X.env) :: starEach es X.env := by rfl) (hplain : (backTo cpos (starEach es X.env)).any (·.1) = false := by rfl) :
    PE X (.Call (.Attribute o name apos) (e :: es) [] cpos) (tBM X.K T r to t) := by
  intro pins s σ H Q I h
  refine wpAny_Call_method_late hbase hfew hline rfl (thn (ho pins s σ H _ I h) fun v s1 ⟨x, H1, I1, r1, ty, q1⟩ => ?_)
  obtain ⟨h1, h2⟩ := tyV_is I1 r1 ty
  refine ⟨T, id, pa, slot, hty, h1, h2, ?_⟩
  have hA := ha cpos pins s1 σ H1 _ I1 q1
  rw [hs] at hA ⊢
  refine Calls.callWith_builtin (by show (false || (backTo cpos (starEach es X.env)).any (·.1)) = false; rw [hplain] <;> rfl) (Calls.evalArgs_plain ?_)
  exact thn hA fun us s2 ⟨vs, H2, I2, r2, q2⟩ => hm pins s2 σ H2 x vs v us Q I2 r1 r2 q2
/- xs.append(e), list.index on a module's tuple .. are MtR facts of 06m -/
end
end L2
namespace L2
open PySem PySem.Spec PyProof.Rows
def MtM (X : Cx) (id : String) (r : V → List V → Hp → VK → Prop) : Prop :=
  ∀ (pins : List (Addr × Obj)) (s : Shared) (σ : St) (H : Hp) (x : V) (xs : List V) (v : Value) (us : List Value) (Q : VK), Inv X pins σ H s → RelV x v → Vals xs us → r x xs H Q →
    wpAny (model X.prog X.w) X.A (call (.builtin id) (v :: us)) (EP X pins σ Q) X.xe s
theorem Vals.one : ∀ {x : V} {us : List Value}, Vals [x] us → ∃ u, us = [u] ∧ RelV x u
  | _, _, .cons r .nil => ⟨_, rfl, r⟩
theorem Vals.zero : ∀ {us : List Value}, Vals [] us → us = []
  | _, .nil => rfl
theorem Vals.dropLast {xs : List V} {us : List Value} (h : Vals xs us) : Vals xs.dropLast us.dropLast := by
  induction h with
  | nil => exact .nil
  | cons r t ih =>
    cases t with
    | nil => exact .nil
    | cons q t' => exact .cons r ih
theorem Vals.reverse {xs : List V} {us : List Value} (h : Vals xs us) : Vals xs.reverse us.reverse := by
  induction h with
  | nil => exact .nil
  | cons r t ih => rw [List.reverse_cons, List.reverse_cons]; exact Vals.append ih (.cons r .nil)
section
variable {X : Cx} {pins : List (Addr × Obj)} {σ : St} {H : Hp} {s : Shared} {l b : Addr} {xs ys zs : List V}
theorem Inv.lset {its its' : List Value} {n : Nat} {f : Array Value → Array Value} {t' : Nat} (I : Inv X pins σ H s) (hH : H l = some (.lst xs))
    (e : s.heap.get? l = some { cls := .type "list", data := .seq its.toArray n }) (hf : f its.toArray = its'.toArray) (hv : Vals ys its') (hz : ys.length ≤ sizeLine) :
    Inv X pins σ (upd H l (.lst ys)) { s with heap := s.heap.update l (Obj.mapSeq f), toks := t' } := by
  have q := PySem.IsL.update e f
  rw [hf] at q
  refine I.write (x := l) (e := l) (by rw [hH]; exact trivial) (.inl rfl) (fun b' u hb hu => (Heap.get?_update_other s.heap (Obj.mapSeq f) (Ne.symm hb)).trans hu) ⟨_, q⟩ ?_
  exact ⟨hz, its', _, hv, q⟩
theorem Inv.lnew {its : List Value} {t' : Nat} (I : Inv X pins σ H s) (hv : Vals ys its) (hz : ys.length ≤ sizeLine) :
    Inv X pins σ (upd H s.heap.objs.size (.lst ys)) { s with heap := s.heap.push { cls := .type "list", data := .seq its.toArray }, toks := t' } :=
  I.laid (fun _ _ q => Heap.get?_push_of_some _ q) (Nat.le_refl _) ⟨hz, its, 0, hv, Heap.get?_push_size _ rfl⟩
theorem Inv.fresh (I : Inv X pins σ H s) : H s.heap.objs.size = none := I.hok.fresh (Nat.le_refl _)
theorem Inv.lstM (I : Inv X pins σ H s) (hH : H l = some (.lst xs)) : xs.length ≤ sizeLine ∧ ∃ (its : List Value) (n : Nat), Vals xs its ∧ xs.length = its.length ∧ s.heap.get? l = some { cls := .type "list", data := .seq its.toArray n } := by
  obtain ⟨z, its, n, r, e⟩ := I.hok l _ hH
  exact ⟨z, its, n, r, r.length, e⟩
end
section
variable {X : Cx}
def rAppend : V → List V → Hp → VK → Prop := fun x vs H Q => ∃ l xs y, x = .ref l ∧ vs = [y] ∧ H l = some (.lst xs) ∧ xs.length < sizeLine ∧ Q .non (upd H l (.lst (xs ++ [y])))
theorem mt_append : MtM X "list.append" rAppend := by
  intro pins s σ H x vs v us Q I rx rv h
  obtain ⟨l, xs, y, rfl, rfl, hH, hz, q⟩ := h
  cases rx
  obtain ⟨u, rfl, ru⟩ := rv.one
  obtain ⟨z, its, n, r, hl, e⟩ := I.lstM hH
  refine call_meets F.slot_list_append ⟨_, e, rfl⟩ F.entry_list_append (F.args_list_append_2 _ _) (PySem.list_append l its.toArray n u (by rw [List.size_toArray]; omega)) ⟨e, ?_⟩
  refine ⟨.non, _, I.lset (its' := its ++ [u]) hH e (by simp) (r.append (.cons ru .nil)) ?_, rfl, q⟩
  rw [List.length_append, List.length_singleton]
  omega
end
section
variable {prog : Program} {w : World} {A : Around} {E : Value → Shared → Prop} {s : Shared}
set_option maxRecDepth 100000 in
end
section
variable {X : Cx}
end
end L2
namespace Att
open PySem PySem.W PySem.Calls PyProof.Rows
theorem ints_of_wellAll {P : Params} {h : Heap} : ∀ (ns : List Int) (vs : List Value), WellAll P h vs (ns.map WData.int) → IntsAre vs ns := by
  intro ns
  induction ns with
  | nil =>
    intro vs w
    rw [List.map_nil] at w
    cases w
    exact .nil
  | cons n ns ih =>
    intro vs w
    rw [List.map_cons] at w
    cases w with
    | cons a b =>
      cases a
      exact .cons _ _ (ih _ b)
theorem script_of {l : OpenLaw} {n : Nat} (hn : l.most = some n) {P : Params} {h : Heap} {args : List WData} {vals : List Value}
    (hpre : l.row.toRowW.claim.pre args = true) (hwl : WellAll P h vals args) :
    ∃ a vs ns, vals = [Value.ref a] ∧ args = [WData.list (ns.map WData.int)] ∧ h.get? a = some { cls := .type "list", data := .seq vs.toArray } ∧ IntsAre vs ns ∧ ns.length ≤ n := by
  have hsh : WShape.hasAll [] args [.list .int] = true := (pre_splitW hpre).1
  have hc : l.pre.holds [] { args := args } = true := (pre_splitW hpre).2
  obtain ⟨d, r, rfl, h1, h2⟩ := hasAllW_cons hsh
  obtain rfl := hasAllW_nil h2
  obtain ⟨xs, rfl, h3⟩ := hasW_list h1
  obtain ⟨ns, rfl⟩ := items_int h3
  have hlen : ns.length ≤ n := by
    unfold OpenLaw.pre at hc
    have h4 : (WTm.not (.lt (.lit (.int (n : Int))) (.len (.arg 0)))).holds [] { args := [.list (ns.map .int)] } = true := by
      have h4 := (holds_andW hc).1
      rw [hn] at h4
      exact h4
    have h5 := condW_of h4 (w_not (w_lt w_lit (w_len_list (w_arg rfl))))
    rw [List.length_map] at h5
    refine Nat.le_of_not_lt fun q => ?_
    have q' : (n : Int) < ((ns.length : Nat) : Int) := by omega
    first
      | (rw [decide_eq_true q'] at h5; exact absurd h5 (by decide))
      | (simp at h5; omega)
  cases hwl with
  | cons w1 w2 =>
    cases w2
    cases w1 with
    | list ho hall => exact ⟨_, _, ns, rfl, rfl, ho, ints_of_wellAll ns _ hall, hlen⟩
theorem post_true (l : OpenLaw) (args : List WData) : l.row.toRowW.claim.post args (.bool true) args = true :=
  postW_of (r := l.row.toRowW) (X := (true == true))
    (show WShape.has [] (.bool true) .bool = true by first | rfl | decide | simp [WShape.has, WShape.arms, WShape.armsAll])
    (show (WTm.eq .res (.lit (.bool true))).value [] { args := args, res := some (.bool true), after := args } = some (.bool (true == true)) from w_eq_bool (w_res rfl) w_lit) rfl
theorem attach_call {l : OpenLaw} {n : Nat} {q : Program} {loose : List Str} {XP : (Str → Option Value) → Heap → Prop} {YP : World → Heap → Prop} {d : DefRec}
    (hn : l.most = some n) (hdf : d.params.defaults = [])
    (call : ∀ (w : World) (s₀ s₁ : Shared) (mg mb : Str → Option Value) (fa : Addr) (o : Obj) (pm cd doc : Value) (a : Addr) (vs : List Value) (ns : List Int),
      Ground q loose [] XP w s₀ mg mb s₁.heap → YP w s₁.heap →
      s₁.heap.get? fa = some o → o.data = .func (docDef d.name d.params d.body d.scope pm cd doc) → s₁.heap.CodeRec cd d.name → mg d.name = some (.ref fa) →
      s₁.heap.get? a = some { cls := .type "list", data := .seq vs.toArray } → IntsAre vs ns → ns.length ≤ n → s₁.gens = #[] →
      codeAny (model l.prog w) callerA (.call (.ref fa) ⟨[.ref a], []⟩) (fun r s' => r = .ok (.ret (.bool true)) ∧ OldK s₁.heap s'.heap ∧ s'.os = s₁.os ∧ AllBare s'.gens) s₁) :
    WalkO q loose XP YP l.row.toRowW d [] (fun f vs => PySem.call f vs) := by
  intro w s₀ s₁ mg mb G Y fa o pm cd doc dV kV ho hd hcd hD hmg hg args vals as hpre hlay hrd hwl hlo
  obtain rfl : dV = .none := Dflts.none hD hdf
  obtain rfl : kV = .none := Dflts.noKw hD
  obtain ⟨a, vs, ns, rfl, rfl, hobj, hints, hlen⟩ := script_of hn hpre hwl
  refine enter_call (codeAny_mono (call w s₀ s₁ mg mb fa o pm cd doc a vs ns G Y ho (fd_plain hd) hcd hmg hobj hints hlen hg) fun r s' hq => ?_)
  obtain ⟨rfl, h2, h3, h4⟩ := hq
  exact ⟨.inl ⟨.bool true, .bool true, [], rfl, fun _ => rfl, .bool true, post_true l _, fun _ => ⟨List.Pairwise.nil, fun _ hm => (nomatch hm)⟩⟩, h2, h3, h4⟩
section
variable {prog : Program} {w : World} {A : Around} {E : Value → Shared → Prop} {s : Shared} {K : Frag}
end
end Att
namespace L2
open PySem PySem.Spec PyProof.Rows
theorem vals_ints : ∀ {vs : List Value} {ns : List Int}, IntsAre vs ns → Vals (ns.map V.int) vs
  | _, _, .nil => .nil
  | _, _, .cons n t h => .cons ⟨t, rfl⟩ (vals_ints h)
def Only (H : Hp) : Prop := ∀ b, H b = none ∨ ∃ o xs, H b = some (.frz o (.lst xs))
def laidT (ts : List (Addr × Str × Pos)) (H : Hp) : Hp := fun b => match ts.find? (fun t => t.1 == b) with
  | some t => some (.tbl t.2.1 t.2.2)
  | none => H b
theorem laidT_or (ts : List (Addr × Str × Pos)) (H : Hp) (b : Addr) : (laidT ts H b = H b ∧ ∀ t ∈ ts, t.1 ≠ b) ∨ ∃ t ∈ ts, t.1 = b ∧ laidT ts H b = some (.tbl t.2.1 t.2.2) := by
  unfold laidT
  cases e : ts.find? (fun t => t.1 == b) with
  | none => exact .inl ⟨rfl, fun t ht z => by have := List.find?_eq_none.mp e t ht; simp [z] at this⟩
  | some t =>
    have h1 := List.mem_of_find?_eq_some e
    have h2 := List.find?_some e
    exact .inr ⟨t, h1, by simpa using h2, rfl⟩
theorem law_call {P : Program} {w : World} {K : PySem.W.Frag} {mg mb : Str → Option Value} {CX : CXT} {k : Nat} {fa a : Addr} {fd : FuncData} {x : Str} {sp : Sp} {s₁ : Shared} {vs : List Value} {ns : List Int}
    (KX : K.In s₁.heap) (hns : s₁.heap.Ns mainGlobals mg) (hb : s₁.heap.Ns builtinsNs mb) (hbb : ∀ x : Str, x ≠ "__name__" → mb x = bootBuiltins x) (hlim : s₁.heap.NoLimit) (hbm : ∃ bm ob, mg "__builtins__" = some (.ref bm) ∧ bm ≠ builtinsNs ∧ s₁.heap.get? bm = some ob ∧ ob.cls = .type "module" ∧ ob.dict = some builtinsNs ∧ ob.data = .plain) (hg : s₁.gens = #[])
    (ha : s₁.heap.get? a = some { cls := .type "list", data := .seq vs.toArray }) (hi : IntsAre vs ns) (hl : ns.length ≤ sizeLine) (hr : Room k callerA)
    (F : ∀ base : Heap, K.In base → base.Ns mainGlobals mg → FnOk P w K mg base CX k fa fd [x] sp) (hbind : ∀ (s : Shared) (u : Value), BindsTo s fd ⟨[u], []⟩ [(x, u)])
    (ts : List (Addr × Str × Pos)) (hts : ∀ t ∈ ts, s₁.heap.get? t.1 = some { cls := .none, data := .fields #[] }) (hCT : ∀ t ∈ ts, isCodeTable s₁.heap t.1) (hKt : ∀ t ∈ ts, K.lookup t.1 = none) (htu : ∀ t ∈ ts, ∀ t' ∈ ts, t.1 = t'.1 → t = t')
    (hsp : ∀ H : Hp, (∀ t ∈ ts, H t.1 = some (.tbl t.2.1 t.2.2)) → SqL K H a (ns.map V.int) → sp [.ref a] H (fun v _ => v = .bl true) fun _ _ _ => False)
    (hCX : ∀ H e s', CX [] H s₁ (fun _ _ _ => False) e s' → False) :
    codeAny (model P w) callerA (.call (.ref fa) ⟨[.ref a], []⟩) (fun r s' => r = .ok (.ret (.bool true)) ∧ OldK s₁.heap s'.heap ∧ s'.os = s₁.os ∧ AllBare s'.gens) s₁ := by
  have rv := vals_ints hi
  have lenV := hi.length
  have core : ∀ H : Hp, (∀ b, H b = none ∨ (∃ o xs, H b = some (.frz o (.lst xs))) ∨ ∃ t ∈ ts, t.1 = b ∧ H b = some (.tbl t.2.1 t.2.2)) → (∀ t ∈ ts, H t.1 = some (.tbl t.2.1 t.2.2)) → SqL K H a (ns.map V.int) → HOk P w H s₁.heap → (∀ b, H b ≠ none → b = a ∨ ∃ t ∈ ts, t.1 = b) → (H a ≠ none → K.lookup a = none) →
      codeAny (model P w) callerA (.call (.ref fa) ⟨[.ref a], []⟩) (fun r s' => r = .ok (.ret (.bool true)) ∧ OldK s₁.heap s'.heap ∧ s'.os = s₁.os ∧ AllBare s'.gens) s₁ := by
    intro H hO hT hS hok hA hK
    have base_of : ∀ {b : Addr} {o : Obj}, s₁.heap.get? b = some o → H b = none → (hidT s₁.heap H).get? b = some o := fun e n => hidT_get e n
    have noA : ∀ {b : Addr} {o : Obj} {es : Array DictEntry} {ep : Nat}, s₁.heap.get? b = some o → o.data = .dict es ep → H b = none := fun {b o es ep} e d => by
      cases q : H b with
      | none => rfl
      | some u =>
        rcases hA b (by rw [q]; simp) with e' | ⟨t, ht, e'⟩
        case inr =>
          subst e'
          rw [hts t ht] at e; cases e
          have d' : Data.fields #[] = Data.dict es ep := d
          cases d'
        subst e'
        rw [ha] at e; cases e
        have d' : Data.seq vs.toArray _ = Data.dict es ep := d
        cases d'
    have nsK : ∀ {b : Addr} {m : Str → Option Value}, s₁.heap.Ns b m → (hidT s₁.heap H).Ns b m := fun {b m} ⟨o, es, ep, e, d, r⟩ => ⟨o, es, ep, base_of e (noA e d), d, r⟩
    have hKb : K.In (hidT s₁.heap H) := fun b o e => base_of (KX b o e) (by
      cases q : H b with
      | none => rfl
      | some u =>
        rcases hA b (by rw [q]; simp) with e' | ⟨t, ht, e'⟩
        · subst e'
          rw [hK (by rw [q]; simp)] at e; cases e
        · subst e'
          rw [hKt t ht] at e; cases e)
    have hM : Mod K mg (hidT s₁.heap H) := ⟨hKb, nsK hns, ⟨mb, nsK hb, hbb⟩, let ⟨mc, h1, h2⟩ := hlim; ⟨mc, nsK h1, h2⟩, let ⟨bm, ob, g1, g2, g3, g4, g5, g6⟩ := hbm; ⟨bm, ob, g1, g2, base_of g3 (by
      cases q : H bm with
      | none => rfl
      | some u =>
        rcases hA bm (by rw [q]; simp) with e' | ⟨t, ht, e'⟩
        · rw [e', ha] at g3; cases g3
          have z : Value.type "list" = Value.type "module" := g4
          injection z with z
          exact absurd z (by decide)
        · rw [← e', hts t ht] at g3; cases g3
          cases g4), g4, g5, g6⟩⟩
    have e0 : Env0 P w K mg (hidT s₁.heap H) callerA [] s₁ H := ⟨rfl, hM, fun b o e => of_hidT e, Nat.le_of_eq (hidT_size _ _), trivial, fun b hb => absurd (show b ∈ ([] : List Addr) from hb) (by simp), hok, .of_eq hg⟩
    refine codeAny_mono ((F _ hKb (nsK hns)).run callerA [] s₁ H ⟨[.ref a], []⟩ [.ref a] [.ref a] _ _ hr e0 (hbind s₁ (.ref a)) (.cons rfl .nil) (hsp H hT hS)) fun r s' h => ?_
    cases r with
    | error e => exact (hCX H e s' h).elim
    | ok fl =>
      cases fl with
      | next => exact False.elim h
      | brk => exact False.elim h
      | cont => exact False.elim h
      | ret u =>
        obtain ⟨v, H', os, bare, un, hok', r', q⟩ := h
        have q' : v = .bl true := q
        subst q'
        obtain rfl : u = Value.bool true := r'
        refine ⟨rfl, ⟨fun b o e => ?_, fun b o e => un.there b o e (by simp)⟩, os, bare⟩
        cases q : H b with
        | none => exact .inl <| un.keep b o e q (by intro z; exact absurd (show b ∈ ([] : List Addr) from z) (by simp)) (by simp)
        | some u =>
          rcases hO b with z | ⟨ob, xs, z⟩ | ⟨t, ht, rfl, z⟩
          case inr.inr =>
            have z2 := un.tbls _ _ _ z
            obtain ⟨ps, e2, _⟩ := hok' _ _ z2
            rw [hts t ht] at e; cases e
            exact .inr (.inl ⟨hCT t ht, rfl, #[], ps, rfl, by rw [e2]; simp⟩)
          · rw [q] at z; cases z
          · have z2 := un.frzs b ob _ z
            obtain ⟨e1, _⟩ := hok b _ z
            obtain ⟨e2, _⟩ := hok' b _ z2
            rw [e] at e1; cases e1
            exact .inl e2
  have core1 : ∀ H : Hp, Only H → SqL K H a (ns.map V.int) → HOk P w H s₁.heap → (∀ b, H b ≠ none → b = a) → (H a ≠ none → K.lookup a = none) →
      codeAny (model P w) callerA (.call (.ref fa) ⟨[.ref a], []⟩) (fun r s' => r = .ok (.ret (.bool true)) ∧ OldK s₁.heap s'.heap ∧ s'.os = s₁.os ∧ AllBare s'.gens) s₁ := by
    intro H hO hS hok hA hK
    have na : ∀ t ∈ ts, t.1 ≠ a := fun t ht z => by
      have z2 := hts t ht
      rw [z, ha] at z2
      cases z2
    have cs : ∀ b, (laidT ts H b = H b ∧ ∀ t ∈ ts, t.1 ≠ b) ∨ ∃ t ∈ ts, t.1 = b ∧ laidT ts H b = some (.tbl t.2.1 t.2.2) := laidT_or ts H
    have la : laidT ts H a = H a := by
      rcases cs a with z | ⟨t, ht, z, _⟩
      · exact z.1
      · exact absurd z (na t ht)
    have noown : ∀ b x, H b ≠ some (.own x) := fun b x z => by rcases hO b with y | ⟨_, _, y⟩ <;> (rw [y] at z; cases z)
    have notup : ∀ b x, H b ≠ some (.tup x) := fun b x z => by rcases hO b with y | ⟨_, _, y⟩ <;> (rw [y] at z; cases z)
    refine core (laidT ts H) (fun b => ?_) (fun t ht => ?_) ?_ (fun b u z => ?_) (fun b z => ?_) (fun z => hK (by rw [← la]; exact z))
    · rcases cs b with z | ⟨t, ht, z1, z2⟩
      · rcases hO b with y | y
        · exact .inl (z.1.trans y)
        · obtain ⟨o, xs, y⟩ := y
          exact .inr (.inl ⟨o, xs, z.1.trans y⟩)
      · exact .inr (.inr ⟨t, ht, z1, z2⟩)
    · rcases cs t.1 with z | ⟨t', ht', z1, z2⟩
      · exact absurd rfl (z.2 t ht)
      · have := htu t' ht' t ht z1
        subst this
        exact z2
    · rcases hS with (z | ⟨o, z⟩) | z
      · exact .inl (.inl (by rw [la]; exact z))
      · exact .inl (.inr ⟨o, by rw [la]; exact z⟩)
      · exact .inr z
    · rcases cs b with y | ⟨t, ht, z1, z2⟩
      · rw [y.1] at z
        exact (hok b u z).stay (fun _ _ _ q => q) (fun c q => absurd q (noown c b)) fun c xs q => absurd q (notup c xs)
      · rw [z2] at z
        cases z
        subst z1
        exact ⟨#[], hts t ht, .inl rfl⟩
    · rcases cs b with y | ⟨t, ht, z1, z2⟩
      · exact .inl (hA b (by rw [← y.1]; exact z))
      · exact .inr ⟨t, ht, z1⟩
  cases hk : K.lookup a with
  | some o =>
    have e := KX a o hk
    rw [ha] at e
    cases e
    refine core1 (fun _ => none) (fun _ => .inl rfl) (.inr ⟨_, vs.toArray, _, hk, rfl, rfl, rfl, by rw [List.size_toArray, lenV]; exact hl, by simpa using rv⟩) (fun b u z => by have z' : (none : Option HO) = some u := z; cases z') (fun b z => absurd rfl z) fun z => absurd rfl z
  | none =>
    refine core1 (fun b => if b = a then some (.frz { cls := .type "list", data := .seq vs.toArray } (.lst (ns.map V.int))) else none) (fun b => ?_) (.inl (.inr ⟨{ cls := .type "list", data := .seq vs.toArray }, if_pos rfl⟩)) (fun b u z => ?_) (fun b z => ?_) fun _ => hk
    · by_cases hb : b = a
      · exact .inr ⟨_, _, if_pos hb⟩
      · exact .inl (if_neg hb)
    · by_cases hb : b = a
      · have z' := (if_pos hb).symm.trans z
        cases z'
        subst hb
        exact ⟨ha, by rw [List.length_map]; exact hl, vs, _, rv, ha⟩
      · have z' := (if_neg hb).symm.trans z
        cases z'
    · by_cases hb : b = a
      · exact hb
      · exact absurd (if_neg hb) z
end L2
namespace L2
open PySem PySem.Spec PyProof.Rows
abbrev KOf {K : PySem.W.Frag} {h : Heap} (_ : K.In h) : PySem.W.Frag := K
theorem walk_of {l : PySem.W.OpenLaw} {n k : Nat} {q : Program} {loose : List Str} {XP : (Str → Option Value) → Heap → Prop} {YP : World → Heap → Prop} {d : DefRec} {K : Params → PySem.W.Frag} {CX : World → CXT} {sp : World → Sp} {x : Str}
    (hn : l.most = some n) (hn2 : n ≤ sizeLine) (hdf : d.params.defaults = []) (hr : Room k callerA)
    (hY : ∀ (w : World) (h : Heap), YP w h → (K w.params).In h)
    (F : ∀ (w : World) (mg : Str → Option Value) (fa : Addr) (h : Heap), (K w.params).In h → h.Ns mainGlobals mg → mg d.name = some (.ref fa) →
      ∃ fd : FuncData, (∀ (s : Shared) (u : Value), BindsTo s fd ⟨[u], []⟩ [(x, u)]) ∧
        ∀ base : Heap, (K w.params).In base → base.Ns mainGlobals mg → FnOk l.prog w (K w.params) mg base (CX w) k fa fd [x] (sp w))
    (ts : List (Addr × Str × Pos)) (hts : ∀ (w : World) (h : Heap), YP w h → (∀ t ∈ ts, h.get? t.1 = some { cls := .none, data := .fields #[] }) ∧ (∀ t ∈ ts, isCodeTable h t.1) ∧ ∀ t ∈ ts, (K w.params).lookup t.1 = none) (htu : ∀ t ∈ ts, ∀ t' ∈ ts, t.1 = t'.1 → t = t')
    (hsp : ∀ (w : World) (H : Hp) (a : Addr) (ns : List Int), ns.length ≤ n → (∀ t ∈ ts, H t.1 = some (.tbl t.2.1 t.2.2)) → SqL (K w.params) H a (ns.map V.int) → sp w [.ref a] H (fun v _ => v = .bl true) fun _ _ _ => False)
    (hCX : ∀ (w : World) (H : Hp) (s : Shared) (e : Value) (s' : Shared), CX w [] H s (fun _ _ _ => False) e s' → False) :
    PySem.W.WalkO q loose XP YP l.row.toRowW d [] (fun f vs => PySem.call f vs) := by
  refine Att.attach_call hn hdf fun w s₀ s₁ mg mb fa o pm cd doc a vs ns G Y ho hd hcd hmg hobj hints hlen hg => ?_
  have KX := hY w _ Y
  obtain ⟨fd, hb, hF⟩ := F w mg fa _ KX G.T.g hmg
  exact law_call KX G.T.g G.T.b G.T.builtins G.T.nolimit G.T.bmain hg hobj hints (Nat.le_trans hlen hn2) hr hF hb ts (hts w _ Y).1 (hts w _ Y).2.1 (hts w _ Y).2.2 htu (fun H hO hS => hsp w H a ns hlen hO hS) fun H e s' => hCX w H s₁ e s'
theorem walk_ofK {l : PySem.W.OpenLaw} {n k : Nat} {q : Program} {loose : List Str} {XP : (Str → Option Value) → Heap → Prop} {YP : World → Heap → Prop} {d : DefRec} {K : Params → PySem.W.Frag} {CX : CXT} {sp : PySem.W.Frag → Sp} {x : Str}
    (hn : l.most = some n) (hn2 : n ≤ sizeLine) (hdf : d.params.defaults = []) (hr : Room k callerA)
    (hY : ∀ (w : World) (h : Heap), YP w h → (K w.params).In h)
    (F : ∀ (w : World) (mg : Str → Option Value) (fa : Addr) (h : Heap), (K w.params).In h → h.Ns mainGlobals mg → mg d.name = some (.ref fa) →
      ∃ fd : FuncData, (∀ (s : Shared) (u : Value), BindsTo s fd ⟨[u], []⟩ [(x, u)]) ∧
        ∀ base : Heap, (K w.params).In base → base.Ns mainGlobals mg → FnOk l.prog w (K w.params) mg base CX k fa fd [x] (sp (K w.params)))
    (ts : List (Addr × Str × Pos)) (hts : ∀ (w : World) (h : Heap), YP w h → (∀ t ∈ ts, h.get? t.1 = some { cls := .none, data := .fields #[] }) ∧ (∀ t ∈ ts, isCodeTable h t.1) ∧ ∀ t ∈ ts, (K w.params).lookup t.1 = none) (htu : ∀ t ∈ ts, ∀ t' ∈ ts, t.1 = t'.1 → t = t')
    (hsp : ∀ (K : PySem.W.Frag) (H : Hp) (a : Addr) (ns : List Int), ns.length ≤ n → (∀ t ∈ ts, H t.1 = some (.tbl t.2.1 t.2.2)) → SqL K H a (ns.map V.int) → sp K [.ref a] H (fun v _ => v = .bl true) fun _ _ _ => False)
    (hCX : ∀ (H : Hp) (s : Shared) (e : Value) (s' : Shared), CX [] H s (fun _ _ _ => False) e s' → False) :
    PySem.W.WalkO q loose XP YP l.row.toRowW d [] (fun f vs => PySem.call f vs) :=
  walk_of (K := K) (CX := fun _ => CX) (sp := fun w => sp (K w.params)) hn hn2 hdf hr hY F ts hts htu (fun w H a ns h1 h2 h3 => hsp (K w.params) H a ns h1 h2 h3) fun _ H s e s' => hCX H s e s'
end L2
/- THE LAST THEOREM (shape; LID, My.* are yours):
   My.Adr: a structure of the addresses that your layer names (classes, functions); My.Txt K t: a structure (Prop) of the equations over K;
   My.txt_mk : {K} {implicit addresses ..} (e1 : nsIn K mainGlobals "law" = some (some (.ref f))) (e2 : K.lookup f = some ⟨oc, od, .func (fnOf "law" "law" params body scope dV kV doc pm an cdv ct), sl⟩) (e3 : codeIn K cdv "law" = true) .. : ∃ t, My.Txt K t
set_option maxRecDepth 100000 in
set_option maxHeartbeats 0 in
(the tactic k_is has no namespace: write k_is) -/
namespace L2
open PySem PySem.Spec PyProof.Rows
def defArgs (s : Stmt) : Arguments := match s with
  | .FunctionDef _ a _ _ _ _ _ _ _ _ => a
  | _ => { posonlyargs := [], args := [], vararg := none, kwonlyargs := [], kw_defaults := [], kwarg := none, defaults := [] }
def defBody (s : Stmt) : List Stmt := match s with
  | .FunctionDef _ _ b _ _ _ _ _ _ _ => b
  | _ => []
def defScope (s : Stmt) : Scope := match s with
  | .FunctionDef _ _ _ _ _ _ sc _ _ _ => sc
  | _ => { kind := .function, names := [], isGenerator := false, isCoroutine := false }
abbrev CX0 : CXT := fun _ _ _ _ _ _ => False
abbrev E0 : XK := fun _ _ _ => False
theorem pass0 {X : Cx} : Passes CX0 X E0 := fun _ _ _ _ _ _ _ h => h.elim
structure Fun (K : PySem.W.Frag) (x qual : Str) (st : Stmt) (f : Addr) (fd : FuncData) : Prop where
  ex : ∃ (oc : Value) (od : Option Addr) (kV doc pm : Value) (an : Option Addr) (cdv ct : Value) (osl : Array (Option Value)),
    fd = PySem.W.fnOf x qual (defArgs st) (defBody st) (defScope st) .none kV doc pm an cdv ct ∧ K.lookup f = some ⟨oc, od, .func fd, osl⟩ ∧ PySem.W.codeIn K cdv qual = true
  kp : PySem.W.keepIn K (.ref f) = true
section
variable {P : Program} {w : World} {K : PySem.W.Frag} {mg : Str → Option Value} {base : Heap}
theorem Fun.ok {x qual : Str} {st : Stmt} {f : Addr} {fd : FuncData} {N ps : List Str} {k : Nat} {sp : Sp} (F : Fun K x qual st f fd) (S : FnScope N ps (defScope st)) (len : ∀ vs H Q E, sp vs H Q E → vs.length = ps.length)
    (hbody : ∀ (cdv : Value) (A : Around) (outer : List Env) (s : Shared) (H : Hp) (vs : List V) (Q : VK) (E : XK), Room k (A.deeper (envOfC qual (defScope st) s.heap.objs.size f cdv)) → sp vs H Q E →
      ∃ t, PSs (cxOf CX0 P w K mg base N qual (defScope st) f cdv A outer s H E).nox (defBody st) t ∧ t { nx := fun _ H' => Q .non H', rt := Q } (start N vs) H) : FnOk P w K mg base CX0 (k + 1) f fd ps sp := by
  obtain ⟨oc, od, kV, doc, pm, an, cdv, ct, osl, rfl, lk, hcd⟩ := F.ex
  refine fn_of lk hcd S len fun A outer s H vs Q E hr hsp => ?_
  obtain ⟨t, h, q⟩ := hbody cdv A outer s H vs Q E hr hsp
  exact ⟨t, h.nox, q⟩
theorem Fun.binds {x qual : Str} {st : Stmt} {f : Addr} {fd : FuncData} {ps : List Str} (F : Fun K x qual st f fd)
    (h : ∀ (kV doc pm : Value) (an : Option Addr) (cdv ct : Value) (us : List Value), us.length = ps.length → bindArgs (PySem.W.fnOf x qual (defArgs st) (defBody st) (defScope st) .none kV doc pm an cdv ct) ⟨us, []⟩ = pure (ps.zip us)) : Binds K fd ps [] := by
  obtain ⟨oc, od, kV, doc, pm, an, cdv, ct, osl, rfl, lk, hcd⟩ := F.ex
  exact .all (h kV doc pm an cdv ct)
end
theorem small1000 {n : Nat} (h : n ≤ 1000) : n < sizeLine := Nat.lt_of_le_of_lt h (by decide)
section
variable {X : Cx}
end
theorem iteF {A B : Prop} (h : B) : if false = true then A else B := by
  rw [if_neg Bool.false_ne_true]
  exact h
theorem iteT {A B : Prop} (h : A) : if true = true then A else B := by
  rw [if_pos rfl]
  exact h
def Same (H H' : Hp) : Prop := ∀ b o, H b = some o → H' b = some o
theorem Same.refl (H : Hp) : Same H H := fun _ _ h => h
theorem Same.trans {H H1 H2 : Hp} (a : Same H H1) (b : Same H1 H2) : Same H H2 := fun c o h => b c o (a c o h)
theorem Same.free {H H' : Hp} (e : Same H H') {l : Addr} (h : H' l = Option.none) : H l = Option.none := by
  cases q : H l with
  | none => rfl
  | some o =>
    rw [e l o q] at h
    cases h
theorem Same.seq {K : PySem.W.Frag} {H H' : Hp} {a : Addr} {xs : List V} (e : Same H H') (h : SqL K H a xs) : SqL K H' a xs := by
  rcases h with (h | ⟨o, h⟩) | h
  · exact .inl (.inl (e _ _ h))
  · exact .inl (.inr ⟨o, e _ _ h⟩)
  · exact .inr h
end L2
namespace My
open PySem PySem.Spec PyProof.Rows L2
abbrev St := L2.St
theorem same_new {H : Hp} {p : Addr} (h : H p = none) (o : HO) : Same H (upd H p o) := fun b u q => by rw [upd_ne (ne_of_none q h)]; exact q
structure Df (K : PySem.W.Frag) (mg : Str → Option Value) (x : Str) (st : Stmt) (ps : List Str) : Prop where
  ex : ∃ (f : Addr) (fd : FuncData), Fun K x x st f fd ∧ Binds K fd ps [] ∧ mg x = some (.ref f)
structure Has (P : Program) (w : World) (K : PySem.W.Frag) (mg : Str → Option Value) (base : Heap) (n : Nat) (x : Str) (ps : List Str) (sp : Sp) : Prop where
  ex : ∃ (f : Addr) (fd : FuncData), FnOk P w K mg base CX0 n f fd ps sp ∧ Binds K fd ps [] ∧ PySem.W.keepIn K (.ref f) = true ∧ mg x = some (.ref f)
section
variable {P : Program} {w : World} {K : PySem.W.Frag} {mg : Str → Option Value} {base : Heap} {x : Str} {ps N : List Str} {sp : Sp} {st : Stmt} {k n : Nat}
theorem Has.mono (h : Has P w K mg base k x ps sp) (l : k ≤ n) : Has P w K mg base n x ps sp := by
  obtain ⟨f, fd, F, b, kp, m⟩ := h.ex
  exact ⟨f, fd, F.mono l, b, kp, m⟩
theorem Df.has (D : Df K mg x st ps) (S : FnScope N ps (defScope st)) (len : ∀ vs H Q E, sp vs H Q E → vs.length = ps.length)
    (hbody : ∀ (f : Addr) (cdv : Value) (A : Around) (outer : List Env) (s : Shared) (H : Hp) (vs : List V) (Q : VK) (E : XK), Room k (A.deeper (envOfC x (defScope st) s.heap.objs.size f cdv)) → sp vs H Q E →
      ∃ t, PSs (cxOf CX0 P w K mg base N x (defScope st) f cdv A outer s H E).nox (defBody st) t ∧ t { nx := fun _ H' => Q .non H', rt := Q } (start N vs) H) : Has P w K mg base (k + 1) x ps sp := by
  obtain ⟨f, fd, F, b, m⟩ := D.ex
  exact ⟨f, fd, F.ok S len (hbody f), b, F.kp, m⟩
end
section
variable {X : Cx} {x : Str} {ps : List Str} {sp : Sp} {n : Nat} {p pos : Pos} {e : Expr} {es : List Expr} {t : TA}
theorem pe_callH (h : Has X.prog X.w X.K X.mg X.base n x ps sp) (hr : Room n X.A) (ha : PA X (e :: es) t) (hg : Gl X x := by rfl) (hdb : (x == ("__debug__" : Str)) = false := by decide)
    (he : starEach (e :: es) X.env = (false, eval e X.env) :: starEach es X.env := by rfl) (hpl : (backTo pos (starEach es X.env)).any (·.1) = false := by rfl) :
    PE X (.Call (.Name x p) (e :: es) [] pos) (tCall sp [] E0 t) := by
  obtain ⟨f, fd, F, b, kp, m⟩ := h.ex
  exact pe_call F hr hg m kp b .nil pass0 ha hdb he hpl
end
mutual
inductive RdV (K : PySem.W.Frag) (H : Hp) : V → PyData → Prop
  | non : RdV K H .non .none
  | bl (b : Bool) : RdV K H (.bl b) (.bool b)
  | int (i : Int) : RdV K H (.int i) (.int i)
  | str (x : Str) : RdV K H (.str x) (.str x)
  | lst {a : Addr} {xs : List V} {ds : List PyData} : SqL K H a xs → RdVs K H xs ds → RdV K H (.ref a) (.list ds)
  | tup {a : Addr} {xs : List V} {ds : List PyData} : SqT K H a xs → RdVs K H xs ds → RdV K H (.ref a) (.tuple ds)
inductive RdVs (K : PySem.W.Frag) (H : Hp) : List V → List PyData → Prop
  | nil : RdVs K H [] []
  | cons {v : V} {d : PyData} {vs : List V} {ds : List PyData} : RdV K H v d → RdVs K H vs ds → RdVs K H (v :: vs) (d :: ds)
end
section
variable {X : Cx} {pins : List (Addr × Obj)} {σ : St} {H : Hp} {s : Shared}
mutual
theorem RdV.reads (I : Inv X pins σ H s) : ∀ {v : V} {d : PyData}, RdV X.K H v d → ∀ {u : Value}, RelV v u → ∃ as, Reads s.heap u d as
  | _, _, .non, _, r => by cases r; exact ⟨_, .none⟩
  | _, _, .bl b, _, r => by cases r; exact ⟨_, .bool b⟩
  | _, _, .int i, _, r => by obtain ⟨t, rfl⟩ := r; exact ⟨_, .int i t⟩
  | _, _, .str x, _, r => by obtain ⟨t, rfl⟩ := r; exact ⟨_, .str x t⟩
  | _, _, .lst h q, _, r => by
    cases r
    obtain ⟨its, rv, ⟨o, n, e, c, _, d⟩, _⟩ := I.list h
    obtain ⟨as, z⟩ := RdVs.reads I q rv
    exact ⟨_, .list e c d (by simpa using z)⟩
  | _, _, .tup h q, _, r => by
    cases r
    obtain ⟨its, rv, ⟨o, e, c, n, d⟩, _⟩ := I.tuple h
    obtain ⟨as, z⟩ := RdVs.reads I q rv
    exact ⟨_, .tuple e c d (by simpa using z)⟩
theorem RdVs.reads (I : Inv X pins σ H s) : ∀ {vs : List V} {ds : List PyData}, RdVs X.K H vs ds → ∀ {us : List Value}, Vals vs us → ∃ as, ReadsAll s.heap us ds as
  | _, _, .nil, _, r => by cases r; exact ⟨_, .nil⟩
  | _, _, .cons h q, _, r => by
    cases r with
    | cons r1 r2 =>
      obtain ⟨as, z⟩ := RdV.reads I h r1
      obtain ⟨bs, y⟩ := RdVs.reads I q r2
      exact ⟨_, .cons z y⟩
end
end
section
variable {X : Cx}
def rEqD (K : PySem.W.Frag) : R2 := fun x y H Q => ∃ da db, RdV K H x da ∧ RdV K H y db ∧ SeqAt.shaped da = true ∧ SeqAt.shaped db = true ∧ Q (.bl (PyData.eqv da db)) H
def rNeD (K : PySem.W.Frag) : R2 := fun x y H Q => ∃ da db, RdV K H x da ∧ RdV K H y db ∧ SeqAt.shaped da = true ∧ SeqAt.shaped db = true ∧ Q (.bl (!PyData.eqv da db)) H
theorem op_eqD (hu : X.A.units + 64 < cLine) : OpR X (compareOp .Eq) (rEqD X.K) := by
  intro pins s σ H x y v u Q I rx ry h
  obtain ⟨da, db, ha, hb, sa, sb, q⟩ := h
  obtain ⟨as, za⟩ := ha.reads I rx
  obtain ⟨bs, zb⟩ := hb.reads I ry
  exact SeqAt.compareEq_shaped za zb sa sb hu ⟨.bl _, H, I, rfl, q⟩
theorem op_neD (hu : X.A.units + 64 < cLine) : OpR X (compareOp .NotEq) (rNeD X.K) := by
  intro pins s σ H x y v u Q I rx ry h
  obtain ⟨da, db, ha, hb, sa, sb, q⟩ := h
  obtain ⟨as, za⟩ := ha.reads I rx
  obtain ⟨bs, zb⟩ := hb.reads I ry
  exact SeqAt.compareNe_shaped za zb sa sb hu ⟨.bl _, H, I, rfl, q⟩
end
def TyN (H : Hp) (x : V) (T : String) : Prop := match x with
  | .non => T = "NoneType"
  | .bl _ => T = "bool"
  | .int _ => T = "int"
  | .str _ => T = "str"
  | .ref a => (T = "list" ∧ ∃ xs, H a = some (.lst xs)) ∨ (T = "tuple" ∧ ∃ xs, H a = some (.tup xs)) ∨ (T = "dict" ∧ ∃ kvs, H a = some (.dK kvs))
  | _ => False
def isT (c T : String) : Bool := T == c || (T == "bool" && c == "int")
section
variable {K : PySem.W.Frag}
theorem TyN.cases {H : Hp} {x : V} {T : String} (h : TyN H x T) : T = "NoneType" ∨ T = "bool" ∨ T = "int" ∨ T = "str" ∨ T = "list" ∨ T = "tuple" ∨ T = "dict" := by
  cases x with
  | non => exact .inl h
  | bl _ => exact .inr (.inl h)
  | int _ => exact .inr (.inr (.inl h))
  | str _ => exact .inr (.inr (.inr (.inl h)))
  | ref a =>
    rcases h with ⟨h, _⟩ | ⟨h, _⟩ | ⟨h, _⟩
    · exact .inr (.inr (.inr (.inr (.inl h))))
    · exact .inr (.inr (.inr (.inr (.inr (.inl h)))))
    · exact .inr (.inr (.inr (.inr (.inr (.inr h)))))
  | byt _ => exact False.elim h
  | flt _ => exact False.elim h
  | ty _ => exact False.elim h
theorem TyN.of {H : Hp} {x : V} {T : String} (h : TyN H x T) : TyOf K H x (.type T) := by
  cases x with
  | non => cases h; exact .non
  | bl b => cases h; exact .bl b
  | int i => cases h; exact .int i
  | str i => cases h; exact .str i
  | ref a =>
    rcases h with ⟨rfl, xs, h⟩ | ⟨rfl, xs, h⟩ | ⟨rfl, xs, h⟩
    · exact .lst h
    · exact .tup h
    · exact .dK h
  | byt _ => exact False.elim h
  | flt _ => exact False.elim h
  | ty _ => exact False.elim h
end
section
variable {X : Cx}
end
theorem big {X : Cx} {pins : List (Addr × Obj)} {σ : St} {H : Hp} {s : Shared} (I : Inv X pins σ H s) : sysModules < s.heap.objs.size := by
  have h : mainGlobals < s.heap.objs.size := (I.mod.glob.keeps I.bk).lt
  exact Nat.lt_trans (by decide) h
theorem dk_empty {P : Program} {w : World} {H : Hp} (h : Heap) (hb : sysModules < h.objs.size) : ObjOk P w H (h.push { cls := .type "dict", data := .dict #[] }) h.objs.size (.dK []) :=
  ⟨Nat.zero_le _, beq_eq_false_iff_ne.mpr (Ne.symm (Nat.ne_of_lt hb)), [], .nil, Heap.DictOf.new h⟩
def tDNewK : TE := fun _ H Q => ∀ p, H p = none → Q (.ref p) (upd H p (.dK []))
theorem pe_dnewK {X : Cx} {pos : Pos} : PE X (.Dict [] [] pos) tDNewK := fun pins s σ H Q I h =>
  wpAny_Dict_empty ⟨.ref s.heap.objs.size, _, I.laid (a := s.heap.objs.size) (o := .dK []) (t' := s.toks) (fun _ _ q => Heap.get?_push_of_some _ q) (Nat.le_refl _) (dk_empty s.heap (big I)), rfl, h _ (I.hok.fresh (Nat.le_refl _))⟩
theorem sz {n : Nat} (h : n ≤ 1000 := by decide) : n ≤ sizeLine := Nat.le_of_lt (small1000 h)
end My
namespace My
open PySem PySem.Spec PyProof.Rows L2
section
variable {X : Cx} {a b c d : Expr} {ta tb tc td : TE} {pos : Pos}
end
structure Blt (mg : Str → Option Value) : Prop where
  len_ : mg "len" = none
  range_ : mg "range" = none
  abs_ : mg "abs" = none
  isinstance_ : mg "isinstance" = none
  int_ : mg "int" = none
  bool_ : mg "bool" = none
  tuple_ : mg "tuple" = none
  max_ : mg "max" = none
  min_ : mg "min" = none
end My
namespace My
open PySem PySem.Spec PyProof.Rows L2
abbrev cx (P : Program) (w : World) (K : PySem.W.Frag) (mg : Str → Option Value) (base : Heap) (N : List Str) (x : Str) (st : Stmt) (f : Addr) (cdv : Value) (A : Around) (outer : List Env) (s : Shared) (H : Hp) (E : XK) : Cx :=
  (cxOf CX0 P w K mg base N x (defScope st) f cdv A outer s H E).nox
end My
namespace My
open PySem PySem.Spec PyProof.Rows L2
def clGo (env : Env) : List (Str × NameKind) → List (Str × Addr) → List (Str × Addr)
  | [], cs => cs
  | (n, k) :: r, cs => if (k == NameKind.free) = true then clGo env r ((n, (env.cells.lookup n).getD 0) :: cs) else clGo env r cs
theorem closure_go {env : Env} : ∀ (l : List (Str × NameKind)) (cs : List (Str × Addr)), (∀ x ∈ l, x.2 = .free → ∃ c, env.cells.lookup x.1 = some c) →
    (forIn l cs fun (x : Str × NameKind) (r : List (Str × Addr)) => (if (x.2 == NameKind.free) = true then (do let c ← cellOf env x.1; pure (ForInStep.yield ((x.1, c) :: r))) else pure (ForInStep.yield r) : Sem (ForInStep (List (Str × Addr))))) = pure (clGo env l cs)
  | [], _, _ => rfl
  | (n, k) :: r, cs, h => by
    rw [List.forIn_cons]
    by_cases hk : (k == NameKind.free) = true
    · obtain ⟨c, hc⟩ := h (n, k) List.mem_cons_self (beq_iff_eq.mp hk)
      have hc' : cellOf env n = pure c := by
        unfold cellOf
        rw [show env.cells.lookup n = some c from hc]
      show (do let x ← (if (k == NameKind.free) = true then (do let c ← cellOf env n; pure (ForInStep.yield ((n, c) :: cs))) else pure (ForInStep.yield cs) : Sem (ForInStep (List (Str × Addr)))); _) = _
      rw [if_pos hk, hc']
      have ih := closure_go r ((n, c) :: cs) fun x hx => h x (List.mem_cons_of_mem _ hx)
      rw [clGo, if_pos hk, show env.cells.lookup n = some c from hc]
      exact ih
    · show (do let x ← (if (k == NameKind.free) = true then (do let c ← cellOf env n; pure (ForInStep.yield ((n, c) :: cs))) else pure (ForInStep.yield cs) : Sem (ForInStep (List (Str × Addr)))); _) = _
      rw [if_neg hk]
      have ih := closure_go r cs fun x hx => h x (List.mem_cons_of_mem _ hx)
      rw [clGo, if_neg hk]
      exact ih
theorem closure_eq {env : Env} {scope : Scope} (h : ∀ x ∈ scope.names, x.2 = .free → ∃ c, env.cells.lookup x.1 = some c) : closureFor scope env = pure (clGo env scope.names []) := by
  have z := closure_go (env := env) scope.names [] h
  show (forIn scope.names [] fun (x : Str × NameKind) (r : List (Str × Addr)) => (if (x.2 == NameKind.free) = true then (do let c ← cellOf env x.1; pure (ForInStep.yield ((x.1, c) :: r))) else pure (ForInStep.yield r) : Sem (ForInStep (List (Str × Addr))))) >>= (fun cs => pure cs) = _
  rw [z]
  rfl
theorem clGo_sub {env : Env} : ∀ (l : List (Str × NameKind)) (cs : List (Str × Addr)), (∀ x ∈ l, x.2 = .free → ∃ c, env.cells.lookup x.1 = some c) → (∀ x c, cs.lookup x = some c → env.cells.lookup x = some c) →
    ∀ x c, (clGo env l cs).lookup x = some c → env.cells.lookup x = some c
  | [], _, _, hc, x, c, e => hc x c e
  | (n, k) :: r, cs, h, hc, x, c, e => by
    rw [clGo] at e
    by_cases hk : (k == NameKind.free) = true
    · rw [if_pos hk] at e
      obtain ⟨d, hd⟩ := h (n, k) List.mem_cons_self (beq_iff_eq.mp hk)
      refine clGo_sub r _ (fun x hx => h x (List.mem_cons_of_mem _ hx)) (fun y c' e' => ?_) x c e
      rw [List.lookup_cons] at e'
      cases hy : y == n with
      | true =>
        rw [hy] at e'
        have : y = n := beq_iff_eq.mp hy
        subst this
        rw [show env.cells.lookup y = some d from hd] at e' ⊢
        exact e'
      | false =>
        rw [hy] at e'
        exact hc y c' e'
    · rw [if_neg hk] at e
      exact clGo_sub r cs (fun x hx => h x (List.mem_cons_of_mem _ hx)) hc x c e
theorem clGo_has {env : Env} : ∀ (l : List (Str × NameKind)) (cs : List (Str × Addr)) (x : Str), ((x, NameKind.free) ∈ l ∨ ∃ c, cs.lookup x = some c) → ∃ c, (clGo env l cs).lookup x = some c
  | [], _, x, h => by
    rcases h with h | h
    · exact absurd h (by simp)
    · exact h
  | (n, k) :: r, cs, x, h => by
    rw [clGo]
    by_cases hk : (k == NameKind.free) = true
    · rw [if_pos hk]
      refine clGo_has r _ x ?_
      by_cases e : x = n
      · subst e
        exact .inr ⟨_, by rw [List.lookup_cons, beq_self_eq_true]⟩
      · rcases h with h | ⟨c, h⟩
        · rcases List.mem_cons.mp h with h | h
          · exact absurd (congrArg Prod.fst h) e
          · exact .inl h
        · exact .inr ⟨c, by rw [List.lookup_cons, beq_eq_false_iff_ne.mpr e]; exact h⟩
    · rw [if_neg hk]
      refine clGo_has r cs x ?_
      rcases h with h | h
      · rcases List.mem_cons.mp h with h | h
        · have : k = .free := (congrArg Prod.snd h).symm
          subst this
          exact absurd rfl hk
        · exact .inl h
      · exact .inr h
abbrev blk (X : Cx) (N' : List Str) (scope : Scope) (cl : List (Str × Addr)) (C : Addr) (s3 : Shared) (H3 : Hp) (fp : List Addr) : Cx :=
  { X with N := N', s₀ := s3, H₀ := H3, env := compEnvC scope cl C X.env, outer := X.stack, ex := fp, fn := fun _ => false, xe := fun _ _ => False }
def capB (N : List Str) (kinds sn : List (Str × NameKind)) : List Str → List Nat → Bool
  | [], [] => true
  | x :: V, j :: ix => (N[j]? == some x) && ((kinds.lookup x == some NameKind.cell) && ((sn.lookup x == some NameKind.free) && capB N kinds sn V ix))
  | _, _ => false
def capσ (t : Nat) (ix : List Nat) (σ : St) : St := List.replicate t none ++ ix.map fun j => (σ[j]?).getD none
theorem capB_get {N : List Str} {kinds sn : List (Str × NameKind)} : ∀ {V : List Str} {ix : List Nat}, capB N kinds sn V ix = true → ix.length = V.length ∧ ∀ (k : Nat) (x : Str), V[k]? = some x → ∃ j, ix[k]? = some j ∧ N[j]? = some x ∧ kinds.lookup x = some .cell ∧ sn.lookup x = some .free
  | [], [], _ => ⟨rfl, fun k x h => by simp at h⟩
  | x :: V, j :: ix, h => by
    rw [capB, Bool.and_eq_true, Bool.and_eq_true, Bool.and_eq_true] at h
    obtain ⟨h1, h2, h3, h4⟩ := h
    obtain ⟨l, r⟩ := capB_get h4
    refine ⟨by simp [l], fun k y hy => ?_⟩
    cases k with
    | zero =>
      simp at hy
      subst hy
      exact ⟨j, rfl, beq_iff_eq.mp h1, beq_iff_eq.mp h2, beq_iff_eq.mp h3⟩
    | succ k => exact r k y (by simpa using hy)
  | [], _ :: _, h => by simp [capB] at h
  | _ :: _, [], h => by simp [capB] at h
theorem relabel_cell {env : Env} (hf : env.scope.kind = .function) : ∀ {names : List (Str × NameKind)} {x : Str}, names.lookup x = some .free → env.kindOf x = some .cell →
    (names.map fun (n, k) => if (k == NameKind.free && env.scope.kind == .function && env.kindOf n == some .cell) then (n, NameKind.cell) else (n, k)).lookup x = some .cell
  | [], _, h, _ => by simp at h
  | (n, k) :: r, x, h, hc => by
    have ih := @relabel_cell env hf r x
    show List.lookup x ((if (k == NameKind.free && env.scope.kind == .function && env.kindOf n == some .cell) = true then (n, NameKind.cell) else (n, k)) :: _) = _
    cases hx : x == n with
    | true =>
      have e : x = n := beq_iff_eq.mp hx
      subst e
      simp only [List.lookup_cons, hx] at h
      cases h
      rw [if_pos (by rw [hf, hc]; rfl)]
      simp [List.lookup_cons]
    | false =>
      simp only [List.lookup_cons, hx] at h
      by_cases hq : (k == NameKind.free && env.scope.kind == .function && env.kindOf n == some .cell) = true
      · rw [if_pos hq]; simp only [List.lookup_cons, hx]; exact ih h hc
      · rw [if_neg hq]; simp only [List.lookup_cons, hx]; exact ih h hc
theorem relabel_back {env : Env} : ∀ {names : List (Str × NameKind)} {x : Str} {k : NameKind}, (∀ y ∈ names, y.2 ≠ .cell) → (k = .cell ∨ k = .free) →
    (names.map fun (n, k) => if (k == NameKind.free && env.scope.kind == .function && env.kindOf n == some .cell) then (n, NameKind.cell) else (n, k)).lookup x = some k → (x, NameKind.free) ∈ names
  | [], _, _, _, _, h => by simp at h
  | (n, k') :: r, x, k, hc, hk, h => by
    have ih := @relabel_back env r x k (fun y hy => hc y (List.mem_cons_of_mem _ hy)) hk
    have h' : List.lookup x ((if (k' == NameKind.free && env.scope.kind == .function && env.kindOf n == some .cell) = true then (n, NameKind.cell) else (n, k')) :: (r.map fun (n, k) => if (k == NameKind.free && env.scope.kind == .function && env.kindOf n == some .cell) then (n, NameKind.cell) else (n, k))) = some k := h
    by_cases hq : (k' == NameKind.free && env.scope.kind == .function && env.kindOf n == some .cell) = true
    · rw [if_pos hq] at h'
      have kf : k' = .free := by
        rw [Bool.and_eq_true, Bool.and_eq_true] at hq
        exact beq_iff_eq.mp hq.1.1
      cases hx : x == n with
      | true =>
        have e : x = n := beq_iff_eq.mp hx
        subst e
        subst kf
        exact List.mem_cons_self
      | false =>
        simp only [List.lookup_cons, hx] at h'
        exact List.mem_cons_of_mem _ (ih h')
    · rw [if_neg hq] at h'
      cases hx : x == n with
      | true =>
        have e : x = n := beq_iff_eq.mp hx
        subst e
        simp only [List.lookup_cons, hx] at h'
        cases h'
        rcases hk with hk | hk
        · exact absurd hk (hc _ List.mem_cons_self)
        · subst hk
          exact List.mem_cons_self
      | false =>
        simp only [List.lookup_cons, hx] at h'
        exact List.mem_cons_of_mem _ (ih h')
section
variable {X : Cx} {pins : List (Addr × Obj)} {σ : St} {H : Hp} {s : Shared}
theorem Inv.forget {σ' : St} (I : Inv X pins σ H s) (hl : σ'.length = X.N.length) (h : ∀ (i : Nat) (v : V), σ'[i]? = some (some v) → σ[i]? = some (some v)) : Inv X pins σ' H s := by
  obtain ⟨m, hn, hx⟩ := I.loc
  exact ⟨I.ok, I.os, I.bare, I.base, ⟨m, hn, fun i x v e1 e2 e3 => hx i x v e1 (h i v e2) e3⟩, I.cell, I.free, I.freeC, I.pin, I.hok, hl⟩
end
end My
namespace My
open PySem PySem.Spec PyProof.Rows L2
theorem compLoop_go {prog : Program} {w : World} {A : Around} {R : Result → Shared → Prop} {elt target iter : Expr} {ifs : List Expr} {scope : Scope} {pos : Pos} {it acc : Value} {env : Env} {s : Shared} (I : Nat → Shared → Prop)
    (turn : ∀ n s, I n s → wpAny (model prog w) A (pyNext it) (fun r s₁ => match r with
      | none => R (.ok .next) s₁
      | some v => wpAny (model prog w) A (letOwnedTupleGo target it v) (fun _ s₁' => wpAny (model prog w) A (assign target env v) (fun _ s₂ =>
          wpAny (model prog w) A (forIn ifs true fun c r => if r = true then do let ok ← isTrue c env (eval c env); pure (ForInStep.yield ok) else pure (ForInStep.yield r)) (fun ok s₃ =>
            if ok = true then wpAny (model prog w) A (eval elt env) (fun x s₄ =>
              wpAny (model prog w) A (call (.builtin "list.append") [acc, x]) (fun _ s₅ => ∃ m, m < n ∧ I m s₅) (fun _ _ => False) s₄) (fun _ _ => False) s₃
            else ∃ m, m < n ∧ I m s₃) (fun _ _ => False) s₂) (fun _ _ => False) s₁') (fun _ _ => False) s₁) (fun _ _ => False) s)
    (n : Nat) (h : I n s) :
    codeAny (model prog w) A (.compLoop (.ListComp elt [⟨target, iter, ifs, 0⟩] scope pos) 0 it acc env) R s := by
  refine codeAny_loop rfl I (fun n s hI => ?_) n h
  show wpAny _ A ((compTurn (.ListComp elt [⟨target, iter, ifs, 0⟩] scope pos) 0 it acc env).onRaise (fun x => do noteFrame x env; theTreesLotGoes x)) _ _ s
  refine wpAny_noted ?_
  rw [compTurn_list]
  refine wpAny_bind (wpAny_standAt (wpAny_bind (wpAny_mono (turn n s hI) (fun r s₁ h₁ => ?_) fun _ _ h' => h'.elim)))
  cases r with
  | none => exact wpAny_pure h₁
  | some v =>
    refine wpAny_bind (wpAny_mono h₁ (fun _ s₁' h₁' => ?_) fun _ _ h' => h'.elim)
    refine wpAny_bind (wpAny_mono h₁' (fun _ s₂ h₂ => wpAny_bind (wpAny_mono h₂ (fun ok s₃ h₃ => ?_) fun _ _ h' => h'.elim)) fun _ _ h' => h'.elim)
    cases ok with
    | false => exact wpAny_pure ⟨rfl, h₃⟩
    | true =>
      exact wpAny_bind (wpAny_bind (wpAny_mono h₃ (fun x s₄ h₄ => wpAny_bind (wpAny_mono h₄ (fun _ s₅ h₅ => wpAny_pure (wpAny_pure ⟨rfl, h₅⟩)) fun _ _ h' => h'.elim)) fun _ _ h' => h'.elim))
section
variable {X : Cx} {pins : List (Addr × Obj)} {σ : St} {H : Hp}
theorem inv_block {T V : List Str} {ix : List Nat} {scope : Scope} {s3 : Shared} {fp : List Addr} {h₁ : Heap} {tk : Nat} {m : Str → Option Value}
    (I : Inv X pins σ H s3) (hf : ∀ b ∈ fp, FpOk X pins H b) (ho : ∀ b ∈ fp, ∃ o, s3.heap.get? b = some o)
    (hk : scope.kind = .function) (hcell : ∀ y ∈ scope.names, y.2 ≠ .cell) (hfr : ∀ x ∈ scope.names, x.2 = .free → x.1 ∈ V) (hB : capB X.N X.env.scope.names scope.names V ix = true)
    (hns : h₁.Ns s3.heap.objs.size m) (keep : ∀ b o, s3.heap.get? b = some o → h₁.get? b = some o) :
    Inv (blk X (T ++ V) scope (clGo X.env scope.names []) s3.heap.objs.size s3 H fp) pins (capσ T.length ix σ) H { s3 with heap := h₁, toks := tk } := by
  obtain ⟨lV, capV⟩ := capB_get hB
  have hcl : ∀ x ∈ scope.names, x.2 = .free → ∃ c, X.env.cells.lookup x.1 = some c := fun x hx e => by
    obtain ⟨k, ek⟩ := List.getElem?_of_mem (hfr x hx e)
    obtain ⟨j, _, _, hc, _⟩ := capV k _ ek
    exact I.ok.has _ (.inl hc)
  have sub := clGo_sub (env := X.env) scope.names [] hcl (fun x c e => by simp at e)
  have stkSub : ∀ b, b ∈ frs X.stack → b = X.env.locals ∨ b ∈ X.fs := fun b z => List.mem_cons.mp (I.stkSub b z)
  have lt : ∀ b o, s3.heap.get? b = some o → b ≠ s3.heap.objs.size := fun b o e => Nat.ne_of_lt (Heap.lt_size e)
  have cellK : ∀ c v, s3.heap.IsCell c v → h₁.IsCell c v := fun c v ⟨o, e, d⟩ => ⟨o, keep c o e, d⟩
  refine ⟨⟨I.ok.mod, hk, I.ok.glob, I.ok.blt, Nat.le_refl _, fun x y c e1 e2 => I.ok.inj x y c (sub x c e1) (sub y c e2), fun x hx => ?_, fun x c hx => ?_, I.ok.hd, I.ok.frames, .inl rfl, fun b hb => ⟨?_, fun x c e => ?_⟩, I.bs, Nat.le_trans I.ok.bsz I.sz, fun b o e hb => ?_, fun b hb z => ?_, I.stack, I.stkFree⟩,
    rfl, I.bare, Un.kept keep, ⟨m, hns, fun i x v e1 e2 e3 => ?_⟩, fun x c e => ?_, I.hok.fresh (Nat.le_refl _), fun x c e => I.freeC x c (sub x c e), fun p hp => ?_, I.hok.kept keep, ?_⟩
  · rcases hx with hx | hx
    · exact clGo_has _ _ x (.inl (relabel_back hcell (.inl rfl) hx))
    · exact clGo_has _ _ x (.inl (relabel_back hcell (.inr rfl) hx))
  · exact absurd hx (by simp)
  · obtain ⟨o, e⟩ := ho b hb
    exact lt b o e
  · exact (hf b hb).2.2.2.2.1 x c (sub x c e)
  · rcases (hf b hb).2.2.2.1 with z | z
    · exact I.ok.noex b o e z
    · exact absurd (Nat.lt_of_lt_of_le (Heap.lt_size e) (Nat.le_trans I.ok.bsz z)) (Nat.lt_irrefl _)
  · rcases stkSub b z with z | z
    · exact (hf b hb).2.1 z
    · exact (hf b hb).2.2.1 z
  · by_cases hi : i < T.length
    · have e2' : (List.replicate T.length none ++ ix.map fun j => (σ[j]?).getD none)[i]? = some (some v) := e2
      rw [List.getElem?_append_left (by rw [List.length_replicate]; exact hi), List.getElem?_replicate, if_pos hi] at e2'
      exact absurd e2' (by simp)
    · have e1' : (T ++ V)[i]? = some x := e1
      rw [List.getElem?_append_right (by omega)] at e1'
      obtain ⟨j, hj, hN, hc, hfree⟩ := capV _ x e1'
      have e2' : (List.replicate T.length none ++ ix.map fun j => (σ[j]?).getD none)[i]? = some (some v) := e2
      rw [List.getElem?_append_right (by rw [List.length_replicate]; omega), List.length_replicate, List.getElem?_map, hj] at e2'
      have e2'' : (σ[j]?).getD none = some v := by simpa using e2'
      have e3' : σ[j]? = some (some v) := by
        cases q : σ[j]? with
        | none => rw [q] at e2''; exact absurd e2'' (by simp)
        | some o => rw [q] at e2''; simp at e2''; rw [e2'']
      obtain ⟨m0, hn0, hl⟩ := I.loc
      obtain ⟨u, r, l⟩ := hl j x v hN e3' (.inr (.inl hc))
      rcases l with ⟨z, _⟩ | ⟨_, c, ec, hcell'⟩
      · have z' : X.env.scope.names.lookup x = some .local := z
        rw [hc] at z'
        exact absurd z' (by simp)
      · obtain ⟨c', ec'⟩ := clGo_has (env := X.env) scope.names [] x (.inl (PySem.mem_of_lookup hfree))
        have : c' = c := by
          have q := sub x c' ec'
          rw [ec] at q
          exact (Option.some.inj q).symm
        subst this
        exact ⟨u, r, .inr ⟨.inl (relabel_cell I.ok.kind hfree hc), c', ec', cellK _ _ hcell'⟩⟩
  · obtain ⟨v, z⟩ := I.cell x c (sub x c e)
    exact ⟨v, cellK c v z⟩
  · obtain ⟨e, n, ne, nf, d⟩ := I.pin p hp
    refine ⟨keep _ _ e, n, lt _ _ e, fun z => ?_, d⟩
    rcases stkSub p.1 z with z | z
    · exact ne z
    · exact nf z
  · show (List.replicate T.length none ++ ix.map fun j => (σ[j]?).getD none).length = (T ++ V).length
    rw [List.length_append, List.length_replicate, List.length_map, List.length_append, lV]
theorem inv_back {N' : List Str} {scope : Scope} {cl : List (Str × Addr)} {pins' : List (Addr × Obj)} {σ' : St} {H3 H' : Hp} {s3 s' : Shared} {fp : List Addr} (I3 : Inv X pins σ H3 s3) (hf : ∀ b ∈ fp, FpOk X pins H3 b)
    (I' : Inv (blk X N' scope cl s3.heap.objs.size s3 H3 fp) pins' σ' H' s') : Inv X pins σ H' s' ∧ FpOk X pins H' s3.heap.objs.size := by
  have fr : H' s3.heap.objs.size = none := I'.free
  refine ⟨?_, I3.fpOk (Nat.le_refl _) fr⟩
  have os : s'.os = s3.os := I'.os
  have u : Un (frs X.stack) fp H3 H' s3.heap s'.heap := I'.base
  have ho := I'.hok
  have hb := I'.bare
  obtain ⟨hh, g, d, t, os'⟩ := s'
  obtain rfl : os' = s3.os := os
  exact I3.call (h' := hh) (g' := g) (d' := d) (t' := t) (ch := fp) u ho hb fun b hb' => ⟨(hf b hb').2.2.2.1, (hf b hb').2.1, (hf b hb').2.2.2.2.1, (hf b hb').2.2.2.2.2⟩
end
def PTs (X : Cx) (ifs : List Expr) (t : TT) : Prop :=
  ∀ (pins : List (Addr × Obj)) (s : Shared) (σ : St) (H : Hp) (Q : Bool → Hp → Prop), Inv X pins σ H s → t σ H Q →
    wpAny (model X.prog X.w) X.A (forIn ifs true fun c r => if r = true then do let ok ← isTrue c X.env (eval c X.env); pure (ForInStep.yield ok) else pure (ForInStep.yield r)) (TP X pins σ Q) X.xe s
def tYes : TT := fun _ H Q => Q true H
theorem pts_nil {X : Cx} : PTs X [] tYes := fun _ _ _ H _ I h => wpAny_tests_nil ⟨H, I, h⟩
theorem pts_one {X : Cx} {c : Expr} {t : TT} (h : PT X c t) : PTs X [c] t := fun pins s σ H Q I q => wpAny_tests_one (h pins s σ H Q I q)
def tComp (wi : TI) (g : TG) (tt : TT) (te : TE) (t : Nat) (cap : St → St) : TE := fun σ H Q => wi σ H fun J H1 => ∀ D, H1 D = none → ∃ W : Nat → Nat → List V → Hp → Prop, (∃ m, W 0 m [] (upd H1 D (.lst []))) ∧
  ∀ i m xs H2, W i m xs H2 → H2 D = some (.lst xs) ∧ ((J.stop i H2 ∧ Q (.ref D) H2) ∨ (J.go i H2 ∧ xs.length < sizeLine ∧ ∀ x H3, J.yld i H2 x H3 → g x (cap σ) H3 fun σ4 H4 => σ4.drop t = (cap σ).drop t ∧
    tt σ4 H4 fun b H5 => if b = true then te σ4 H5 fun v H6 => H6 D = some (.lst xs) ∧ ∃ m', m' < m ∧ W (i + 1) m' (xs ++ [v]) (upd H6 D (.lst (xs ++ [v]))) else ∃ m', m' < m ∧ W (i + 1) m' xs H5))
section
variable {X : Cx} {elt tg iter : Expr} {ifs : List Expr} {scope : Scope} {pos : Pos} {T V : List Str} {ix : List Nat} {wi : TI} {g : TG} {tt : TT} {te : TE}
theorem comp_core (hc : X.calm = true) (hi : PI X tg iter wi)
    (hg : ∀ cl C s3 H3 fp, PG (blk X (T ++ V) scope cl C s3 H3 fp) tg g) (ht : ∀ cl C s3 H3 fp, PTs (blk X (T ++ V) scope cl C s3 H3 fp) ifs tt) (he : ∀ cl C s3 H3 fp, PE (blk X (T ++ V) scope cl C s3 H3 fp) elt te)
    (hB : capB X.N X.env.scope.names scope.names V ix = true) (hk : scope.kind = .function) (hcell : ∀ y ∈ scope.names, y.2 ≠ .cell) (hnames : ∀ x ∈ scope.names, x.2 = .local → scope.names.lookup x.1 = some .local)
    (hfr : ∀ x ∈ scope.names, x.2 = .free → x.1 ∈ V) (hs : ∀ x, foldedSetIterable iter X.env x = pure x) {p : Pos}
    {pins : List (Addr × Obj)} {s : Shared} {σ : St} {H : Hp} (I : Inv X pins σ H s) {use : Option (Value → Sem Unit)} {Qp : Value → Shared → Prop} {Qv : VK} (h : tComp wi g tt te T.length (capσ T.length ix) σ H Qv)
    (fin : ∀ (D C : Addr) (H' : Hp) (s' : Shared) (m : Str → Option Value), Inv X pins σ H' s' → FpOk X pins H' C → s'.heap.Ns C m → Qv (.ref D) H' → compPost (model X.prog X.w) X.A X.xe use Qp (.ref D) C (.ok .next) s') :
    wpAny (model X.prog X.w) X.A (comprehension (.ListComp elt [⟨tg, iter, ifs, 0⟩] scope pos) scope X.env p (newList []) false (eval iter X.env) use) Qp X.xe s := by
  obtain ⟨lV, capV⟩ := capB_get hB
  have hcl : ∀ x ∈ scope.names, x.2 = .free → ∃ c, X.env.cells.lookup x.1 = some c := fun x hx e => by
    obtain ⟨k, ek⟩ := List.getElem?_of_mem (hfr x hx e)
    obtain ⟨j, _, _, hc', _⟩ := capV k _ ek
    exact I.ok.has _ (.inl hc')
  refine wpAny_comprehension_free rfl hs (closure_eq hcl) hk hnames ?_
  refine thn (hi pins s σ H _ I h) fun v s1 h1 => thn h1 fun itv s2 h2 => ?_
  obtain ⟨it, fp, tn, J, H2, e, I2, Tn, st2, f2, R⟩ := h2
  subst e
  refine wpAny_newObj_type (hd := by size_fits) ?_
  have hD : H2 s2.heap.objs.size = none := I2.hok.fresh (Nat.le_refl _)
  have I3 : Inv X pins σ (upd H2 s2.heap.objs.size (.lst [])) { s2 with heap := s2.heap.push { cls := .type "list", dict := none, data := .seq ([] : List Value).toArray } } :=
    I2.laid (t' := s2.toks) (fun b o e => Heap.get?_push_of_some _ e) (Nat.le_refl _) ⟨Nat.zero_le _, [], 0, .nil, Heap.get?_push_size _ rfl⟩
  obtain ⟨W, ⟨m0, w0⟩, turn⟩ := R s2.heap.objs.size hD
  generalize hs3 : ({ s2 with heap := s2.heap.push { cls := .type "list", dict := none, data := .seq ([] : List Value).toArray } } : Shared) = s3 at I3 ⊢
  have st3 : tn 0 s3.heap := by
    rw [← hs3]
    exact Tn.keep 0 s2.heap _ st2 fun b hb o e => Heap.get?_push_of_some _ e
  have f3 : ∀ b ∈ fp, FpOk X pins (upd H2 s2.heap.objs.size (.lst [])) b := fun b hb => by
    obtain ⟨z0, z1⟩ := f2 b hb
    refine ⟨?_, z1⟩
    obtain ⟨o, eo, _⟩ := Tn.obj 0 _ st2 b hb
    rw [upd_ne (Nat.ne_of_lt (Heap.lt_size eo))]
    exact z0
  generalize hH3 : upd H2 s2.heap.objs.size (.lst []) = H3 at I3 f3 w0
  generalize hDn : s2.heap.objs.size = D at turn
  refine wpAny_newFunctionEnv hcell (by intro y hy; simp at hy) (fun h₁ hns₁ hsb₁ => ?_) hk
  have keep : ∀ b o, s3.heap.get? b = some o → h₁.get? b = some o := fun b o e => hsb₁.extBut b o (Nat.ne_of_lt (Heap.lt_size e)) (Heap.get?_push_of_some _ e)
  have I4 := inv_block (T := T) (tk := s3.toks + ([] : List (Str × Value)).length) I3 f3 (fun b hb => let ⟨o, eo, _⟩ := Tn.obj 0 _ st3 b hb; ⟨o, eo⟩) hk hcell hfr hB hns₁ keep
  have st4 : tn 0 h₁ := Tn.keep 0 _ _ st3 fun b hb o e => keep b o e
  have loop : codeAny (model X.prog X.w) X.A (.compLoop (.ListComp elt [⟨tg, iter, ifs, 0⟩] scope pos) 0 (.ref it) (.ref D) (compEnvC scope (clGo X.env scope.names []) s3.heap.objs.size X.env))
      (compPost (model X.prog X.w) X.A X.xe use Qp (.ref D) s3.heap.objs.size) { s3 with heap := h₁, toks := s3.toks + ([] : List (Str × Value)).length } := by
    refine compLoop_go (fun n s' => ∃ i xs H', Inv (blk X (T ++ V) scope (clGo X.env scope.names []) s3.heap.objs.size s3 H3 fp) pins (capσ T.length ix σ) H' s' ∧ tn i s'.heap ∧ (∀ b ∈ fp, H' b = none) ∧ W i n xs H') ?_ m0
      ⟨0, [], H3, I4, st4, fun b hb => (f3 b hb).1, w0⟩
    rintro n s5 ⟨i, xs, H5, I5, st5, fr5, w5⟩
    have stat : ∀ {H' : Hp} {pins' : List (Addr × Obj)} {σ' : St} {s' : Shared}, Inv (blk X (T ++ V) scope (clGo X.env scope.names []) s3.heap.objs.size s3 H3 fp) pins σ' H' s' → (∀ b ∈ fp, H' b = none) → ∀ b ∈ fp, FpOk (blk X (T ++ V) scope (clGo X.env scope.names []) s3.heap.objs.size s3 H3 fp) pins H' b := fun I' hn b hb => by
      obtain ⟨x1, x2⟩ := I'.ok.exf b hb
      refine ⟨hn b hb, x1, I'.ok.exfs b hb, .inl hb, x2, fun q hq => ?_⟩
      exact (f3 b hb).2.2.2.2.2 q hq
    obtain ⟨hD5, r5⟩ := turn i n xs H5 w5
    rcases r5 with ⟨stop, q⟩ | ⟨go, hz, step⟩
    · refine thn (Tn.done (blk X (T ++ V) scope (clGo X.env scope.names []) s3.heap.objs.size s3 H3 fp) rfl rfl rfl hc i pins s5 _ H5 _ I5 (stat (pins' := pins) I5 fr5) st5 stop) fun r s6 ⟨hr, I6⟩ => ?_
      subst hr
      obtain ⟨Ib, fC⟩ := inv_back I3 f3 I6
      obtain ⟨m, hn, _⟩ := I6.loc
      exact fin D _ H5 s6 m Ib fC hn q
    · refine thn (Tn.item (blk X (T ++ V) scope (clGo X.env scope.names []) s3.heap.objs.size s3 H3 fp) rfl rfl rfl hc i pins s5 _ H5 _ I5 (stat (pins' := pins) I5 fr5) st5 go) fun r s6 ⟨u, hr, h6⟩ => ?_
      subst hr
      refine thn h6 fun _ s7 ⟨x, H7, I7, rx, y7, st7, fr7⟩ => ?_
      have I7' := I7.pinned (stat (pins' := pins) I7 fr7) (Tn.obj _ _ st7)
      refine thn (hg _ _ _ _ _ _ s7 _ H7 x u _ I7' rx (step x H7 y7)) fun _ s8 ⟨σ8, H8, I8, k8, q8⟩ => ?_
      have again : ∀ {H9 : Hp} {s9 : Shared}, Inv (blk X (T ++ V) scope (clGo X.env scope.names []) s3.heap.objs.size s3 H3 fp) (pins ++ pinsAt fp s7.heap) σ8 H9 s9 →
          Inv (blk X (T ++ V) scope (clGo X.env scope.names []) s3.heap.objs.size s3 H3 fp) pins (capσ T.length ix σ) H9 s9 ∧ tn (i + 1) s9.heap ∧ ∀ b ∈ fp, H9 b = none := fun {H9 s9} I9 => by
        refine ⟨Inv.forget I9.unpinned I4.len fun j v e => ?_, Tn.keep _ _ _ st7 fun b hb o e => (I9.pin (b, o) (List.mem_append_right _ (List.mem_append_right _ (mem_pinsAt hb e)))).1, fun b hb => ?_⟩
        · by_cases hj : j < T.length
          · have e' : (List.replicate T.length none ++ ix.map fun j => (σ[j]?).getD none)[j]? = some (some v) := e
            rw [List.getElem?_append_left (by rw [List.length_replicate]; exact hj), List.getElem?_replicate, if_pos hj] at e'
            exact absurd e' (by simp)
          · have ej : j = T.length + (j - T.length) := by omega
            rw [ej, ← List.getElem?_drop] at e ⊢
            rw [k8]
            exact e
        · obtain ⟨o, e, d⟩ := Tn.obj _ _ st7 b hb
          exact (I9.pin (b, o) (List.mem_append_right _ (List.mem_append_right _ (mem_pinsAt hb e)))).2.1
      refine thn (ht _ _ _ _ _ _ s8 σ8 H8 _ I8 q8) fun ok s9 ⟨H9, I9, q9⟩ => ?_
      cases ok with
      | false =>
        obtain ⟨m', lm, w9⟩ := q9
        obtain ⟨a1, a2, a3⟩ := again I9
        exact ⟨m', lm, i + 1, xs, H9, a1, a2, a3, w9⟩
      | true =>
        refine thn (he _ _ _ _ _ _ s9 σ8 H9 _ I9 q9) fun y s10 ⟨v, H10, I10, ry, hD10, m', lm, w10⟩ => ?_
        refine thn (mt_append _ s10 σ8 H10 (.ref D) [v] (.ref D) [y] (fun _ Hn => Hn = upd H10 D (.lst (xs ++ [v]))) I10 rfl (.cons ry .nil) ⟨D, xs, v, rfl, rfl, hD10, hz, rfl⟩) fun _ s11 ⟨_, H11, I11, _, e11⟩ => ?_
        subst e11
        obtain ⟨a1, a2, a3⟩ := again I11
        exact ⟨m', lm, i + 1, _, _, a1, a2, a3, w10⟩
  exact codeAny_compStart_list loop (Tn.self _ 0 _ _ _ st4 loop)
theorem pe_comp (hc : X.calm = true) (T V : List Str) (ix : List Nat) (hi : PI X tg iter wi)
    (hg : ∀ cl C s3 H3 fp, PG (blk X (T ++ V) scope cl C s3 H3 fp) tg g) (ht : ∀ cl C s3 H3 fp, PTs (blk X (T ++ V) scope cl C s3 H3 fp) ifs tt) (he : ∀ cl C s3 H3 fp, PE (blk X (T ++ V) scope cl C s3 H3 fp) elt te)
    (hB : capB X.N X.env.scope.names scope.names V ix = true := by rfl) (hk : scope.kind = .function := by rfl) (hcell : ∀ y ∈ scope.names, y.2 ≠ .cell := by decide +kernel)
    (hnames : ∀ x ∈ scope.names, x.2 = .local → scope.names.lookup x.1 = some .local := by decide +kernel)
    (hfr : ∀ x ∈ scope.names, x.2 = .free → x.1 ∈ V := by decide +kernel) (hs : ∀ x, foldedSetIterable iter X.env x = pure x := by intro _; rfl) :
    PE X (.ListComp elt [⟨tg, iter, ifs, 0⟩] scope pos) (tComp wi g tt te T.length (capσ T.length ix)) := by
  intro pins s σ H Q I h
  rw [eval_ListComp]
  refine comp_core (use := none) hc hi hg ht he hB hk hcell hnames hfr hs I h fun D C H' s' m I' fC hn q => ⟨m, hn, fun h' sb => ⟨.ref D, H', ?_, rfl, q⟩⟩
  obtain ⟨z0, z1, z2, z3, z4, z5⟩ := fC
  exact I'.turned (t' := s'.toks) (fun b o hb e => sb.extBut b o hb e) z0 z1 z3 z4 z5
end
section
variable {X : Cx} {K : PySem.W.Frag}
end
end My
namespace D3
open PySem
abbrev D := PyData
inductive U where
  | d (x : D)
  | x (c f : Str) (v : D)
abbrev DS := List (Option U)
inductive Oc where
  | nx (δ : DS)
  | rt (d : D)
  | bk (δ : DS)
  | ct (δ : DS)
  | ex (c f : Str) (v : D)
abbrev FE := DS → Option D
abbrev FA := DS → Option (List D)
abbrev FT := DS → Option Bool
abbrev FS := DS → Option Oc
abbrev FG := D → DS → Option DS
mutual
def flat : D → Bool
  | .none => true
  | .bool _ => true
  | .int _ => true
  | .str _ => true
  | .list _ => false
  | .tuple xs => flats xs
  | .dict _ => false
def flats : List D → Bool
  | [] => true
  | x :: r => flat x && flats r
end
mutual
def nl : D → Nat
  | .none => 0
  | .bool _ => 0
  | .int _ => 0
  | .str _ => 0
  | .list xs => nls xs + 1
  | .tuple xs => nls xs
  | .dict _ => 1
def nls : List D → Nat
  | [] => 0
  | x :: r => nl x + nls r
end
def fl1 : D → Bool
  | .list xs => flats xs
  | d => flat d
def dVar (i : Nat) : FE := fun δ => match δ[i]? with
  | some (some (.d x)) => some x
  | _ => none
def dC (d : D) : FE := fun _ => some d
def dOp (g : D → D → Option D) (fa fb : FE) : FE := fun δ => (fa δ).bind fun x => (fb δ).bind fun y => g x y
def dUn (g : D → Option D) (fa : FE) : FE := fun δ => (fa δ).bind g
def dNil : FA := fun _ => some []
def dCons (fa : FE) (fr : FA) : FA := fun δ => (fa δ).bind fun x => (fr δ).bind fun r => some (x :: r)
def dTup (fa : FA) : FE := fun δ => (fa δ).bind fun l => if l.length ≤ sizeLine then some (.tuple l) else none
def dLst (fa : FA) : FE := fun δ => (fa δ).bind fun l => if l.length ≤ sizeLine then some (.list l) else none
def dCall (F : List D → Option D) (fa : FA) : FE := fun δ => (fa δ).bind F
def dFlat (fa : FE) : FE := fun δ => (fa δ).bind fun d => if flat d = true then some d else none
def dN1 (fa : FE) : FE := fun δ => (fa δ).bind fun d => if decide (nl d ≤ 1) = true then some d else none
def dFl1 (fa : FE) : FE := fun δ => (fa δ).bind fun d => if fl1 d = true then some d else none
def dAnd (fa fb : FE) : FE := fun δ => (fa δ).bind fun x => match x with
  | .bool true => fb δ
  | .bool false => some (.bool false)
  | _ => none
def dOr (fa fb : FE) : FE := fun δ => (fa δ).bind fun x => match x with
  | .bool true => some (.bool true)
  | .bool false => fb δ
  | _ => none
def dNot (fa : FE) : FE := fun δ => (fa δ).bind fun x => match x with
  | .bool b => some (.bool (!b))
  | _ => none
def dIf (c : FT) (fa fb : FE) : FE := fun δ => (c δ).bind fun b => if b = true then fa δ else fb δ
def tBool (fa : FE) : FT := fun δ => (fa δ).bind fun x => match x with
  | .bool b => some b
  | _ => none
def tAnd (a b : FT) : FT := fun δ => (a δ).bind fun x => if x = true then b δ else some false
def tOr (a b : FT) : FT := fun δ => (a δ).bind fun x => if x = true then some true else b δ
def tNot (a : FT) : FT := fun δ => (a δ).map fun x => !x
def sNil : FS := fun δ => some (.nx δ)
def sSeq (a b : FS) : FS := fun δ => (a δ).bind fun o => match o with
  | .nx δ' => b δ'
  | o => some o
def sSet (i : Nat) (fe : FE) : FS := fun δ => (fe δ).bind fun d => some (.nx (δ.set i (some (.d d))))
def sIf (c : FT) (a b : FS) : FS := fun δ => (c δ).bind fun t => if t = true then a δ else b δ
def sRet (fe : FE) : FS := fun δ => (fe δ).bind fun d => some (.rt d)
def sRetN : FS := fun _ => some (.rt .none)
def sExpr (fe : FE) : FS := fun δ => (fe δ).bind fun _ => some (.nx δ)
def sBk : FS := fun δ => some (.bk δ)
def sCt : FS := fun δ => some (.ct δ)
def gN (i : Nat) : FG := fun d δ => some (δ.set i (some (.d d)))
def gsNil : List D → DS → Option DS := fun l δ => match l with
  | [] => some δ
  | _ => none
def gsCons (g : FG) (r : List D → DS → Option DS) : List D → DS → Option DS := fun l δ => match l with
  | d :: l' => (g d δ).bind fun δ' => r l' δ'
  | [] => none
def sAsg (fe : FE) (g : FG) : FS := fun δ => (fe δ).bind fun d => (g d δ).bind fun δ' => some (.nx δ')
def forD (g : FG) (b : FS) : List D → DS → Option Oc
  | [], δ => some (.nx δ)
  | d :: r, δ => (g d δ).bind fun δ1 => (b δ1).bind fun o => match o with
    | .nx δ' => forD g b r δ'
    | .ct δ' => forD g b r δ'
    | .bk δ' => some (.nx δ')
    | .rt v => some (.rt v)
    | .ex c f v => some (.ex c f v)
def sFor (fi : FA) (g : FG) (b : FS) : FS := fun δ => (fi δ).bind fun l => forD g b l δ
def whileD (c : FT) (b : FS) : Nat → DS → Option Oc
  | 0, _ => none
  | n + 1, δ => (c δ).bind fun t => if t = true then (b δ).bind fun o => match o with
      | .nx δ' => whileD c b n δ'
      | .ct δ' => whileD c b n δ'
      | .bk δ' => some (.nx δ')
      | .rt v => some (.rt v)
      | .ex c f v => some (.ex c f v)
    else some (.nx δ)
theorem whileD_mono {c : FT} {b : FS} : ∀ {n : Nat} {δ : DS} {o : Oc}, whileD c b n δ = some o → ∀ {m : Nat}, n ≤ m → whileD c b m δ = some o
  | 0, _, _, h, _, _ => by simp [whileD] at h
  | n + 1, δ, o, h, 0, l => by omega
  | n + 1, δ, o, h, m + 1, l => by
    rw [whileD] at h ⊢
    cases hc : c δ with
    | none => rw [hc] at h; simp at h
    | some t =>
      rw [hc] at h
      simp only [Option.bind_some] at h ⊢
      cases t with
      | false => exact h
      | true =>
        simp only [if_pos] at h ⊢
        cases hb : b δ with
        | none => rw [hb] at h; simp at h
        | some q =>
          rw [hb] at h
          simp only [Option.bind_some] at h ⊢
          cases q with
          | nx δ' => exact whileD_mono h (by omega)
          | ct δ' => exact whileD_mono h (by omega)
          | bk δ' => exact h
          | rt v => exact h
          | ex c f v => exact h
theorem whileD_det {c : FT} {b : FS} {n m : Nat} {δ : DS} {o o' : Oc} (h : whileD c b n δ = some o) (h' : whileD c b m δ = some o') : o = o' := by
  have a := whileD_mono h (Nat.le_max_left n m)
  have a' := whileD_mono h' (Nat.le_max_right n m)
  rw [a] at a'
  exact Option.some.inj a'
open Classical in
noncomputable def sWhile (c : FT) (b : FS) : FS := fun δ => if h : ∃ o n, whileD c b n δ = some o then some (Classical.choose h) else none
theorem sWhile_of {c : FT} {b : FS} {n : Nat} {δ : DS} {o : Oc} (h : whileD c b n δ = some o) : sWhile c b δ = some o := by
  have e : ∃ o n, whileD c b n δ = some o := ⟨o, n, h⟩
  unfold sWhile
  rw [dif_pos e]
  obtain ⟨m, hm⟩ := Classical.choose_spec e
  rw [whileD_det hm h]
theorem sWhile_inv {c : FT} {b : FS} {δ : DS} {o : Oc} (h : sWhile c b δ = some o) : ∃ n, whileD c b n δ = some o := by
  unfold sWhile at h
  by_cases e : ∃ o n, whileD c b n δ = some o
  · rw [dif_pos e] at h
    have := Classical.choose_spec e
    rw [Option.some.inj h] at this
    exact this
  · rw [dif_neg e] at h
    cases h
def fnD (p q : Nat) (b : FS) : List D → Option D := fun ds => if ds.length = p then match b (ds.map (fun d => some (.d d)) ++ List.replicate q none) with
    | some (.rt d) => some d
    | some (.nx _) => some .none
    | _ => none
  else none
def capD (t : Nat) (ix : List Nat) (δ : DS) : DS := List.replicate t none ++ ix.map fun j => (δ[j]?).getD none
def compD (g : FG) (c : FT) (e : FE) (δ : DS) : List D → Option (List D)
  | [] => some []
  | d :: r => (g d δ).bind fun δ1 => (c δ1).bind fun b => if b = true then (e δ1).bind fun x => (compD g c e δ r).bind fun l => some (x :: l) else compD g c e δ r
def dComp (fi : FA) (g : FG) (c : FT) (e : FE) (t : Nat) (ix : List Nat) : FE := fun δ => (fi δ).bind fun l => if l.length ≤ 100000 then (compD g c e (capD t ix δ) l).bind fun r => some (.list r) else none
def tYes : FT := fun _ => some true
def gI (g : Int → Int → Option D) : D → D → Option D := fun x y => match x, y with
  | .int i, .int j => g i j
  | _, _ => none
def pIx (n : Nat) (i : Int) : Option Nat := if 0 ≤ i then (if i < n then some i.toNat else none) else if -(n : Int) ≤ i then some (i + n).toNat else none
def pAt (xs : List D) (i : Int) : Option D := (pIx xs.length i).bind fun j => xs[j]?
def isT (c T : String) : Bool := T == c || (T == "bool" && c == "int")
def sSetl (i : Nat) (fe : FE) : FS := fun δ => if i < δ.length then sSet i fe δ else none
def gAdd : D → D → Option D := gI fun i j => some (.int (i + j))
def gSub : D → D → Option D := gI fun i j => some (.int (i - j))
def mulG (i j : Int) : Bool := decide (i.natAbs < 2 ^ 64) || decide (j.natAbs < 2 ^ 64) || (decide (i.natAbs < 2 ^ 30000) && decide (j.natAbs < 2 ^ 30000))
def gMul : D → D → Option D := gI fun i j => if mulG i j = true then some (.int (i * j)) else none
def divG (_ j : Int) : Bool := decide (j ≠ 0) && decide (j.natAbs < 2 ^ 9000)
def gDiv : D → D → Option D := gI fun i j => if divG i j = true then some (.int (i.fdiv j)) else none
def gMod : D → D → Option D := gI fun i j => if decide (j ≠ 0) = true then some (.int (i.fmod j)) else none
def powG (i j : Int) : Bool := decide (0 ≤ j) && decide (j ≤ 1000) && decide (i.natAbs < 2 ^ 64)
def gPow : D → D → Option D := gI fun i j => if powG i j = true then some (.int (i ^ j.toNat)) else none
def gLt : D → D → Option D := gI fun i j => some (.bool (decide (i < j)))
def gLe : D → D → Option D := gI fun i j => some (.bool (decide (i ≤ j)))
def gGt : D → D → Option D := gI fun i j => some (.bool (decide (j < i)))
def gGe : D → D → Option D := gI fun i j => some (.bool (decide (j ≤ i)))
def gEq : D → D → Option D := fun x y => if (SeqAt.shaped x && SeqAt.shaped y) = true then some (.bool (PyData.eqv x y)) else none
def gNe : D → D → Option D := fun x y => if (SeqAt.shaped x && SeqAt.shaped y) = true then some (.bool (!PyData.eqv x y)) else none
def gNl (i : Nat) : FG := fun d δ => if i < δ.length then gN i d δ else none
def gTn (n : Nat) (g : List D → DS → Option DS) : FG := fun d δ => match d with
  | .tuple l => if l.length = n then g l δ else none
  | _ => none
def sApp (i : Nat) (f : FE) : FS := fun δ => (dVar i δ).bind fun x => (f δ).bind fun d => match x with
  | .list l => if l.length < 1000000 then some (.nx (δ.set i (some (.d (.list (l ++ [d])))))) else none
  | _ => none
def sPut (i : Nat) (fk f : FE) : FS := fun δ => (f δ).bind fun d => (dVar i δ).bind fun x => (fk δ).bind fun k => match x, k with
  | .list l, .int j => (pIx l.length j).bind fun n => some (.nx (δ.set i (some (.d (.list (l.set n d))))))
  | _, _ => none
def putAt (x : D) (n : Nat) (d : D) : D := match x with
  | .list l => .list (l.set n d)
  | .tuple l => .tuple (l.set n d)
  | x => x
def asList : D → Option (List D)
  | .list l => some l
  | _ => none
def fLst (f : FE) : FA := fun δ => (f δ).bind asList
def rngD (lo hi : Int) : List D := (List.range (hi - lo).toNat).map fun (k : Nat) => .int (lo + (k : Int))
def rngG (i : Int) : Bool := decide (-(2 ^ 62) ≤ i) && decide (i < 2 ^ 62)
def fRng1 (fa : FA) : FA := fun δ => (fa δ).bind fun l => match l with
  | [.int j] => if rngG j = true then some (rngD 0 j) else none
  | _ => none
def fRng2 (fa : FA) : FA := fun δ => (fa δ).bind fun l => match l with
  | [.int i, .int j] => if (rngG i && rngG j) = true then some (rngD i j) else none
  | _ => none
def gIx : D → D → Option D := fun x y => match x, y with
  | .list l, .int i => pAt l i
  | .tuple l, .int i => pAt l i
  | _, _ => none
def dChain (g g' : D → D → Option D) (fa fb fc : FE) : FE := fun δ => (fa δ).bind fun x => (fb δ).bind fun y => (g x y).bind fun z => match z with
  | .bool true => (fc δ).bind fun w => g' y w
  | .bool false => some (.bool false)
  | _ => none
def dChain3 (g g' g'' : D → D → Option D) (fa fb fc fd : FE) : FE := fun δ => (fa δ).bind fun x => (fb δ).bind fun y => (g x y).bind fun z => match z with
  | .bool true => (fc δ).bind fun w => (g' y w).bind fun z' => match z' with
    | .bool true => (fd δ).bind fun u => g'' w u
    | .bool false => some (.bool false)
    | _ => none
  | .bool false => some (.bool false)
  | _ => none
def isNone : D → Bool
  | .none => true
  | _ => false
def gIsN : D → Option D := fun x => some (.bool (isNone x))
def gNotN : D → Option D := fun x => some (.bool (!isNone x))
def gLen : List D → Option D
  | [.list l] => some (.int l.length)
  | [.tuple l] => some (.int l.length)
  | _ => none
def intsD : List D → Option (List Int)
  | [] => some []
  | .int i :: r => (intsD r).map (i :: ·)
  | _ => none
def gSum : List D → Option D
  | [.list l] => (intsD l).map fun ns => .int ns.sum
  | _ => none
def mxI (i : Int) (r : List Int) : Int := r.foldl (fun a b => if a < b then b else a) i
def gMaxL : List D → Option D
  | [.list l] => match intsD l with
    | some (i :: r) => some (.int (mxI i r))
    | _ => none
  | _ => none
def insI (x : Int) : List Int → List Int
  | [] => [x]
  | y :: r => if x ≤ y then x :: y :: r else y :: insI x r
def srtI : List Int → List Int
  | [] => []
  | x :: r => insI x (srtI r)
def gAbs : List D → Option D
  | [.int i] => some (.int (if i < 0 then -i else i))
  | _ => none
def gMax2 : List D → Option D
  | [.int i, .int j] => some (.int (if j > i then j else i))
  | _ => none
def gMin2 : List D → Option D
  | [.int i, .int j] => some (.int (if j < i then j else i))
  | _ => none
def tyD : D → String
  | .none => "NoneType"
  | .bool _ => "bool"
  | .int _ => "int"
  | .str _ => "str"
  | .list _ => "list"
  | .tuple _ => "tuple"
  | .dict _ => "dict"
def gIs (c : String) : D → Option D := fun d => some (.bool (isT c (tyD d)))
def gNeg : D → Option D
  | .int i => some (.int (-i))
  | _ => none
def gCat : D → D → Option D := fun x y => match x, y with
  | .list l, .list m => if l.length + m.length ≤ 1000000 then some (.list (l ++ m)) else none
  | _, _ => none
def gList : D → Option D
  | .list l => some (.list l)
  | .tuple l => some (.list l)
  | _ => none
abbrev FO := DS → Option (Option Int)
def oNone : FO := fun _ => some none
def oPart (f : FE) : FO := fun δ => (f δ).bind fun x => match x with
  | .int i => some (some i)
  | _ => none
def pSx (n d : Nat) : Option Int → Nat
  | none => d
  | some i => if i < 0 then (i + n).toNat else min i.toNat n
def cutD (xs : List D) (lo hi : Option Int) : List D := (xs.drop (pSx xs.length 0 lo)).take (pSx xs.length xs.length hi - pSx xs.length 0 lo)
def dSl (f : FE) (lo hi : FO) : FE := fun δ => (f δ).bind fun x => (lo δ).bind fun a => (hi δ).bind fun b => match x with
  | .list l => some (.list (cutD l a b))
  | _ => none
def sPar (i j : Nat) (fa : FA) : FS := fun δ => (fa δ).bind fun l => match l with
  | [x, y] => if i < δ.length ∧ j < δ.length then some (.nx ((δ.set i (some (.d x))).set j (some (.d y)))) else none
  | _ => none
def enumD (l : List D) : List D := l.mapIdx fun i x => .tuple [.int (i : Int), x]
def fEnum (f : FE) : FA := fun δ => (f δ).bind fun d => match d with
  | .list l => some (enumD l)
  | _ => none
def mnI (i : Int) (r : List Int) : Int := r.foldl (fun a b => if b < a then b else a) i
def gMinL : List D → Option D
  | [.list l] => match intsD l with
    | some (i :: r) => some (.int (mnI i r))
    | _ => none
  | _ => none
def boolsD : List D → Option (List Bool)
  | [] => some []
  | .bool b :: r => (boolsD r).map (b :: ·)
  | _ => none
def gAll : List D → Option D
  | [.list l] => (boolsD l).map fun bs => .bool (bs.all id)
  | _ => none
def gAny : List D → Option D
  | [.list l] => (boolsD l).map fun bs => .bool (bs.any id)
  | _ => none
def zipD : List D → List D → List D
  | x :: r, y :: s => .tuple [x, y] :: zipD r s
  | _, _ => []
def fZip (f g : FE) : FA := fun δ => (f δ).bind fun d => (g δ).bind fun e => match d, e with
  | .list l, .list m => some (zipD l m)
  | _, _ => none
def fRev (f : FE) : FA := fun δ => (f δ).bind fun d => match d with
  | .list l => some l.reverse
  | _ => none
theorem mnI_spec : ∀ (r : List Int) (i : Int), mnI i r ∈ i :: r ∧ ∀ a ∈ i :: r, mnI i r ≤ a
  | [], i => ⟨List.mem_cons_self, fun a h => by rw [List.mem_singleton.mp h]; exact Int.le_refl _⟩
  | b :: r, i => by
    have ih := mnI_spec r (if b < i then b else i)
    have e : mnI i (b :: r) = mnI (if b < i then b else i) r := rfl
    rw [e]
    constructor
    · rcases List.mem_cons.mp ih.1 with z | z
      · rw [z]
        split <;> simp
      · exact List.mem_cons_of_mem _ (List.mem_cons_of_mem _ z)
    · intro a h
      have h0 := ih.2 _ List.mem_cons_self
      have hb : (if b < i then b else i) ≤ i ∧ (if b < i then b else i) ≤ b := by split <;> omega
      rcases List.mem_cons.mp h with rfl | h
      · exact Int.le_trans h0 hb.1
      · rcases List.mem_cons.mp h with rfl | h
        · exact Int.le_trans h0 hb.2
        · exact ih.2 a (List.mem_cons_of_mem _ h)
theorem mxI_spec : ∀ (r : List Int) (i : Int), mxI i r ∈ i :: r ∧ ∀ a ∈ i :: r, a ≤ mxI i r
  | [], i => ⟨List.mem_cons_self, fun a h => by rw [List.mem_singleton.mp h]; exact Int.le_refl _⟩
  | b :: r, i => by
    have ih := mxI_spec r (if i < b then b else i)
    have e : mxI i (b :: r) = mxI (if i < b then b else i) r := rfl
    rw [e]
    constructor
    · rcases List.mem_cons.mp ih.1 with z | z
      · rw [z]
        split <;> simp
      · exact List.mem_cons_of_mem _ (List.mem_cons_of_mem _ z)
    · intro a h
      have h0 := ih.2 _ List.mem_cons_self
      have hb : i ≤ (if i < b then b else i) ∧ b ≤ (if i < b then b else i) := by split <;> omega
      rcases List.mem_cons.mp h with rfl | h
      · exact Int.le_trans hb.1 h0
      · rcases List.mem_cons.mp h with rfl | h
        · exact Int.le_trans hb.2 h0
        · exact ih.2 a (List.mem_cons_of_mem _ h)
theorem insI_perm (x : Int) : ∀ l, (insI x l).Perm (x :: l)
  | [] => .refl _
  | y :: r => by
    unfold insI
    split
    · exact .refl _
    · exact ((insI_perm x r).cons y).trans (.swap x y r)
theorem srtI_perm : ∀ l, (srtI l).Perm l
  | [] => .refl _
  | x :: r => (insI_perm x _).trans ((srtI_perm r).cons x)
theorem insI_sorted (x : Int) : ∀ l, l.Pairwise (· ≤ ·) → (insI x l).Pairwise (· ≤ ·)
  | [], _ => by simp [insI]
  | y :: r, h => by
    obtain ⟨h1, h2⟩ := List.pairwise_cons.mp h
    unfold insI
    split
    · next c =>
      refine List.pairwise_cons.mpr ⟨fun a ha => ?_, h⟩
      rcases List.mem_cons.mp ha with rfl | z
      · exact c
      · exact Int.le_trans c (h1 a z)
    · next c =>
      refine List.pairwise_cons.mpr ⟨fun a ha => ?_, insI_sorted x r h2⟩
      rcases List.mem_cons.mp ((insI_perm x r).mem_iff.mp ha) with rfl | z
      · omega
      · exact h1 a z
theorem srtI_sorted : ∀ l, (srtI l).Pairwise (· ≤ ·)
  | [] => .nil
  | x :: r => insI_sorted x _ (srtI_sorted r)
end D3
namespace D3
open PySem PySem.Spec PyProof.Rows L2 My
abbrev Ok := Addr → Prop
abbrev St := L2.St
class Chg (u : HO) : Prop where
  ch : (∃ xs, u = .lst xs) ∨ (∃ kvs, u = .dK kvs) ∨ ∃ kvs, u = .dT kvs
instance (xs : List V) : Chg (.lst xs) := ⟨.inl ⟨xs, rfl⟩⟩
instance (kvs : List (Key × V)) : Chg (.dK kvs) := ⟨.inr (.inl ⟨kvs, rfl⟩)⟩
instance (kvs : List (List Key × V)) : Chg (.dT kvs) := ⟨.inr (.inr ⟨kvs, rfl⟩)⟩
theorem Chg.frz {o : Obj} {u : HO} (h : Chg (.frz o u)) : False := by
  rcases h.ch with ⟨_, z⟩ | ⟨_, z⟩ | ⟨_, z⟩ <;> cases z
theorem Chg.tup {xs : List V} (h : Chg (.tup xs)) : False := by
  rcases h.ch with ⟨_, z⟩ | ⟨_, z⟩ | ⟨_, z⟩ <;> cases z
def Chd (o : Option HO) : Prop := ∃ u, o = some u ∧ Chg u
theorem Chd.ne {o : Option HO} (h : Chd o) : o ≠ none := by
  obtain ⟨u, rfl, _⟩ := h
  simp
def SqK (K : PySem.W.Frag) (H : Hp) (a : Addr) (xs : List V) : Prop := (∃ o, H a = some (.frz o (.lst xs))) ∨
  ∃ (o : Obj) (its : Array Value) (n : Nat), K.lookup a = some o ∧ o.cls = .type "list" ∧ o.dict = none ∧ o.data = .seq its n ∧ its.size ≤ sizeLine ∧ Vals xs its.toList
theorem SqK.sq {K : PySem.W.Frag} {H : Hp} {a : Addr} {xs : List V} (h : SqK K H a xs) : SqL K H a xs := by
  rcases h with ⟨o, h⟩ | h
  · exact .inl (.inr ⟨o, h⟩)
  · exact .inr h
def SqT0 (H : Hp) (a : Addr) (xs : List V) : Prop := H a = some (.tup xs)
theorem SqT0.sq {K : PySem.W.Frag} {H : Hp} {a : Addr} {xs : List V} (h : SqT0 H a xs) : SqT K H a xs := .inl (.inl h)
theorem SqT0.same {H H' : Hp} {a : Addr} {xs : List V} (e : Same H H') (h : SqT0 H a xs) : SqT0 H' a xs := e _ _ h
theorem SqT0.upd {H : Hp} {a b : Addr} {xs : List V} {u o : HO} [cu : Chg u] (h : H a = some u) (q : SqT0 H b xs) : SqT0 (upd H a o) b xs := by
  unfold SqT0
  rw [upd_ne (ne_of q h (by intro z; subst z; exact cu.tup))]
  exact q
def dk0 : List (D × D) → List (Key × V)
  | [] => []
  | (.int i, .int j) :: r => (.inl i, .int j) :: dk0 r
  | _ :: r => (.inl 0, .non) :: dk0 r
def tkK : List D → Option (List Key)
  | [] => some []
  | .int i :: r => (tkK r).map (.inl i :: ·)
  | _ => none
def tkD : List (D × D) → Option (List (List Key × V))
  | [] => some []
  | (.tuple l, .bool true) :: r => (tkK l).bind fun k => (tkD r).map ((k, .bl true) :: ·)
  | _ => none
def dh0 (kvs : List (D × D)) : HO := match kvs with
  | [] => .dK []
  | q :: r => match tkD (q :: r) with
    | some ts => .dT ts
    | none => .dK (dk0 (q :: r))
theorem dh0_or (kvs : List (D × D)) : (∃ ks, dh0 kvs = .dK ks) ∨ ∃ ks, dh0 kvs = .dT ks := by
  cases kvs with
  | nil => exact .inl ⟨_, rfl⟩
  | cons q r =>
    unfold dh0
    dsimp only
    split
    · exact .inr ⟨_, rfl⟩
    · exact .inl ⟨_, rfl⟩
instance (kvs : List (D × D)) : Chg (dh0 kvs) := ⟨by
  rcases dh0_or kvs with ⟨ks, z⟩ | ⟨ks, z⟩
  · exact .inr (.inl ⟨ks, z⟩)
  · exact .inr (.inr ⟨ks, z⟩)⟩
mutual
inductive RA (K : PySem.W.Frag) (ok : Ok) (pl : Bool) (H : Hp) : V → D → Prop
  | non : RA K ok pl H .non .none
  | bl (b : Bool) : RA K ok pl H (.bl b) (.bool b)
  | int (i : Int) : RA K ok pl H (.int i) (.int i)
  | str (x : Str) : RA K ok pl H (.str x) (.str x)
  | lst {a : Addr} {xs : List V} {ds : List D} : H a = some (.lst xs) → ok a → RAs K ok pl H xs ds → RA K ok pl H (.ref a) (.list ds)
  | lsk {a : Addr} {xs : List V} {ds : List D} : SqK K H a xs → pl = true → RAs K ok pl H xs ds → RA K ok pl H (.ref a) (.list ds)
  | tup {a : Addr} {xs : List V} {ds : List D} : SqT0 H a xs → RAs K ok pl H xs ds → RA K ok pl H (.ref a) (.tuple ds)
  | dic {a : Addr} {kvs : List (D × D)} : H a = some (dh0 kvs) → ok a → RA K ok pl H (.ref a) (.dict kvs)
  | dik {a : Addr} {kvs : List (D × D)} {o : Obj} : H a = some (.frz o (dh0 kvs)) → pl = true → RA K ok pl H (.ref a) (.dict kvs)
inductive RAs (K : PySem.W.Frag) (ok : Ok) (pl : Bool) (H : Hp) : List V → List D → Prop
  | nil : RAs K ok pl H [] []
  | cons {v : V} {d : D} {vs : List V} {ds : List D} : RA K ok pl H v d → RAs K ok pl H vs ds → RAs K ok pl H (v :: vs) (d :: ds)
end
section
variable {K : PySem.W.Frag} {ok ok' : Ok} {pl pl' : Bool} {H H' : Hp}
mutual
theorem RA.imp (ho : ∀ a, ok a → ok' a) (hp : pl = true → pl' = true) : ∀ {v : V} {d : D}, RA K ok pl H v d → RA K ok' pl' H v d
  | _, _, .non => .non
  | _, _, .bl b => .bl b
  | _, _, .int i => .int i
  | _, _, .str x => .str x
  | _, _, .lst h o q => .lst h (ho _ o) (RAs.imp ho hp q)
  | _, _, .lsk h o q => .lsk h (hp o) (RAs.imp ho hp q)
  | _, _, .tup h q => .tup h (RAs.imp ho hp q)
  | _, _, .dic h o => .dic h (ho _ o)
  | _, _, .dik h o => .dik h (hp o)
theorem RAs.imp (ho : ∀ a, ok a → ok' a) (hp : pl = true → pl' = true) : ∀ {v : List V} {d : List D}, RAs K ok pl H v d → RAs K ok' pl' H v d
  | _, _, .nil => .nil
  | _, _, .cons h q => .cons (RA.imp ho hp h) (RAs.imp ho hp q)
end
theorem SqK.same {a : Addr} {xs : List V} (e : Same H H') (h : SqK K H a xs) : SqK K H' a xs := by
  rcases h with ⟨o, h⟩ | h
  · exact .inl ⟨o, e _ _ h⟩
  · exact .inr h
mutual
theorem RA.same (e : Same H H') : ∀ {v : V} {d : D}, RA K ok pl H v d → RA K ok pl H' v d
  | _, _, .non => .non
  | _, _, .bl b => .bl b
  | _, _, .int i => .int i
  | _, _, .str x => .str x
  | _, _, .lst h o q => .lst (e _ _ h) o (RAs.same e q)
  | _, _, .lsk h o q => .lsk (h.same e) o (RAs.same e q)
  | _, _, .tup h q => .tup (SqT0.same e h) (RAs.same e q)
  | _, _, .dic h o => .dic (e _ _ h) o
  | _, _, .dik h o => .dik (e _ _ h) o
theorem RAs.same (e : Same H H') : ∀ {v : List V} {d : List D}, RAs K ok pl H v d → RAs K ok pl H' v d
  | _, _, .nil => .nil
  | _, _, .cons h q => .cons (RA.same e h) (RAs.same e q)
end
mutual
theorem RA.flat : ∀ {v : V} {d : D}, flat d = true → RA K ok pl H v d → RA K ok' pl' H v d
  | _, _, _, .non => .non
  | _, _, _, .bl b => .bl b
  | _, _, _, .int i => .int i
  | _, _, _, .str x => .str x
  | _, _, h, .lst _ _ _ => by simp [D3.flat] at h
  | _, _, h, .lsk _ _ _ => by simp [D3.flat] at h
  | _, _, h, .tup t q => .tup t (RAs.flat (by simpa [D3.flat] using h) q)
  | _, _, h, .dic _ _ => by simp [D3.flat] at h
  | _, _, h, .dik _ _ => by simp [D3.flat] at h
theorem RAs.flat : ∀ {v : List V} {d : List D}, flats d = true → RAs K ok pl H v d → RAs K ok' pl' H v d
  | _, _, _, .nil => .nil
  | _, _, h, .cons a q => by
    rw [flats, Bool.and_eq_true] at h
    exact .cons (RA.flat h.1 a) (RAs.flat h.2 q)
end
theorem SqK.upd {a b : Addr} {xs : List V} {u o : HO} [cu : Chg u] (h : H a = some u) (q : SqK K H b xs) : SqK K (upd H a o) b xs := by
  rcases q with ⟨o', q⟩ | q
  · refine .inl ⟨o', ?_⟩
    rw [upd_ne (ne_of q h (by intro z; subst z; first | exact cu.frz | exact cu.tup))]
    exact q
  · exact .inr q
theorem SqT.upd {a b : Addr} {xs : List V} {u o : HO} [cu : Chg u] (h : H a = some u) (q : SqT K H b xs) : SqT K (upd H a o) b xs := by
  rcases q with (q | ⟨o', q⟩) | q
  · refine .inl (.inl ?_)
    rw [upd_ne (ne_of q h (by intro z; subst z; first | exact cu.frz | exact cu.tup))]
    exact q
  · refine .inl (.inr ⟨o', ?_⟩)
    rw [upd_ne (ne_of q h (by intro z; subst z; first | exact cu.frz | exact cu.tup))]
    exact q
  · exact .inr q
mutual
theorem RA.upd {a : Addr} {u o : HO} [cu : Chg u] (h : H a = some u) (na : ¬ ok a) : ∀ {v : V} {d : D}, RA K ok pl H v d → RA K ok pl (upd H a o) v d
  | _, _, .non => .non
  | _, _, .bl b => .bl b
  | _, _, .int i => .int i
  | _, _, .str x => .str x
  | _, _, .lst (a := b) e k q => .lst (by rw [upd_ne (by intro z; subst z; exact na k)]; exact e) k (RAs.upd h na q)
  | _, _, .lsk e k q => .lsk (e.upd h) k (RAs.upd h na q)
  | _, _, .tup e q => .tup (SqT0.upd h e) (RAs.upd h na q)
  | _, _, .dic (a := b) e k => .dic (by rw [upd_ne (by intro z; subst z; exact na k)]; exact e) k
  | _, _, .dik (a := b) e k => .dik (by rw [upd_ne (ne_of e h (by intro z; subst z; exact cu.frz))]; exact e) k
theorem RAs.upd {a : Addr} {u o : HO} [cu : Chg u] (h : H a = some u) (na : ¬ ok a) : ∀ {v : List V} {d : List D}, RAs K ok pl H v d → RAs K ok pl (upd H a o) v d
  | _, _, .nil => .nil
  | _, _, .cons e q => .cons (RA.upd h na e) (RAs.upd h na q)
end
mutual
theorem RA.track : ∀ {v : V} {d : D}, RA K ok pl H v d → RA K (fun b => ok b ∧ H b ≠ none) pl H v d
  | _, _, .non => .non
  | _, _, .bl b => .bl b
  | _, _, .int i => .int i
  | _, _, .str x => .str x
  | _, _, .lst e k q => .lst e ⟨k, by rw [e]; simp⟩ (RAs.track q)
  | _, _, .lsk e k q => .lsk e k (RAs.track q)
  | _, _, .tup e q => .tup e (RAs.track q)
  | _, _, .dic e k => .dic e ⟨k, by rw [e]; simp⟩
  | _, _, .dik e k => .dik e k
theorem RAs.track : ∀ {v : List V} {d : List D}, RAs K ok pl H v d → RAs K (fun b => ok b ∧ H b ≠ none) pl H v d
  | _, _, .nil => .nil
  | _, _, .cons e q => .cons (RA.track e) (RAs.track q)
end
theorem RAs.length : ∀ {v : List V} {d : List D}, RAs K ok pl H v d → v.length = d.length
  | _, _, .nil => rfl
  | _, _, .cons _ q => by simp [RAs.length q]
theorem RAs.get : ∀ {v : List V} {d : List D} {i : Nat} {x : D}, RAs K ok pl H v d → d[i]? = some x → ∃ y, v[i]? = some y ∧ RA K ok pl H y x
  | _, _, _, _, .nil, h => by simp at h
  | _, _, 0, _, .cons a _, h => by simp at h; subst h; exact ⟨_, rfl, a⟩
  | _, _, i + 1, _, .cons _ q, h => by
    obtain ⟨y, e, r⟩ := RAs.get (i := i) q (by simpa using h)
    exact ⟨y, by simpa using e, r⟩
theorem RAs.append : ∀ {v v' : List V} {d d' : List D}, RAs K ok pl H v d → RAs K ok pl H v' d' → RAs K ok pl H (v ++ v') (d ++ d')
  | _, _, _, _, .nil, q => q
  | _, _, _, _, .cons a r, q => .cons a (RAs.append r q)
theorem RAs.set {x : V} {y : D} (r : RA K ok pl H x y) : ∀ {v : List V} {d : List D} (i : Nat), RAs K ok pl H v d → RAs K ok pl H (v.set i x) (d.set i y)
  | _, _, _, .nil => .nil
  | _, _, 0, .cons _ q => .cons r q
  | _, _, i + 1, .cons a q => .cons a (RAs.set r i q)
theorem RAs.take : ∀ {v : List V} {d : List D} (n : Nat), RAs K ok pl H v d → RAs K ok pl H (v.take n) (d.take n)
  | _, _, 0, _ => by simp; exact .nil
  | _, _, _ + 1, .nil => .nil
  | _, _, n + 1, .cons a q => .cons a (RAs.take n q)
theorem RAs.drop : ∀ {v : List V} {d : List D} (n : Nat), RAs K ok pl H v d → RAs K ok pl H (v.drop n) (d.drop n)
  | _, _, 0, q => q
  | _, _, _ + 1, .nil => .nil
  | _, _, n + 1, .cons _ q => RAs.drop n q
theorem RAs.reverse : ∀ {v : List V} {d : List D}, RAs K ok pl H v d → RAs K ok pl H v.reverse d.reverse
  | _, _, .nil => .nil
  | _, _, .cons a q => by
    rw [List.reverse_cons, List.reverse_cons]
    exact (RAs.reverse q).append (.cons a .nil)
mutual
theorem RA.rd : ∀ {v : V} {d : D}, d.canLay0 = true → RA K ok pl H v d → RdV K H v d
  | _, _, _, .non => .non
  | _, _, _, .bl b => .bl b
  | _, _, _, .int i => .int i
  | _, _, _, .str x => .str x
  | _, _, h, .lst e _ q => .lst (SqL.of e) (RAs.rd (by simpa [PyData.canLay0] using h) q)
  | _, _, h, .lsk e _ q => .lst e.sq (RAs.rd (by simpa [PyData.canLay0] using h) q)
  | _, _, h, .tup e q => .tup e.sq (RAs.rd (by simpa [PyData.canLay0] using h) q)
  | _, _, h, .dic _ _ => by simp [PyData.canLay0] at h
  | _, _, h, .dik _ _ => by simp [PyData.canLay0] at h
theorem RAs.rd : ∀ {v : List V} {d : List D}, PyData.canLayAll0 d = true → RAs K ok pl H v d → RdVs K H v d
  | _, _, _, .nil => .nil
  | _, _, h, .cons e q => by
    rw [PyData.canLayAll0, Bool.and_eq_true] at h
    exact .cons (RA.rd h.1 e) (RAs.rd h.2 q)
end
theorem RA.intE {v : V} {i : Int} (h : RA K ok pl H v (.int i)) : v = .int i := by cases h; rfl
theorem RA.blE {v : V} {b : Bool} (h : RA K ok pl H v (.bool b)) : v = .bl b := by cases h; rfl
theorem RA.lstE {v : V} {ds : List D} (h : RA K ok pl H v (.list ds)) : ∃ a xs, v = .ref a ∧ SqL K H a xs ∧ RAs K ok pl H xs ds := by
  cases h with
  | lst e k q => exact ⟨_, _, rfl, SqL.of e, q⟩
  | lsk e k q => exact ⟨_, _, rfl, e.sq, q⟩
theorem RA.dicE {v : V} {kvs : List (D × D)} (h : RA K ok pl H v (.dict kvs)) : ∃ a, v = .ref a ∧ L2.Rd H a (dh0 kvs) := by
  cases h with
  | dic e k => exact ⟨_, rfl, .inl e⟩
  | dik e k => exact ⟨_, rfl, .inr ⟨_, e⟩⟩
theorem RA.tupE {v : V} {ds : List D} (h : RA K ok pl H v (.tuple ds)) : ∃ a xs, v = .ref a ∧ SqT K H a xs ∧ RAs K ok pl H xs ds := by
  cases h with
  | tup e q => exact ⟨_, _, rfl, e.sq, q⟩
theorem RA.tupE0 {v : V} {ds : List D} (h : RA K ok pl H v (.tuple ds)) : ∃ a xs, v = .ref a ∧ SqT0 H a xs ∧ RAs K ok pl H xs ds := by
  cases h with
  | tup e q => exact ⟨_, _, rfl, e, q⟩
end
inductive Fl where
  | A
  | O
  | L
  | N
  | M
  deriving DecidableEq
def isN : Option Fl → Bool
  | some .N => true
  | some .M => true
  | _ => false
mutual
inductive RT (K : PySem.W.Frag) (H : Hp) : V → D → List Addr → Prop
  | non : RT K H .non .none []
  | bl (b : Bool) : RT K H (.bl b) (.bool b) []
  | int (i : Int) : RT K H (.int i) (.int i) []
  | str (x : Str) : RT K H (.str x) (.str x) []
  | lst {a : Addr} {xs : List V} {ds : List D} {as : List Addr} : H a = some (.lst xs) → RTs K H xs ds as → RT K H (.ref a) (.list ds) (a :: as)
  | tup {a : Addr} {xs : List V} {ds : List D} {as : List Addr} : SqT0 H a xs → RTs K H xs ds as → RT K H (.ref a) (.tuple ds) as
  | dic {a : Addr} {kvs : List (D × D)} : H a = some (dh0 kvs) → RT K H (.ref a) (.dict kvs) [a]
inductive RTs (K : PySem.W.Frag) (H : Hp) : List V → List D → List Addr → Prop
  | nil : RTs K H [] [] []
  | cons {v : V} {d : D} {vs : List V} {ds : List D} {as bs : List Addr} : RT K H v d as → RTs K H vs ds bs → RTs K H (v :: vs) (d :: ds) (as ++ bs)
end
section
variable {K : PySem.W.Frag} {H H' : Hp}
mutual
theorem RT.ra {ok : Ok} {pl : Bool} : ∀ {v : V} {d : D} {as : List Addr}, RT K H v d as → (∀ a ∈ as, ok a) → RA K ok pl H v d
  | _, _, _, .non, _ => .non
  | _, _, _, .bl b, _ => .bl b
  | _, _, _, .int i, _ => .int i
  | _, _, _, .str x, _ => .str x
  | _, _, _, .lst e q, h => .lst e (h _ List.mem_cons_self) (RTs.ra q fun a ha => h a (List.mem_cons_of_mem _ ha))
  | _, _, _, .tup e q, h => .tup e (RTs.ra q h)
  | _, _, _, .dic e, h => .dic e (h _ List.mem_cons_self)
theorem RTs.ra {ok : Ok} {pl : Bool} : ∀ {v : List V} {d : List D} {as : List Addr}, RTs K H v d as → (∀ a ∈ as, ok a) → RAs K ok pl H v d
  | _, _, _, .nil, _ => .nil
  | _, _, _, .cons e q, h => .cons (RT.ra e fun a ha => h a (List.mem_append_left _ ha)) (RTs.ra q fun a ha => h a (List.mem_append_right _ ha))
end
mutual
theorem RT.same (s : Same H H') : ∀ {v : V} {d : D} {as : List Addr}, RT K H v d as → RT K H' v d as
  | _, _, _, .non => .non
  | _, _, _, .bl b => .bl b
  | _, _, _, .int i => .int i
  | _, _, _, .str x => .str x
  | _, _, _, .lst e q => .lst (s _ _ e) (RTs.same s q)
  | _, _, _, .tup e q => .tup (SqT0.same s e) (RTs.same s q)
  | _, _, _, .dic e => .dic (s _ _ e)
theorem RTs.same (s : Same H H') : ∀ {v : List V} {d : List D} {as : List Addr}, RTs K H v d as → RTs K H' v d as
  | _, _, _, .nil => .nil
  | _, _, _, .cons e q => .cons (RT.same s e) (RTs.same s q)
end
mutual
theorem RT.upd {a : Addr} {u o : HO} [cu : Chg u] (h : H a = some u) : ∀ {v : V} {d : D} {as : List Addr}, a ∉ as → RT K H v d as → RT K (upd H a o) v d as
  | _, _, _, _, .non => .non
  | _, _, _, _, .bl b => .bl b
  | _, _, _, _, .int i => .int i
  | _, _, _, _, .str x => .str x
  | _, _, _, na, .lst e q => .lst (by rw [upd_ne (fun z => na (by rw [← z]; exact List.mem_cons_self))]; exact e) (RTs.upd h (fun z => na (List.mem_cons_of_mem _ z)) q)
  | _, _, _, na, .tup e q => .tup (SqT0.upd h e) (RTs.upd h na q)
  | _, _, _, na, .dic e => .dic (by rw [upd_ne (fun z => na (by rw [← z]; exact List.mem_cons_self))]; exact e)
theorem RTs.upd {a : Addr} {u o : HO} [cu : Chg u] (h : H a = some u) : ∀ {v : List V} {d : List D} {as : List Addr}, a ∉ as → RTs K H v d as → RTs K (upd H a o) v d as
  | _, _, _, _, .nil => .nil
  | _, _, _, na, .cons e q => .cons (RT.upd h (fun z => na (List.mem_append_left _ z)) e) (RTs.upd h (fun z => na (List.mem_append_right _ z)) q)
end
mutual
theorem RT.chd : ∀ {v : V} {d : D} {as : List Addr}, RT K H v d as → ∀ a ∈ as, Chd (H a)
  | _, _, _, .non, _, h => by cases h
  | _, _, _, .bl b, _, h => by cases h
  | _, _, _, .int i, _, h => by cases h
  | _, _, _, .str x, _, h => by cases h
  | _, _, _, .lst e q, a, h => by
    rcases List.mem_cons.mp h with rfl | z
    · exact ⟨_, e, inferInstance⟩
    · exact RTs.chd q a z
  | _, _, _, .tup e q, a, h => RTs.chd q a h
  | _, _, _, .dic e, a, h => by
    rw [List.mem_singleton.mp h]; exact ⟨_, e, inferInstance⟩
theorem RTs.chd : ∀ {v : List V} {d : List D} {as : List Addr}, RTs K H v d as → ∀ a ∈ as, Chd (H a)
  | _, _, _, .nil, _, h => by cases h
  | _, _, _, .cons e q, a, h => by
    rcases List.mem_append.mp h with z | z
    · exact RT.chd e a z
    · exact RTs.chd q a z
end
theorem RT.tracked {v : V} {d : D} {as : List Addr} (h : RT K H v d as) (a : Addr) (ha : a ∈ as) : H a ≠ none := (h.chd a ha).ne
theorem RTs.tracked {v : List V} {d : List D} {as : List Addr} (h : RTs K H v d as) (a : Addr) (ha : a ∈ as) : H a ≠ none := (h.chd a ha).ne
mutual
theorem RA.rt {ok : Ok} : ∀ {v : V} {d : D}, RA K ok false H v d → ∃ as, RT K H v d as ∧ as.length = nl d ∧ ∀ a ∈ as, ok a
  | _, _, .non => ⟨[], .non, rfl, fun _ h => by cases h⟩
  | _, _, .bl b => ⟨[], .bl b, rfl, fun _ h => by cases h⟩
  | _, _, .int i => ⟨[], .int i, rfl, fun _ h => by cases h⟩
  | _, _, .str x => ⟨[], .str x, rfl, fun _ h => by cases h⟩
  | _, _, .lst e k q => by
    obtain ⟨as, h1, h2, h3⟩ := RAs.rts q
    refine ⟨_ :: as, .lst e h1, by rw [List.length_cons, h2, nl], fun a ha => ?_⟩
    rcases List.mem_cons.mp ha with rfl | z
    · exact k
    · exact h3 a z
  | _, _, .lsk e k q => by cases k
  | _, _, .tup e q => by
    obtain ⟨as, h1, h2, h3⟩ := RAs.rts q
    exact ⟨as, .tup e h1, by rw [h2, nl], h3⟩
  | _, _, .dic e k => ⟨[_], .dic e, by simp [nl], fun a ha => by rw [List.mem_singleton.mp ha]; exact k⟩
  | _, _, .dik e k => by cases k
theorem RAs.rts {ok : Ok} : ∀ {v : List V} {d : List D}, RAs K ok false H v d → ∃ as, RTs K H v d as ∧ as.length = nls d ∧ ∀ a ∈ as, ok a
  | _, _, .nil => ⟨[], .nil, rfl, fun _ h => by cases h⟩
  | _, _, .cons e q => by
    obtain ⟨as, h1, h2, h3⟩ := RA.rt e
    obtain ⟨bs, g1, g2, g3⟩ := RAs.rts q
    refine ⟨as ++ bs, .cons h1 g1, by rw [List.length_append, h2, g2, nls], fun a ha => ?_⟩
    rcases List.mem_append.mp ha with z | z
    · exact h3 a z
    · exact g3 a z
end
end
def tabs : List (Addr × Str × Pos) := []
def Tb (H : Hp) : Prop := ∀ t ∈ tabs, H t.1 = some (.tbl t.2.1 t.2.2)
theorem Tb.same {H H' : Hp} (t : Tb H) (s : Same H H') : Tb H' := fun x hx => s _ _ (t x hx)
structure Gh where
  H0 : Hp
  HF : Hp
  pk : Nat → Option Addr
  pn : Nat → List Addr
  tb : Tb H0
structure Ow where
  s : Nat → Option Addr
  n : Nat → List Addr := fun _ => []
instance : CoeFun Ow (fun _ => Nat → Option Addr) := ⟨Ow.s⟩
abbrev ow0 : Ow := ⟨fun _ => none, fun _ => []⟩
def okA (ow : Ow) : Ok := fun a => (∀ i, ow i ≠ some a) ∧ ∀ i, a ∉ ow.n i
structure Rel (K : PySem.W.Frag) (fl : List Fl) (G : Gh) (ow : Ow) (σ : St) (H : Hp) (δ : DS) : Prop where
  s0 : Same G.H0 G.HF
  s1 : Same G.HF H
  len : σ.length = δ.length
  own : ∀ i a, ow i = some a → G.H0 a = none ∧ ((fl[i]? = some .O ∧ G.HF a = none) ∨ (fl[i]? = some .L ∧ ∃ xs, G.HF a = some (.lst xs))) ∧
    ∃ xs ds, σ[i]? = some (some (.ref a)) ∧ H a = some (.lst xs) ∧ RAs K (okA ow) true H xs ds ∧ δ[i]? = some (some (.d (.list ds)))
  inj : ∀ i j a, ow i = some a → ow j = some a → i = j
  pin : ∀ i, fl[i]? = some .L → ow i = G.pk i
  dat : ∀ i d, δ[i]? = some (some (.d d)) → isN fl[i]? = false → ow i = none → ∃ v, σ[i]? = some (some v) ∧ RA K (okA ow) true H v d
  oo : ∀ i d, δ[i]? = some (some (.d d)) → isN fl[i]? = false → fl[i]? ≠ some .A → ow i = none → flat d = true
  nt : ∀ i a, a ∈ ow.n i → G.H0 a = none ∧ Chd (H a) ∧ ((fl[i]? = some .N ∧ G.HF a = none) ∨ fl[i]? = some .M)
  nd : ∀ i j a, a ∈ ow.n i → a ∈ ow.n j → i = j
  ns : ∀ i j a, a ∈ ow.n i → ow j ≠ some a
  np : ∀ i, fl[i]? = some .M → ow.n i = G.pn i
  nr : ∀ i d, isN fl[i]? = true → δ[i]? = some (some (.d d)) → ∃ v, σ[i]? = some (some v) ∧ RT K H v d (ow.n i) ∧ (ow.n i).Nodup
theorem Rel.tb {K : PySem.W.Frag} {fl : List Fl} {G : Gh} {ow : Ow} {σ : St} {H : Hp} {δ : DS} (R : Rel K fl G ow σ H δ) : Tb H := G.tb.same (R.s0.trans R.s1)
theorem Rel.same0 {K : PySem.W.Frag} {fl : List Fl} {G : Gh} {ow : Ow} {σ : St} {H : Hp} {δ : DS} (R : Rel K fl G ow σ H δ) : Same G.H0 H := R.s0.trans R.s1
theorem Rel.grow {K : PySem.W.Frag} {fl : List Fl} {G : Gh} {ow : Ow} {σ : St} {H H' : Hp} {δ : DS} (R : Rel K fl G ow σ H δ) (e : Same H H') : Rel K fl G ow σ H' δ :=
  ⟨R.s0, R.s1.trans e, R.len, fun i a h => by
    obtain ⟨h0, hf, xs, ds, h1, h2, h3, h4⟩ := R.own i a h
    exact ⟨h0, hf, xs, ds, h1, e _ _ h2, h3.same e, h4⟩, R.inj, R.pin, fun i d h1 hn h2 => by
    obtain ⟨v, h3, h4⟩ := R.dat i d h1 hn h2
    exact ⟨v, h3, h4.same e⟩, R.oo, fun i a h => by
    obtain ⟨h1, h2, h3⟩ := R.nt i a h
    exact ⟨h1, (let ⟨u, z, c⟩ := h2; ⟨u, e _ _ z, c⟩), h3⟩, R.nd, R.ns, R.np, fun i d h1 h2 => by
    obtain ⟨v, h3, h4, h5⟩ := R.nr i d h1 h2
    exact ⟨v, h3, h4.same e, h5⟩⟩
inductive Kd where
  | P
  | B (L : List Nat)
  | A
  | R
  | F
  | C
  | FC
  | T
def ok1 : Ok := fun _ => True
def ok0 : Ok := fun _ => False
def okN (H : Hp) : Ok := fun a => H a = none
def Rs (K : PySem.W.Frag) (H0 : Hp) (ow : Ow) (Hb H : Hp) : Kd → V → D → Prop
  | .P, v, d => RA K ok1 true H v d
  | .B L, v, d => RA K (okA ow) true H v d ∨ ∃ i ∈ L, ∃ a xs ds, ow i = some a ∧ v = .ref a ∧ d = .list ds ∧ H a = some (.lst xs) ∧ RAs K (okA ow) true H xs ds
  | .A, v, d => RA K (okA ow) true H v d
  | .R, v, d => RA K (okN H0) false H v d
  | .F, v, d => (flat d = true ∧ RA K ok0 false H v d) ∨ ∃ a xs ds, v = .ref a ∧ d = .list ds ∧ Hb a = none ∧ H a = some (.lst xs) ∧ RAs K (fun b => okA ow b ∧ b ≠ a) true H xs ds
  | .C, v, d => RA K (okN Hb) false H v d
  | .T, v, d => ∃ as, RT K H v d as ∧ as.Nodup ∧ ∀ a ∈ as, Hb a = none
  | .FC, v, d => (flat d = true ∧ RA K ok0 false H v d) ∨ ∃ a xs ds, v = .ref a ∧ d = .list ds ∧ Hb a = none ∧ H a = some (.lst xs) ∧ RAs K (fun b => okN Hb b ∧ b ≠ a) false H xs ds
section
variable {K : PySem.W.Frag} {Hb H H' : Hp} {fl : List Fl} {G : Gh} {ow : Ow} {σ : St} {δ : DS} {v : V} {d : D}
theorem okA_new (R : Rel K fl G ow σ Hb δ) {a : Addr} (h : Hb a = none) : okA ow a := ⟨fun i e => (by
  obtain ⟨_, _, xs, _, _, h2, _⟩ := R.own i a e
  rw [h] at h2
  cases h2), fun i e => (R.nt i a e).2.1.ne h⟩
theorem okN_0 (R : Rel K fl G ow σ Hb δ) {a : Addr} (h : Hb a = none) : okN G.H0 a := R.same0.free h
theorem Rs.FC_F (R : Rel K fl G ow σ Hb δ) (h : Rs K G.H0 ow Hb H .FC v d) : Rs K G.H0 ow Hb H .F v d := by
  rcases h with h | ⟨a, xs, ds, h1, h2, h3, h4, h5⟩
  · exact .inl h
  · exact .inr ⟨a, xs, ds, h1, h2, h3, h4, h5.imp (fun b z => ⟨okA_new R z.1, z.2⟩) (fun _ => rfl)⟩
theorem Rs.FC_C (h : Rs K G.H0 ow Hb H .FC v d) : Rs K G.H0 ow Hb H .C v d := by
  rcases h with h | ⟨a, xs, ds, rfl, rfl, h3, h4, h5⟩
  · exact RA.flat h.1 h.2
  · exact .lst h4 h3 (h5.imp (fun b z => z.1) (fun z => z))
theorem Rs.F_A (R : Rel K fl G ow σ Hb δ) (h : Rs K G.H0 ow Hb H .F v d) : Rs K G.H0 ow Hb H .A v d := by
  rcases h with h | ⟨a, xs, ds, rfl, rfl, h3, h4, h5⟩
  · exact RA.flat h.1 h.2
  · exact .lst h4 (okA_new R h3) (h5.imp (fun b z => z.1) (fun z => z))
theorem Rs.C_A (R : Rel K fl G ow σ Hb δ) (h : Rs K G.H0 ow Hb H .C v d) : Rs K G.H0 ow Hb H .A v d := RA.imp (fun _ z => okA_new R z) (fun _ => rfl) h
theorem Rs.C_R (R : Rel K fl G ow σ Hb δ) (h : Rs K G.H0 ow Hb H .C v d) : Rs K G.H0 ow Hb H .R v d := RA.imp (fun _ z => okN_0 R z) (fun z => z) h
theorem Rs.A_B (L : List Nat) (h : Rs K G.H0 ow Hb H .A v d) : Rs K G.H0 ow Hb H (.B L) v d := .inl h
theorem Rs.B_P {L : List Nat} (h : Rs K G.H0 ow Hb H (.B L) v d) : Rs K G.H0 ow Hb H .P v d := by
  rcases h with h | ⟨i, _, a, xs, ds, _, rfl, rfl, h4, h5⟩
  · exact RA.imp (fun _ _ => trivial) (fun z => z) h
  · exact .lst h4 trivial (h5.imp (fun _ _ => trivial) (fun z => z))
theorem Rs.P_flat (hf : flat d = true) (h : Rs K G.H0 ow Hb H .P v d) : Rs K G.H0 ow Hb H .FC v d := .inl ⟨hf, RA.flat hf h⟩
theorem Rs.C_fl1 (hf : fl1 d = true) (h : Rs K G.H0 ow Hb H .C v d) : Rs K G.H0 ow Hb H .FC v d := by
  by_cases e : ∃ ds, d = .list ds
  · obtain ⟨ds, rfl⟩ := e
    cases h with
    | lst e k q => exact .inr ⟨_, _, _, rfl, rfl, k, e, RAs.flat hf q⟩
    | lsk e k q => cases k
  · have hf' : flat d = true := by
      cases d <;> first | exact hf | exact absurd ⟨_, rfl⟩ e
    exact .inl ⟨hf', RA.flat hf' h⟩
end
def tD (K : PySem.W.Frag) (fl : List Fl) (k : Kd) (f : FE) : TE := fun σ H Q => ∃ G ow δ d, Rel K fl G ow σ H δ ∧ f δ = some d ∧ ∀ v H', Same H H' → Rs K G.H0 ow H H' k v d → Q v H'
abbrev DE (X : Cx) (fl : List Fl) (k : Kd) (e : Expr) (f : FE) : Prop := PE X e (tD X.K fl k f)
def tDA (K : PySem.W.Frag) (fl : List Fl) (f : FA) : TA := fun σ H Q => ∃ G ow δ ds, Rel K fl G ow σ H δ ∧ f δ = some ds ∧ ∀ vs H', Same H H' → RAs K ok1 true H' vs ds → Q vs H'
abbrev DA (X : Cx) (fl : List Fl) (es : List Expr) (f : FA) : Prop := PA X es (tDA X.K fl f)
def tDT (K : PySem.W.Frag) (fl : List Fl) (f : FT) : TT := fun σ H Q => ∃ G ow δ b, Rel K fl G ow σ H δ ∧ f δ = some b ∧ ∀ H', Same H H' → Q b H'
abbrev DT (X : Cx) (fl : List Fl) (e : Expr) (f : FT) : Prop := PT X e (tDT X.K fl f)
abbrev DW (X : Cx) (fl : List Fl) (e : Expr) (f : FT) : Prop := PW X e (tDT X.K fl f)
def EndD (K : PySem.W.Frag) (fl : List Fl) (G : Gh) (Dn : Ends) : Oc → Prop
  | .nx δ' => ∀ ow' σ' H', Rel K fl G ow' σ' H' δ' → Dn.nx σ' H'
  | .rt d => ∀ v H', Same G.H0 H' → RA K (okN G.H0) false H' v d → Dn.rt v H'
  | .bk δ' => ∀ ow' σ' H', Rel K fl G ow' σ' H' δ' → Dn.bk σ' H'
  | .ct δ' => ∀ ow' σ' H', Rel K fl G ow' σ' H' δ' → Dn.ct σ' H'
  | .ex _ _ d => ∀ v H', Same G.H0 H' → RA K ok1 true H' v d → Dn.rt v H'
def tDS (K : PySem.W.Frag) (fl : List Fl) (f : FS) : TS := fun Dn σ H => ∃ G ow δ o, Rel K fl G ow σ H δ ∧ f δ = some o ∧ EndD K fl G Dn o
abbrev DS1 (X : Cx) (fl : List Fl) (s : Stmt) (f : FS) : Prop := PS X s (tDS X.K fl f)
abbrev DSs (X : Cx) (fl : List Fl) (s : List Stmt) (f : FS) : Prop := PSs X s (tDS X.K fl f)
def tDG (K : PySem.W.Frag) (fl : List Fl) (tg : List Nat) (g : FG) : TG := fun v σ H Q => ∃ G ow δ d δ', Rel K fl G ow σ H δ ∧ RA K (okA ow) true H v d ∧ g d δ = some δ' ∧ ∀ σ', Rel K fl G ow σ' H δ' → (∀ j, j ∉ tg → σ'[j]? = σ[j]?) → Q σ' H
abbrev DG (X : Cx) (fl : List Fl) (tg : List Nat) (e : Expr) (g : FG) : Prop := PG X e (tDG X.K fl tg g)
section
variable {X : Cx} {e : Expr} {es : List Expr} {st : Stmt} {sts : List Stmt}
theorem PE.imp {t t' : TE} (h : PE X e t) (i : ∀ σ H Q, t' σ H Q → t σ H Q) : PE X e t' := fun pins s σ H Q I q => h pins s σ H Q I (i σ H Q q)
theorem PT.imp {t t' : TT} (h : PT X e t) (i : ∀ σ H Q, t' σ H Q → t σ H Q) : PT X e t' := fun pins s σ H Q I q => h pins s σ H Q I (i σ H Q q)
theorem PW.imp {t t' : TT} (h : PW X e t) (i : ∀ σ H Q, t' σ H Q → t σ H Q) : PW X e t' := fun w pins s σ H Q I q => h w pins s σ H Q I (i σ H Q q)
theorem PA.imp {t t' : TA} (h : PA X es t) (i : ∀ σ H Q, t' σ H Q → t σ H Q) : PA X es t' := fun p pins s σ H Q I q => h p pins s σ H Q I (i σ H Q q)
theorem PS.imp {t t' : TS} (h : PS X st t) (i : ∀ D σ H, t' D σ H → t D σ H) : PS X st t' := fun pins s σ H D I q => h pins s σ H D I (i D σ H q)
theorem PSs.imp {t t' : TS} (h : PSs X sts t) (i : ∀ D σ H, t' D σ H → t D σ H) : PSs X sts t' := fun pins s σ H D I q => h pins s σ H D I (i D σ H q)
theorem PG.imp {t t' : TG} (h : PG X e t) (i : ∀ v σ H Q, t' v σ H Q → t v σ H Q) : PG X e t' := fun pins s σ H v u Q I r q => h pins s σ H v u Q I r (i v σ H Q q)
end
end D3
namespace D3
open PySem PySem.Spec PyProof.Rows L2 My
section
variable {X : Cx} {fl : List Fl} {e a b c : Expr} {es : List Expr} {k : Kd} {f fa fb fc : FE} {pos : Pos}
theorem dVar_eq {i : Nat} {δ : DS} {d : D} (h : dVar i δ = some d) : δ[i]? = some (some (.d d)) := by
  unfold dVar at h
  split at h
  · next x e => rw [e]; cases h; rfl
  · cases h
theorem de_var (i : Nat) {x : Str} (hN : X.N[i]? = some x := by rfl) (hv : Vis X.env.scope x := by first | exact Or.inl rfl | exact Or.inr (Or.inl rfl) | exact Or.inr (Or.inr rfl)) (hd : (x == ("__debug__" : Str)) = false := by decide)
    (hcd : (x == ("__classdict__" : Str)) = false := by decide) (hn : isN fl[i]? = false := by rfl) : DE X fl (.B [i]) (.Name x pos) (dVar i) := by
  refine PE.imp (pe_var hN hv hd hcd) fun σ H Q h => ?_
  obtain ⟨G, ow, δ, d, R, hf, q⟩ := h
  have e := dVar_eq hf
  cases ho : ow i with
  | none =>
    obtain ⟨v, h1, h2⟩ := R.dat i d e hn ho
    exact ⟨v, h1, q v H (Same.refl H) (.inl h2)⟩
  | some a =>
    obtain ⟨h0, _, xs, ds, h1, h2, h3, h4⟩ := R.own i a ho
    rw [e] at h4
    cases h4
    exact ⟨_, h1, q _ H (Same.refl H) (.inr ⟨i, List.mem_singleton.mpr rfl, a, xs, ds, ho, rfl, rfl, h2, h3⟩)⟩
theorem de_varA (i : Nat) (hfl : fl[i]? = some .A) {x : Str} (hN : X.N[i]? = some x := by rfl) (hv : Vis X.env.scope x := by first | exact Or.inl rfl | exact Or.inr (Or.inl rfl) | exact Or.inr (Or.inr rfl)) (hd : (x == ("__debug__" : Str)) = false := by decide)
    (hcd : (x == ("__classdict__" : Str)) = false := by decide) : DE X fl .A (.Name x pos) (dVar i) := by
  refine PE.imp (pe_var hN hv hd hcd) fun σ H Q h => ?_
  obtain ⟨G, ow, δ, d, R, hf, q⟩ := h
  have e := dVar_eq hf
  cases ho : ow i with
  | none =>
    obtain ⟨v, h1, h2⟩ := R.dat i d e (by rw [hfl]; rfl) ho
    exact ⟨v, h1, q v H (Same.refl H) h2⟩
  | some a =>
    obtain ⟨h0, hz, _⟩ := R.own i a ho
    rw [hfl] at hz
    rcases hz with ⟨z, _⟩ | ⟨z, _⟩ <;> cases z
theorem de_varR (i : Nat) (hfl : fl[i]? ≠ some .A) {x : Str} (hN : X.N[i]? = some x := by rfl) (hv : Vis X.env.scope x := by first | exact Or.inl rfl | exact Or.inr (Or.inl rfl) | exact Or.inr (Or.inr rfl)) (hd : (x == ("__debug__" : Str)) = false := by decide)
    (hcd : (x == ("__classdict__" : Str)) = false := by decide) (hn : isN fl[i]? = false := by rfl) : DE X fl .R (.Name x pos) (dFl1 (dVar i)) := by
  refine PE.imp (pe_var hN hv hd hcd) fun σ H Q h => ?_
  obtain ⟨G, ow, δ, d, R, hf, q⟩ := h
  unfold dFl1 at hf
  cases hv' : dVar i δ with
  | none => rw [hv'] at hf; cases hf
  | some d' =>
    rw [hv', Option.bind_some] at hf
    by_cases hc : fl1 d' = true
    · rw [if_pos hc] at hf
      cases hf
      have e := dVar_eq hv'
      cases ho : ow i with
      | none =>
        obtain ⟨v, h1, h2⟩ := R.dat i d e hn ho
        exact ⟨v, h1, q v H (Same.refl H) (RA.flat (R.oo i d e hn hfl ho) h2)⟩
      | some a =>
        obtain ⟨h0, _, xs, ds, h1, h2, h3, h4⟩ := R.own i a ho
        rw [e] at h4
        cases h4
        exact ⟨_, h1, q _ H (Same.refl H) (.lst h2 h0 (RAs.flat hc h3))⟩
    · rw [if_neg hc] at hf
      cases hf
theorem de_cast {k k' : Kd} (h : DE X fl k e f) (hc : ∀ (Hb H : Hp) (G : Gh) (ow : Ow) (σ : St) (δ : DS) (v : V) (d : D), Rel X.K fl G ow σ Hb δ → Rs X.K G.H0 ow Hb H k v d → Rs X.K G.H0 ow Hb H k' v d) : DE X fl k' e f := by
  refine PE.imp h fun σ H Q h => ?_
  obtain ⟨G, ow, δ, d, R, hf, q⟩ := h
  exact ⟨G, ow, δ, d, R, hf, fun v H' s r => q v H' s (hc _ _ G ow σ δ v d R r)⟩
theorem de_guard {k k' : Kd} {p : D → Bool} (h : DE X fl k e f) (hc : ∀ (Hb H : Hp) (G : Gh) (ow : Ow) (σ : St) (δ : DS) (v : V) (d : D), p d = true → Rel X.K fl G ow σ Hb δ → Rs X.K G.H0 ow Hb H k v d → Rs X.K G.H0 ow Hb H k' v d) :
    DE X fl k' e (fun δ => (f δ).bind fun d => if p d = true then some d else none) := by
  refine PE.imp h fun σ H Q h => ?_
  obtain ⟨G, ow, δ, d, R, hf, q⟩ := h
  dsimp only at hf
  cases hv : f δ with
  | none => rw [hv] at hf; cases hf
  | some d' =>
    rw [hv, Option.bind_some] at hf
    by_cases hp : p d' = true
    · rw [if_pos hp] at hf
      cases hf
      exact ⟨G, ow, δ, d, R, hv, fun v H' s r => q v H' s (hc _ _ G ow σ δ v d hp R r)⟩
    · rw [if_neg hp] at hf
      cases hf
theorem c_FC_F (h : DE X fl .FC e f) : DE X fl .F e f := de_cast h fun _ _ _ _ _ _ _ _ R r => r.FC_F R
theorem c_FC_C (h : DE X fl .FC e f) : DE X fl .C e f := de_cast h fun _ _ _ _ _ _ _ _ R r => r.FC_C
theorem c_F_A (h : DE X fl .F e f) : DE X fl .A e f := de_cast h fun _ _ _ _ _ _ _ _ R r => r.F_A R
theorem c_C_A (h : DE X fl .C e f) : DE X fl .A e f := de_cast h fun _ _ _ _ _ _ _ _ R r => r.C_A R
theorem c_C_R (h : DE X fl .C e f) : DE X fl .R e f := de_cast h fun _ _ _ _ _ _ _ _ R r => r.C_R R
theorem c_A_B (h : DE X fl .A e f) : DE X fl (.B []) e f := de_cast h fun _ _ _ _ _ _ _ _ R r => Rs.A_B [] r
theorem c_B_P {L : List Nat} (h : DE X fl (.B L) e f) : DE X fl .P e f := de_cast h fun _ _ _ _ _ _ _ _ R r => r.B_P
theorem c_flat (h : DE X fl .P e f) : DE X fl .FC e (dFlat f) := de_guard h fun _ _ _ _ _ _ _ _ hf R r => r.P_flat hf
theorem c_Cfl1 (h : DE X fl .C e f) : DE X fl .FC e (dFl1 f) := de_guard h fun _ _ _ _ _ _ _ _ hf R r => r.C_fl1 hf
theorem c_FC_A (h : DE X fl .FC e f) : DE X fl .A e f := c_F_A (c_FC_F h)
theorem c_FC_R (h : DE X fl .FC e f) : DE X fl .R e f := c_C_R (c_FC_C h)
theorem c_A_P (h : DE X fl .A e f) : DE X fl .P e f := c_B_P (c_A_B h)
theorem c_C_P (h : DE X fl .C e f) : DE X fl .P e f := c_A_P (c_C_A h)
theorem c_FC_P (h : DE X fl .FC e f) : DE X fl .P e f := c_A_P (c_FC_A h)
theorem c_F_P (h : DE X fl .F e f) : DE X fl .P e f := c_A_P (c_F_A h)
theorem de_cst {v : V} {d : D} (h : PE X e (tC v)) (hf : flat d = true) (hr : ∀ H, RA X.K ok0 false H v d) : DE X fl .FC e (dC d) := by
  refine PE.imp h fun σ H Q h => ?_
  obtain ⟨G, ow, δ, d', R, hd, q⟩ := h
  cases hd
  exact q v H (Same.refl H) (.inl ⟨hf, hr H⟩)
theorem de_int {i j pos} : DE X fl .FC (.Constant (.int i) j pos) (dC (.int i)) := de_cst pe_int rfl fun _ => .int _
theorem de_bl {b j pos} : DE X fl .FC (.Constant (.bool b) j pos) (dC (.bool b)) := de_cst pe_bl rfl fun _ => .bl _
theorem de_non {j pos} : DE X fl .FC (.Constant .none j pos) (dC .none) := de_cst pe_non rfl fun _ => .non
theorem de_str {x j pos} : DE X fl .FC (.Constant (.str x) j pos) (dC (.str x)) := de_cst pe_str rfl fun _ => .str _
def BrO (K : PySem.W.Frag) (r : R2) (g : D → D → Option D) : Prop := ∀ (H : Hp) (x y : V) (dx dy d : D) (Q : VK), RA K ok1 true H x dx → RA K ok1 true H y dy → g dx dy = some d → (∀ v, flat d = true → RA K ok0 false H v d → Q v H) → r x y H Q
theorem bind2 {fa fb : FE} {g : D → D → Option D} {δ : DS} {d : D} (h : dOp g fa fb δ = some d) : ∃ x y, fa δ = some x ∧ fb δ = some y ∧ g x y = some d := by
  unfold dOp at h
  cases ha : fa δ with
  | none => rw [ha] at h; cases h
  | some x =>
    rw [ha, Option.bind_some] at h
    cases hb : fb δ with
    | none => rw [hb] at h; cases h
    | some y =>
      rw [hb, Option.bind_some] at h
      exact ⟨x, y, rfl, rfl, h⟩
theorem bind1 {α β : Type} {x : Option α} {g : α → Option β} {d : β} (h : x.bind g = some d) : ∃ y, x = some y ∧ g y = some d := by
  cases x with
  | none => cases h
  | some y => exact ⟨y, rfl, h⟩
theorem op_bridge {r : R2} {g : D → D → Option D} {σ : St} {H : Hp} {Q : VK} (hb : BrO X.K r g) (h : tD X.K fl .FC (dOp g fa fb) σ H Q) : tOp r (tD X.K fl .P fa) (tD X.K fl .P fb) σ H Q := by
  obtain ⟨G, ow, δ, d, R, hf, q⟩ := h
  obtain ⟨x, y, e1, e2, e3⟩ := bind2 hf
  refine ⟨G, ow, δ, x, R, e1, fun v H1 s1 r1 => ⟨G, ow, δ, y, R.grow s1, e2, fun u H2 s2 r2 => ?_⟩⟩
  exact hb H2 v u x y d Q (RA.same s2 r1) r2 e3 fun z hz rz => q z H2 (s1.trans s2) (.inl ⟨hz, rz⟩)
theorem de_op {op : Operator} {r : R2} {g : D → D → Option D} (ho : OpR X (binaryOp op) r) (hb : BrO X.K r g) (h1 : DE X fl .P a fa) (h2 : DE X fl .P b fb) : DE X fl .FC (.BinOp a op b pos) (dOp g fa fb) :=
  PE.imp (pe_op ho h1 h2) fun _ _ _ h => op_bridge hb h
theorem de_cmp {op : CmpOp} {r : R2} {g : D → D → Option D} (ho : OpR X (compareOp op) r) (hb : BrO X.K r g) (h1 : DE X fl .P a fa) (h2 : DE X fl .P b fb) (hm : behindInMarks op b = false) : DE X fl .FC (.Compare a [op] [b] pos) (dOp g fa fb) :=
  PE.imp (pe_cmpR ho h1 h2 hm) fun _ _ _ h => op_bridge hb h
theorem dt_cmp {op : CmpOp} {r : R2} {g : D → D → Option D} (ho : OpR X (compareOp op) r) (hb : BrO X.K r g) (h1 : DE X fl .P a fa) (h2 : DE X fl .P b fb) (hm : behindInMarks op b = false) : DT X fl (.Compare a [op] [b] pos) (tBool (dOp g fa fb)) := by
  refine PT.imp (pt_cmpR ho h1 h2 hm) fun σ H Q h => ?_
  obtain ⟨G, ow, δ, c, R, hf, q⟩ := h
  obtain ⟨d, e1, e2⟩ := bind1 hf
  cases d <;> first | (cases e2; done) | skip
  cases e2
  refine op_bridge (fl := fl) (fa := fa) (fb := fb) hb ⟨G, ow, δ, _, R, e1, fun v H' s r => ?_⟩
  obtain rfl := (Rs.FC_C r).blE
  exact ⟨_, rfl, q H' s⟩
theorem dt_val (h : DE X fl .P e f) (he : ∀ whole, isTrue e X.env whole = (do let v ← whole; standAt e.pos; holding [v] (truthy v)) := by intro _; rfl) : DT X fl e (tBool f) := by
  refine PT.imp (pt_val h he) fun σ H Q h => ?_
  obtain ⟨G, ow, δ, c, R, hf, q⟩ := h
  obtain ⟨d, e1, e2⟩ := bind1 hf
  cases d <;> first | (cases e2; done) | skip
  cases e2
  refine ⟨G, ow, δ, _, R, e1, fun v H' s r => ?_⟩
  obtain rfl := RA.blE r
  exact ⟨_, rfl, q H' s⟩
theorem br_I0 {K : PySem.W.Frag} {h : Int → Int → V} {g : Int → Int → D} (hf : ∀ i j, flat (g i j) = true) (hr : ∀ H i j, RA K ok0 false H (h i j) (g i j)) : BrO K (rI0 h) (gI fun i j => some (g i j)) := by
  intro H x y dx dy d Q rx ry e q
  unfold gI at e
  split at e
  · next i j =>
    cases e
    exact ⟨i, j, rx.intE, ry.intE, q _ (hf i j) (hr H i j)⟩
  · cases e
theorem br_I {K : PySem.W.Frag} {C : Int → Int → Prop} {h : Int → Int → V} {g : Int → Int → D} {c : Int → Int → Bool} (hc : ∀ i j, c i j = true → C i j) (hf : ∀ i j, flat (g i j) = true) (hr : ∀ H i j, RA K ok0 false H (h i j) (g i j)) :
    BrO K (rI C h) (gI fun i j => if c i j = true then some (g i j) else none) := by
  intro H x y dx dy d Q rx ry e q
  unfold gI at e
  split at e
  · next i j =>
    dsimp only at e
    by_cases z : c i j = true
    · rw [if_pos z] at e
      cases e
      exact ⟨i, j, rx.intE, ry.intE, hc i j z, q _ (hf i j) (hr H i j)⟩
    · rw [if_neg z] at e
      cases e
  · cases e
end
section
variable {X : Cx} {K : PySem.W.Frag}
theorem mulG_ok {i j : Int} (h : mulG i j = true) : IntMulOk i j := by
  unfold mulG at h
  rw [Bool.or_eq_true, Bool.or_eq_true, Bool.and_eq_true] at h
  rcases h with (h | h) | ⟨h1, h2⟩
  · exact IntMulOk.of_left (PySem.intBits_le_iff.mpr (of_decide_eq_true h))
  · exact IntMulOk.of_right (PySem.intBits_le_iff.mpr (of_decide_eq_true h))
  · exact PySem.IntMulOk.of_le (PySem.intBits_le_iff.mpr (of_decide_eq_true h1)) (PySem.intBits_le_iff.mpr (of_decide_eq_true h2)) (by decide)
theorem op_mulG : OpR X (binaryOp .Mult) (rI (fun i j => mulG i j = true) fun i j => .int (i * j)) := opI fun _ _ _ _ _ _ _ hc q => mul_int q (mulG_ok hc)
theorem op_divG : OpR X (binaryOp .FloorDiv) (rI (fun i j => divG i j = true) fun i j => .int (i.fdiv j)) := opI fun i j _ _ _ _ _ hc q => by
  unfold divG at hc
  rw [Bool.and_eq_true] at hc
  have h1 := of_decide_eq_true hc.1
  have h2 := of_decide_eq_true hc.2
  refine floordiv_int h1 q (.inl (PyProof.noPylong_of_log2 ?_))
  exact (Nat.log2_lt (by omega)).mpr h2
theorem powG_ok {i j : Int} (h : powG i j = true) : CPow i j := by
  unfold powG at h
  rw [Bool.and_eq_true, Bool.and_eq_true] at h
  have h1 := of_decide_eq_true h.1.1
  have h2 := of_decide_eq_true h.1.2
  exact ⟨h1, by omega, of_decide_eq_true h.2⟩
theorem b_add : BrO K (rI0 fun i j => .int (i + j)) gAdd := br_I0 (fun _ _ => rfl) fun _ _ _ => .int _
theorem b_mul : BrO K (rI (fun i j => mulG i j = true) fun i j => .int (i * j)) gMul := br_I (fun _ _ h => h) (fun _ _ => rfl) fun _ _ _ => .int _
theorem b_div : BrO K (rI (fun i j => divG i j = true) fun i j => .int (i.fdiv j)) gDiv := br_I (fun _ _ h => h) (fun _ _ => rfl) fun _ _ _ => .int _
theorem b_mod : BrO K (rI (fun _ j => j ≠ 0) fun i j => .int (i.fmod j)) gMod := br_I (fun _ _ h => of_decide_eq_true h) (fun _ _ => rfl) fun _ _ _ => .int _
theorem b_pow : BrO K (rI CPow fun i j => .int (i ^ j.toNat)) gPow := br_I (fun _ _ h => powG_ok h) (fun _ _ => rfl) fun _ _ _ => .int _
theorem b_lt : BrO K (rI0 fun i j => .bl (decide (i < j))) gLt := br_I0 (fun _ _ => rfl) fun _ _ _ => .bl _
theorem b_gt : BrO K (rI0 fun i j => .bl (decide (j < i))) gGt := br_I0 (fun _ _ => rfl) fun _ _ _ => .bl _
theorem b_ge : BrO K (rI0 fun i j => .bl (decide (j ≤ i))) gGe := br_I0 (fun _ _ => rfl) fun _ _ _ => .bl _
theorem b_eq : BrO K (rEqD K) gEq := by
  intro H x y dx dy d Q rx ry e q
  unfold gEq at e
  by_cases z : (SeqAt.shaped dx && SeqAt.shaped dy) = true
  · rw [if_pos z] at e
    cases e
    rw [Bool.and_eq_true] at z
    exact ⟨dx, dy, rx.rd (SeqAt.canLay_of_shaped z.1), ry.rd (SeqAt.canLay_of_shaped z.2), z.1, z.2, q _ rfl (.bl _)⟩
  · rw [if_neg z] at e
    cases e
theorem b_ne : BrO K (rNeD K) gNe := by
  intro H x y dx dy d Q rx ry e q
  unfold gNe at e
  by_cases z : (SeqAt.shaped dx && SeqAt.shaped dy) = true
  · rw [if_pos z] at e
    cases e
    rw [Bool.and_eq_true] at z
    exact ⟨dx, dy, rx.rd (SeqAt.canLay_of_shaped z.1), ry.rd (SeqAt.canLay_of_shaped z.2), z.1, z.2, q _ rfl (.bl _)⟩
  · rw [if_neg z] at e
    cases e
end
end D3
namespace D3
open PySem PySem.Spec PyProof.Rows L2 My
section
variable {X : Cx} {fl : List Fl} {e a b c : Expr} {es : List Expr} {st : Stmt} {sts body orelse : List Stmt} {k : Kd} {f fa fb fc : FE} {fs gs : FS} {ft gt : FT} {pos : Pos}
theorem EndD.nx_imp {K : PySem.W.Frag} {G : Gh} {Dn : Ends} {N : St → Hp → Prop} {o : Oc} (h : EndD K fl G Dn o) (hn : ∀ δ', o ≠ .nx δ') : EndD K fl G { Dn with nx := N } o := by
  cases o with
  | nx δ' => exact absurd rfl (hn δ')
  | rt d => exact h
  | bk δ' => exact h
  | ct δ' => exact h
  | ex c f v => exact h
theorem dss_nil : DSs X fl [] sNil := PSs.imp pss_nil fun Dn σ H h => by
  obtain ⟨G, ow, δ, o, R, hf, q⟩ := h
  cases hf
  exact q ow σ H R
theorem dss_cons (h1 : DS1 X fl st fs) (h2 : DSs X fl sts gs) : DSs X fl (st :: sts) (sSeq fs gs) := PSs.imp (pss_cons h1 h2) fun Dn σ H h => by
  obtain ⟨G, ow, δ, o, R, hf, q⟩ := h
  obtain ⟨o1, e1, e2⟩ := bind1 hf
  refine ⟨G, ow, δ, o1, R, e1, ?_⟩
  cases o1 with
  | nx δ' => exact fun ow' σ' H' R' => ⟨G, ow', δ', o, R', e2, q⟩
  | rt d => cases e2; exact EndD.nx_imp q (fun _ z => by cases z)
  | bk d => cases e2; exact EndD.nx_imp q (fun _ z => by cases z)
  | ct d => cases e2; exact EndD.nx_imp q (fun _ z => by cases z)
  | ex c f v => cases e2; exact q
theorem dss_one (h1 : DS1 X fl st fs) : DSs X fl [st] fs := PSs.imp (pss_one h1) fun _ _ _ h => h
theorem ds_ret (h : DE X fl .R e f) : DS1 X fl (.Return (some e) pos) (sRet f) := PS.imp (ps_ret h) fun Dn σ H h => by
  obtain ⟨G, ow, δ, o, R, hf, q⟩ := h
  obtain ⟨d, e1, e2⟩ := bind1 hf
  cases e2
  exact ⟨G, ow, δ, d, R, e1, fun v H' s r => q v H' (R.same0.trans s) r⟩
theorem ds_if (hc : DT X fl c ft) (h1 : DSs X fl body fs) (h2 : DSs X fl orelse gs) : DS1 X fl (.If c body orelse pos) (sIf ft fs gs) := PS.imp (ps_if hc h1 h2) fun Dn σ H h => by
  obtain ⟨G, ow, δ, o, R, hf, q⟩ := h
  obtain ⟨t, e1, e2⟩ := bind1 hf
  refine ⟨G, ow, δ, t, R, e1, fun H' s => ?_⟩
  cases t with
  | true => exact iteT ⟨G, ow, δ, o, R.grow s, e2, q⟩
  | false => exact iteF ⟨G, ow, δ, o, R.grow s, e2, q⟩
theorem set_get {α : Type} {l : List (Option α)} {i j : Nat} {x y : α} (h : (l.set i (some x))[j]? = some (some y)) : (j = i ∧ x = y) ∨ (j ≠ i ∧ l[j]? = some (some y)) := by
  rw [List.getElem?_set] at h
  by_cases e : i = j
  · subst e
    rw [if_pos rfl] at h
    by_cases z : i < l.length
    · rw [if_pos z] at h
      cases h
      exact .inl ⟨rfl, rfl⟩
    · rw [if_neg z] at h
      cases h
  · rw [if_neg e] at h
    exact .inr ⟨fun z => e z.symm, h⟩
theorem Rel.setA {K : PySem.W.Frag} {G : Gh} {ow : Ow} {σ : St} {H : Hp} {δ : DS} {i : Nat} {v : V} {d : D} (R : Rel K fl G ow σ H δ) (hfl : fl[i]? = some .A) (hi : i < σ.length) (r : RA K (okA ow) true H v d) :
    Rel K fl G ow (σ.set i (some v)) H (δ.set i (some (.d d))) := by
  have no : ∀ a, ow i ≠ some a := fun a z => by
    obtain ⟨_, hz, _⟩ := R.own i a z
    rw [hfl] at hz
    rcases hz with ⟨z, _⟩ | ⟨z, _⟩ <;> cases z
  refine ⟨R.s0, R.s1, by rw [List.length_set, List.length_set]; exact R.len, fun j a h => ?_, R.inj, R.pin, fun j d' h1 hn h2 => ?_, fun j d' h1 hn h2 h3 => ?_, R.nt, R.nd, R.ns, R.np, fun j d' hn h1 => ?_⟩
  · have hj : j ≠ i := fun z => no a (z ▸ h)
    obtain ⟨h0, hf, xs, ds, h1, h2, h3, h4⟩ := R.own j a h
    exact ⟨h0, hf, xs, ds, by rw [List.getElem?_set_ne (Ne.symm hj)]; exact h1, h2, h3, by rw [List.getElem?_set_ne (Ne.symm hj)]; exact h4⟩
  · rcases set_get h1 with ⟨rfl, e⟩ | ⟨hj, e⟩
    · cases e
      exact ⟨v, by rw [List.getElem?_set_self hi], r⟩
    · obtain ⟨v', h3, h4⟩ := R.dat j d' e hn h2
      exact ⟨v', by rw [List.getElem?_set_ne (Ne.symm hj)]; exact h3, h4⟩
  · rcases set_get h1 with ⟨rfl, e⟩ | ⟨hj, e⟩
    · exact absurd hfl h2
    · exact R.oo j d' e hn h2 h3
  · rcases set_get h1 with ⟨rfl, e⟩ | ⟨hj, e⟩
    · rw [hfl] at hn; cases hn
    · obtain ⟨v', h3, h4⟩ := R.nr j d' hn e
      exact ⟨v', by rw [List.getElem?_set_ne (Ne.symm hj)]; exact h3, h4⟩
def owSet (ow : Ow) (i : Nat) (a : Option Addr) : Ow := ⟨fun j => if j = i then a else ow j, ow.n⟩
theorem owSet_eq {ow : Ow} {i : Nat} {a : Option Addr} : owSet ow i a i = a := if_pos rfl
theorem owSet_ne {ow : Ow} {i j : Nat} {a : Option Addr} (h : j ≠ i) : owSet ow i a j = ow j := if_neg h
theorem Rel.setO {K : PySem.W.Frag} {G : Gh} {ow : Ow} {σ : St} {H H' : Hp} {δ : DS} {i : Nat} {v : V} {d : D} (R : Rel K fl G ow σ H δ) (s : Same H H') (hfl : fl[i]? = some .O) (hi : i < σ.length) (r : Rs K G.H0 ow H H' .F v d) :
    ∃ ow', Rel K fl G ow' (σ.set i (some v)) H' (δ.set i (some (.d d))) := by
  have R' := R.grow s
  have sub0 : ∀ b, okA ow b → okA (owSet ow i none) b := fun b z => ⟨fun j e => by
    by_cases hj : j = i
    · subst hj; rw [owSet_eq] at e; cases e
    · rw [owSet_ne hj] at e; exact z.1 j e, z.2⟩
  have nrs : ∀ j d', isN fl[j]? = true → (δ.set i (some (.d d)))[j]? = some (some (.d d')) → ∃ v', (σ.set i (some v))[j]? = some (some v') ∧ RT K H' v' d' (ow.n j) ∧ (ow.n j).Nodup := fun j d' hn h1 => by
    rcases set_get h1 with ⟨rfl, e⟩ | ⟨hj, e⟩
    · rw [hfl] at hn; cases hn
    · obtain ⟨v', h3, h4⟩ := R'.nr j d' hn e
      exact ⟨v', by rw [List.getElem?_set_ne (Ne.symm hj)]; exact h3, h4⟩
  rcases r with ⟨hfd, r⟩ | ⟨a, xs, ds, rfl, rfl, ha, hx, hr⟩
  · refine ⟨owSet ow i none, R'.s0, R'.s1, by rw [List.length_set, List.length_set]; exact R.len, fun j a h => ?_, fun j j' a h h' => ?_, fun j h => ?_, fun j d' h1 hn h2 => ?_, fun j d' h1 hn h2 h3 => ?_, R'.nt, R'.nd, fun j j' a h h' => ?_, R'.np, nrs⟩
    · have hj : j ≠ i := fun z => by subst z; rw [owSet_eq] at h; cases h
      rw [owSet_ne hj] at h
      obtain ⟨h0, hf, xs, ds, h1, h2, h3, h4⟩ := R'.own j a h
      exact ⟨h0, hf, xs, ds, by rw [List.getElem?_set_ne (Ne.symm hj)]; exact h1, h2, h3.imp sub0 (fun z => z), by rw [List.getElem?_set_ne (Ne.symm hj)]; exact h4⟩
    · have hj : j ≠ i := fun z => by subst z; rw [owSet_eq] at h; cases h
      have hj' : j' ≠ i := fun z => by subst z; rw [owSet_eq] at h'; cases h'
      rw [owSet_ne hj] at h
      rw [owSet_ne hj'] at h'
      exact R.inj j j' a h h'
    · have hj : j ≠ i := fun z => by subst z; rw [hfl] at h; cases h
      rw [owSet_ne hj]
      exact R.pin j h
    · rcases set_get h1 with ⟨rfl, e⟩ | ⟨hj, e⟩
      · cases e
        exact ⟨v, by rw [List.getElem?_set_self hi], RA.flat hfd r⟩
      · rw [owSet_ne hj] at h2
        obtain ⟨v', h3, h4⟩ := R'.dat j d' e hn h2
        exact ⟨v', by rw [List.getElem?_set_ne (Ne.symm hj)]; exact h3, h4.imp sub0 (fun z => z)⟩
    · rcases set_get h1 with ⟨rfl, e⟩ | ⟨hj, e⟩
      · cases e
        exact hfd
      · rw [owSet_ne hj] at h3
        exact R.oo j d' e hn h2 h3
    · by_cases hj : j' = i
      · subst hj; rw [owSet_eq] at h'; cases h'
      · rw [owSet_ne hj] at h'; exact R.ns j j' a h h'
  · have sub : ∀ b, okA ow b ∧ b ≠ a → okA (owSet ow i (some a)) b := fun b z => ⟨fun j e => by
      by_cases hj : j = i
      · subst hj; rw [owSet_eq] at e; exact z.2 (Option.some.inj e).symm
      · rw [owSet_ne hj] at e; exact z.1.1 j e, z.1.2⟩
    have old : ∀ {v : V} {d : D}, RA K (okA ow) true H v d → RA K (okA (owSet ow i (some a))) true H' v d := fun r => (r.track.imp (fun b z => sub b ⟨z.1, fun e => z.2 (e ▸ ha)⟩) (fun z => z)).same s
    have olds : ∀ {v : List V} {d : List D}, RAs K (okA ow) true H v d → RAs K (okA (owSet ow i (some a))) true H' v d := fun r => (r.track.imp (fun b z => sub b ⟨z.1, fun e => z.2 (e ▸ ha)⟩) (fun z => z)).same s
    have nota : ∀ j, ow j ≠ some a := fun j z => by
      obtain ⟨_, _, _, _, _, h2, _⟩ := R.own j a z
      rw [ha] at h2
      cases h2
    have hF : G.HF a = none := R.s1.free ha
    refine ⟨owSet ow i (some a), R'.s0, R'.s1, by rw [List.length_set, List.length_set]; exact R.len, fun j b h => ?_, fun j j' b h h' => ?_, fun j h => ?_, fun j d' h1 hn h2 => ?_, fun j d' h1 hn h2 h3 => ?_, R'.nt, R'.nd, fun j j' b h h' => ?_, R'.np, nrs⟩
    · by_cases hj : j = i
      · subst hj
        rw [owSet_eq] at h
        cases h
        exact ⟨R.same0.free ha, .inl ⟨hfl, hF⟩, xs, ds, by rw [List.getElem?_set_self hi], hx, hr.imp sub (fun z => z), by rw [List.getElem?_set_self (by rw [← R.len]; exact hi)]⟩
      · rw [owSet_ne hj] at h
        obtain ⟨h0, hf, ys, ds', h1, h2, h3, h4⟩ := R.own j b h
        exact ⟨h0, hf, ys, ds', by rw [List.getElem?_set_ne (Ne.symm hj)]; exact h1, s _ _ h2, olds h3, by rw [List.getElem?_set_ne (Ne.symm hj)]; exact h4⟩
    · by_cases hj : j = i
      · by_cases hj' : j' = i
        · rw [hj, hj']
        · subst hj
          rw [owSet_eq] at h
          cases h
          rw [owSet_ne hj'] at h'
          exact absurd h' (nota j')
      · rw [owSet_ne hj] at h
        by_cases hj' : j' = i
        · subst hj'
          rw [owSet_eq] at h'
          cases h'
          exact absurd h (nota j)
        · rw [owSet_ne hj'] at h'
          exact R.inj j j' b h h'
    · have hj : j ≠ i := fun z => by subst z; rw [hfl] at h; cases h
      rw [owSet_ne hj]
      exact R.pin j h
    · rcases set_get h1 with ⟨rfl, e⟩ | ⟨hj, e⟩
      · rw [owSet_eq] at h2; cases h2
      · rw [owSet_ne hj] at h2
        obtain ⟨v', h3, h4⟩ := R.dat j d' e hn h2
        exact ⟨v', by rw [List.getElem?_set_ne (Ne.symm hj)]; exact h3, old h4⟩
    · rcases set_get h1 with ⟨rfl, e⟩ | ⟨hj, e⟩
      · rw [owSet_eq] at h3; cases h3
      · rw [owSet_ne hj] at h3
        exact R.oo j d' e hn h2 h3
    · by_cases hj : j' = i
      · subst hj
        rw [owSet_eq] at h'
        cases h'
        exact (R.nt j a h).2.1.ne ha
      · rw [owSet_ne hj] at h'; exact R.ns j j' b h h'
theorem Rel.mut {K : PySem.W.Frag} {G : Gh} {ow : Ow} {σ : St} {H : Hp} {δ : DS} {i : Nat} {a : Addr} {ys : List V} {ds : List D} (R : Rel K fl G ow σ H δ) (hfl : fl[i]? = some .O) (ho : ow i = some a) (r : RAs K (okA ow) true H ys ds) :
    Rel K fl G ow σ (upd H a (.lst ys)) (δ.set i (some (.d (.list ds)))) := by
  obtain ⟨h0, hz, xs, ds0, e1, e2, e3, e4⟩ := R.own i a ho
  have na : ¬ okA ow a := fun z => z.1 i ho
  have hF : G.HF a = none := by
    rcases hz with ⟨_, z⟩ | ⟨z, _⟩
    · exact z
    · rw [hfl] at z; cases z
  have hi : i < δ.length := by
    rcases Nat.lt_or_ge i δ.length with z | z
    · exact z
    · rw [List.getElem?_eq_none z] at e4; cases e4
  refine ⟨R.s0, fun b o hb => ?_, by rw [List.length_set]; exact R.len, fun j b h => ?_, R.inj, R.pin, fun j d' h1 hn h2 => ?_, fun j d' h1 hn h2 h3 => ?_, fun j b h => ?_, R.nd, R.ns, R.np, fun j d' hn h1 => ?_⟩
  · rw [upd_ne (fun z => by subst z; rw [hF] at hb; cases hb)]
    exact R.s1 b o hb
  · by_cases hj : j = i
    · subst hj
      rw [ho] at h
      cases h
      exact ⟨h0, hz, ys, ds, e1, upd_same, r.upd e2 na, by rw [List.getElem?_set_self hi]⟩
    · obtain ⟨h0', hf', zs, ds', h1, h2, h3, h4⟩ := R.own j b h
      have hb : b ≠ a := fun z => hj (R.inj j i a (z ▸ h) ho)
      exact ⟨h0', hf', zs, ds', h1, by rw [upd_ne hb]; exact h2, h3.upd e2 na, by rw [List.getElem?_set_ne (Ne.symm hj)]; exact h4⟩
  · rcases set_get h1 with ⟨rfl, e⟩ | ⟨hj, e⟩
    · rw [ho] at h2; cases h2
    · obtain ⟨v', h3, h4⟩ := R.dat j d' e hn h2
      exact ⟨v', h3, h4.upd e2 na⟩
  · rcases set_get h1 with ⟨rfl, e⟩ | ⟨hj, e⟩
    · rw [ho] at h3; cases h3
    · exact R.oo j d' e hn h2 h3
  · obtain ⟨g1, g2, g3⟩ := R.nt j b h
    refine ⟨g1, ?_, g3⟩
    by_cases hb : b = a
    · rw [hb, upd_same]; exact ⟨_, rfl, inferInstance⟩
    · rw [upd_ne hb]; exact g2
  · rcases set_get h1 with ⟨rfl, e⟩ | ⟨hj, e⟩
    · rw [hfl] at hn; cases hn
    · obtain ⟨v', h3, h4, h5⟩ := R.nr j d' hn e
      exact ⟨v', h3, h4.upd e2 (fun z => R.ns j i a z ho), h5⟩
theorem slot_lt {K : PySem.W.Frag} {G : Gh} {ow : Ow} {σ : St} {H : Hp} {δ : DS} {i : Nat} (R : Rel K fl G ow σ H δ) (h : i < δ.length) : i < σ.length := by rw [R.len]; exact h
theorem ds_setA {i : Nat} {x : Str} {pos' : Pos} (hfl : fl[i]? = some .A) (hN : X.N.Nodup) (hi : X.N[i]? = some x) (hv : X.env.scope.names.lookup x = some .local ∨ X.env.scope.names.lookup x = some .cell) (h : DE X fl .A e f)
    (hs : swapsWith e (some (.Name x pos')) pos.line X.env = pure false := by rfl) (hfn : X.fn x = true ∨ X.env.scope.names.lookup x = some .local := by first | exact .inl rfl | exact .inr rfl) :
    DS1 X fl (.Assign [.Name x pos'] e pos) (sSetl i f) := PS.imp (ps_set (i := i) hN hi hv h hs hfn) fun Dn σ H h => by
  obtain ⟨G, ow, δ, o, R, hf, q⟩ := h
  unfold sSetl at hf
  by_cases hl : i < δ.length
  · rw [if_pos hl] at hf
    obtain ⟨d, e1, e2⟩ := bind1 hf
    cases e2
    exact ⟨G, ow, δ, d, R, e1, fun v H' s r => q ow _ H' ((R.grow s).setA hfl (slot_lt R hl) r)⟩
  · rw [if_neg hl] at hf
    cases hf
theorem ds_setO {i : Nat} {x : Str} {pos' : Pos} (hfl : fl[i]? = some .O) (hN : X.N.Nodup) (hi : X.N[i]? = some x) (hv : X.env.scope.names.lookup x = some .local ∨ X.env.scope.names.lookup x = some .cell) (h : DE X fl .F e f)
    (hs : swapsWith e (some (.Name x pos')) pos.line X.env = pure false := by rfl) (hfn : X.fn x = true ∨ X.env.scope.names.lookup x = some .local := by first | exact .inl rfl | exact .inr rfl) :
    DS1 X fl (.Assign [.Name x pos'] e pos) (sSetl i f) := PS.imp (ps_set (i := i) hN hi hv h hs hfn) fun Dn σ H h => by
  obtain ⟨G, ow, δ, o, R, hf, q⟩ := h
  unfold sSetl at hf
  by_cases hl : i < δ.length
  · rw [if_pos hl] at hf
    obtain ⟨d, e1, e2⟩ := bind1 hf
    cases e2
    refine ⟨G, ow, δ, d, R, e1, fun v H' s r => ?_⟩
    obtain ⟨ow', R'⟩ := R.setO s hfl (slot_lt R hl) r
    exact q ow' _ H' R'
  · rw [if_neg hl] at hf
    cases hf
theorem dg_name {i : Nat} {x : Str} {pos : Pos} (hfl : fl[i]? = some .A) (hN : X.N.Nodup) (hi : X.N[i]? = some x) (hv : X.env.scope.names.lookup x = some .local ∨ X.env.scope.names.lookup x = some .cell)
    (hfn : X.fn x = true ∨ X.env.scope.names.lookup x = some .local := by first | exact .inl rfl | exact .inr rfl) : DG X fl [i] (.Name x pos) (gNl i) :=
  PG.imp (pg_name (i := i) hN hi hv hfn) fun v σ H Q h => by
  obtain ⟨G, ow, δ, d, δ', R, r, hf, q⟩ := h
  unfold gNl at hf
  by_cases hl : i < δ.length
  · rw [if_pos hl] at hf
    cases hf
    exact q _ (R.setA hfl (slot_lt R hl) r) fun j hj => List.getElem?_set_ne (fun z => hj (by rw [z]; exact List.mem_singleton.mpr rfl))
  · rw [if_neg hl] at hf
    cases hf
def tDGs (K : PySem.W.Frag) (fl : List Fl) (tg : List Nat) (g : List D → DS → Option DS) : TGs := fun vs σ H Q => ∃ G ow δ ds δ', Rel K fl G ow σ H δ ∧ RAs K (okA ow) true H vs ds ∧ g ds δ = some δ' ∧ ∀ σ', Rel K fl G ow σ' H δ' → (∀ j, j ∉ tg → σ'[j]? = σ[j]?) → Q σ' H
theorem PGs.imp {t t' : TGs} (h : PGs X es t) (i : ∀ v σ H Q, t' v σ H Q → t v σ H Q) : PGs X es t' := fun pins s σ H v u Q I r q => h pins s σ H v u Q I r (i v σ H Q q)
abbrev DGs (X : Cx) (fl : List Fl) (tg : List Nat) (es : List Expr) (g : List D → DS → Option DS) : Prop := PGs X es (tDGs X.K fl tg g)
theorem dgs_nil : DGs X fl [] [] gsNil := PGs.imp pgs_nil fun vs σ H Q h => by
  obtain ⟨G, ow, δ, ds, δ', R, r, hf, q⟩ := h
  cases r with
  | nil => cases hf; exact ⟨rfl, q σ R fun _ _ => rfl⟩
  | cons _ _ => cases hf
theorem dgs_cons {tg tg' : List Nat} {g : FG} {gs : List D → DS → Option DS} (h1 : DG X fl tg e g) (h2 : DGs X fl tg' es gs) (hs : (assignEach (e :: es) X.env).map (·.2) = assign e X.env :: (assignEach es X.env).map (·.2) := by rfl) :
    DGs X fl (tg ++ tg') (e :: es) (gsCons g gs) := PGs.imp (pgs_cons h1 h2 hs) fun vs σ H Q h => by
  obtain ⟨G, ow, δ, ds, δ', R, r, hf, q⟩ := h
  cases r with
  | nil => cases hf
  | cons r1 r2 =>
    obtain ⟨δ1, e1, e2⟩ := bind1 hf
    refine ⟨_, _, rfl, G, ow, δ, _, δ1, R, r1, e1, fun σ' R' k1 => ⟨G, ow, δ1, _, δ', R', r2, e2, fun σ'' R'' k2 => q σ'' R'' fun j hj => ?_⟩⟩
    rw [k2 j fun z => hj (List.mem_append_right _ z), k1 j fun z => hj (List.mem_append_left _ z)]
theorem dg_tup {tg : List Nat} {gs : List D → DS → Option DS} {k n : Nat} (hc : X.calm = true) (h : DGs X fl tg es gs) (hn : (assignEach es X.env).length = n := by rfl) (hst : (assignEach es X.env).findIdx? (·.1) = none := by rfl) :
    DG X fl tg (.Tuple es k pos) (gTn n gs) := PG.imp (pg_tup (n := n) hc h hn hst) fun v σ H Q h => by
  obtain ⟨G, ow, δ, d, δ', R, r, hf, q⟩ := h
  unfold gTn at hf
  split at hf
  · next l =>
    by_cases z : l.length = n
    · rw [if_pos z] at hf
      obtain ⟨a, xs, rfl, hx, hr⟩ := r.tupE
      exact ⟨a, xs, rfl, hx, by rw [hr.length]; exact z, G, ow, δ, l, δ', R, hr, hf, q⟩
    · rw [if_neg z] at hf
      cases hf
  · cases hf
end
end D3
namespace D3
open PySem PySem.Spec PyProof.Rows L2 My
section
variable {X : Cx} {fl : List Fl} {e a b c : Expr} {es : List Expr} {st : Stmt} {sts body orelse : List Stmt} {k : Kd} {f fa fb fc : FE} {fs gs : FS} {ft gt : FT} {pos : Pos}
theorem own_of {K : PySem.W.Frag} {G : Gh} {ow : Ow} {σ : St} {H : Hp} {δ : DS} {i : Nat} {l : List D} (R : Rel K fl G ow σ H δ) (hfl : fl[i]? = some .O) (h : dVar i δ = some (.list l)) :
    ∃ a xs, ow i = some a ∧ σ[i]? = some (some (.ref a)) ∧ H a = some (.lst xs) ∧ RAs K (okA ow) true H xs l := by
  have e := dVar_eq h
  cases ho : ow i with
  | none =>
    have z := R.oo i _ e (by rw [hfl]; rfl) (by rw [hfl]; simp) ho
    simp [flat] at z
  | some a =>
    obtain ⟨h0, _, xs, ds, h1, h2, h3, h4⟩ := R.own i a ho
    rw [e] at h4
    cases h4
    exact ⟨a, xs, rfl, h1, h2, h3⟩
theorem ds_append {i : Nat} {x : Str} {vpos apos cpos : Pos} (hfl : fl[i]? = some .O) (h : DE X fl .A e f) (hN : X.N[i]? = some x) (hv : Vis X.env.scope x := by first | exact Or.inl rfl | exact Or.inr (Or.inl rfl) | exact Or.inr (Or.inr rfl)) (hd : (x == ("__debug__" : Str)) = false := by decide)
    (hcd : (x == ("__classdict__" : Str)) = false := by decide)
    (hs : swapsWith (.Call (.Attribute (.Name x vpos) "append" apos) [e] [] cpos) none pos.line X.env = pure false := by rfl)
    (hbase : attributeBase (.Name x vpos) "append" X.env (eval (.Name x vpos) X.env) = eval (.Name x vpos) X.env := by rfl)
    (hfew : ((backTo cpos (starEach [e] X.env)).all (fun x => !x.1) && (backToKw cpos (keywordEach [] X.env)).all (fun x => x.1.isSome)
      && decide (([e] : List Expr).length + ([] : List Keyword).length + (if ([] : List Keyword).isEmpty then 0 else 1) < 30)) = true := by rfl)
    (hline : (apos.endLine == cpos.line) = true := by rfl) (hst : starEach [e] X.env = (false, eval e X.env) :: starEach [] X.env := by rfl) (hplain : (backTo cpos (starEach [] X.env)).any (·.1) = false := by rfl) :
    DS1 X fl (.Expr (.Call (.Attribute (.Name x vpos) "append" apos) [e] [] cpos) pos) (sApp i f) :=
  PS.imp (ps_expr (pe_bm PySem.F.plainAttrs_list PySem.F.slot_list_append PySem.F.type_list_append mt_append (pe_var hN hv hd hcd) (pa_cons h pa_nil hst) hbase hfew hline hst hplain) hs) fun Dn σ H h => by
  obtain ⟨G, ow, δ, o, R, hf, q⟩ := h
  obtain ⟨x, e1, hf1⟩ := bind1 hf
  obtain ⟨d, e2, hf2⟩ := bind1 hf1
  clear hf hf1
  have hf := hf2
  clear hf2
  split at hf
  case h_2 => cases hf
  next l =>
  by_cases hl : l.length < 1000000
  · rw [if_pos hl] at hf
    cases hf
    obtain ⟨a, xs, ho, h1, h2, h3⟩ := own_of R hfl e1
    refine ⟨_, h1, .inl ⟨rfl, _, SqL.of h2⟩, G, ow, δ, d, R, e2, fun v H' s r => ?_⟩
    have R' := R.grow s
    refine ⟨a, xs, v, rfl, rfl, s _ _ h2, by rw [h3.length]; exact Nat.lt_trans hl (by decide), ?_⟩
    exact q ow σ _ (R'.mut hfl ho ((h3.same s).append (.cons r .nil)))
  · rw [if_neg hl] at hf
    cases hf
theorem ds_put {i : Nat} {x : Str} {vpos spos : Pos} {ke : Expr} {fk : FE} (hfl : fl[i]? = some .O) (h : DE X fl .A e f) (hk : DE X fl .P ke fk) (hN : X.N[i]? = some x) (hv : Vis X.env.scope x := by first | exact Or.inl rfl | exact Or.inr (Or.inl rfl) | exact Or.inr (Or.inr rfl)) (hd : (x == ("__debug__" : Str)) = false := by decide)
    (hcd : (x == ("__classdict__" : Str)) = false := by decide) (ha : ∀ v, assign (.Subscript (.Name x vpos) ke spos) X.env v = (do
      let ov ← holding [v] (eval (.Name x vpos) X.env)
      let iv ← holding [v, ov] (eval ke X.env)
      standAt spos
      holding [v, ov, iv] (setItem ov iv v)
      release [v, ov, iv] []) := by intro _; rfl)
    (hs : swapsWithSole [.Subscript (.Name x vpos) ke spos] e pos.line X.env = pure false := by rfl) (hw : swappedStores [.Subscript (.Name x vpos) ke spos] e X.env = pure none := by rfl)
    (h1 : (assignEach [.Subscript (.Name x vpos) ke spos] X.env).map (·.2) = [assign (.Subscript (.Name x vpos) ke spos) X.env] := by rfl) :
    DS1 X fl (.Assign [.Subscript (.Name x vpos) ke spos] e pos) (sPut i fk f) :=
  PS.imp (ps_asg h (pg_sub (pe_var hN hv hd hcd) hk set_list ha) hs hw h1) fun Dn σ H h => by
  obtain ⟨G, ow, δ, o, R, hf, q⟩ := h
  obtain ⟨d, e2, hf1⟩ := bind1 hf
  obtain ⟨x, e1, hf2⟩ := bind1 hf1
  obtain ⟨k, e3, hf3⟩ := bind1 hf2
  clear hf hf1 hf2
  have hf := hf3
  clear hf3
  split at hf
  case h_2 => cases hf
  next l j =>
  obtain ⟨n, e4, e5⟩ := bind1 hf
  cases e5
  obtain ⟨a, xs, ho, h1, h2, h3⟩ := own_of R hfl e1
  refine ⟨G, ow, δ, d, R, e2, fun v H' s r => ⟨_, h1, G, ow, δ, _, R.grow s, e3, fun u H2 s2 r2 => ?_⟩⟩
  obtain rfl := RA.intE r2
  have R2 := R.grow (s.trans s2)
  refine ⟨a, xs, j, n, rfl, rfl, (s.trans s2) _ _ h2, by rw [h3.length]; exact e4, ?_⟩
  exact q ow σ _ (R2.mut hfl ho (RAs.set (RA.same s2 r) n (h3.same (s.trans s2))))
def WalkD (K : PySem.W.Frag) (ow : Ow) (L : List Nat) (H1 : Hp) (J : It) (l : List D) : Prop := ∀ H2 : Hp, (∀ b o, H1 b = some o → (∀ i, ow i = some b → i ∈ L) → (∀ i, b ∉ ow.n i) → H2 b = some o) → ∀ i : Nat,
  (∀ d, l[i]? = some d → J.go i H2 ∧ ∀ x H3, J.yld i H2 x H3 → Same H2 H3 ∧ RA K (fun b => okA ow b ∧ H1 b ≠ none) true H3 x d) ∧ (l.length ≤ i → J.stop i H2)
def tDI (K : PySem.W.Frag) (fl : List Fl) (L : List Nat) (fi : FA) : TI := fun σ H R' => ∃ G ow δ l, Rel K fl G ow σ H δ ∧ fi δ = some l ∧ ∀ J H1, Same H H1 → WalkD K ow L H1 J l → R' J H1
abbrev DI (X : Cx) (fl : List Fl) (L : List Nat) (tg iter : Expr) (fi : FA) : Prop := PI X tg iter (tDI X.K fl L fi)
theorem PI.imp {tg iter : Expr} {t t' : TI} (h : PI X tg iter t) (i : ∀ σ H R', t' σ H R' → t σ H R') : PI X tg iter t' := fun pins s σ H R' I q => h pins s σ H R' I (i σ H R' q)
section
variable {K : PySem.W.Frag} {ok : Ok} {pl : Bool} {H1 H2 : Hp} {ow : Ow} {L : List Nat}
theorem nm {b : Addr} {o : HO} (hl : ∀ i b, ow i = some b → ∃ xs, H1 b = some (.lst xs)) (h : H1 b = some o) (hn : ∀ xs, o ≠ .lst xs) : ∀ i, ow i = some b → i ∈ L := fun i e => by
  obtain ⟨xs, z⟩ := hl i b e
  rw [h] at z
  exact absurd (Option.some.inj z) (hn xs)
theorem nm2 {b : Addr} {o : HO} (hl : ∀ i b, b ∈ ow.n i → Chd (H1 b)) (h : H1 b = some o) (hn : Chg o → False) : ∀ i, b ∉ ow.n i := fun i e => by
  obtain ⟨u, z, c⟩ := hl i b e
  rw [h] at z
  cases z
  exact hn c
mutual
theorem RA.keep (hk : ∀ b o, H1 b = some o → (∀ i, ow i = some b → i ∈ L) → (∀ i, b ∉ ow.n i) → H2 b = some o) (hl : ∀ i b, ow i = some b → ∃ xs, H1 b = some (.lst xs)) (hm : ∀ i b, b ∈ ow.n i → Chd (H1 b)) (ho : ∀ b, ok b → okA ow b) : ∀ {v : V} {d : D}, RA K ok pl H1 v d → RA K ok pl H2 v d
  | _, _, .non => .non
  | _, _, .bl b => .bl b
  | _, _, .int i => .int i
  | _, _, .str x => .str x
  | _, _, .lst e k q => .lst (hk _ _ e (fun i z => absurd z ((ho _ k).1 i)) (ho _ k).2) k (RAs.keep hk hl hm ho q)
  | _, _, .lsk e k q => .lsk (by
      rcases e with ⟨o, e⟩ | e
      · exact .inl ⟨o, hk _ _ e (nm hl e (by intro xs z; cases z)) (nm2 hm e Chg.frz)⟩
      · exact .inr e) k (RAs.keep hk hl hm ho q)
  | _, _, .tup e q => .tup (hk _ _ e (nm hl e (by intro xs z; cases z)) (nm2 hm e Chg.tup)) (RAs.keep hk hl hm ho q)
  | _, _, .dic e k => .dic (hk _ _ e (fun i z => absurd z ((ho _ k).1 i)) (ho _ k).2) k
  | _, _, .dik e k => .dik (hk _ _ e (nm hl e (by intro xs z; cases z)) (nm2 hm e Chg.frz)) k
theorem RAs.keep (hk : ∀ b o, H1 b = some o → (∀ i, ow i = some b → i ∈ L) → (∀ i, b ∉ ow.n i) → H2 b = some o) (hl : ∀ i b, ow i = some b → ∃ xs, H1 b = some (.lst xs)) (hm : ∀ i b, b ∈ ow.n i → Chd (H1 b)) (ho : ∀ b, ok b → okA ow b) : ∀ {v : List V} {d : List D}, RAs K ok pl H1 v d → RAs K ok pl H2 v d
  | _, _, .nil => .nil
  | _, _, .cons e q => .cons (RA.keep hk hl hm ho e) (RAs.keep hk hl hm ho q)
end
end
theorem Rel.ownL {K : PySem.W.Frag} {G : Gh} {ow : Ow} {σ : St} {H : Hp} {δ : DS} (R : Rel K fl G ow σ H δ) : ∀ i b, ow i = some b → ∃ xs, H b = some (.lst xs) := fun i b e => by
  obtain ⟨_, _, xs, _, _, h2, _⟩ := R.own i b e
  exact ⟨xs, h2⟩
theorem Rel.ownC {K : PySem.W.Frag} {G : Gh} {ow : Ow} {σ : St} {H : Hp} {δ : DS} (R : Rel K fl G ow σ H δ) : ∀ i b, b ∈ ow.n i → Chd (H b) := fun i b e => (R.nt i b e).2.1
theorem walk_B {K : PySem.W.Frag} {G : Gh} {ow : Ow} {σ : St} {H Hb : Hp} {δ : DS} {L : List Nat} {v : V} {l : List D} (R : Rel K fl G ow σ H δ) (r : Rs K G.H0 ow Hb H (.B L) v (.list l)) : ∃ a xs, v = .ref a ∧ SqL K H a xs ∧
    ∀ H2 : Hp, (∀ b o, H b = some o → (∀ i, ow i = some b → i ∈ L) → (∀ i, b ∉ ow.n i) → H2 b = some o) → SqL K H2 a xs ∧ RAs K (fun b => okA ow b ∧ H b ≠ none) true H2 xs l := by
  rcases r with r | ⟨i, hi, a, xs, ds, ho, rfl, e, hx, hr⟩
  · cases r with
    | lst e k q => exact ⟨_, _, rfl, SqL.of e, fun H2 hk => ⟨SqL.of (hk _ _ e (fun i z => absurd z (k.1 i)) k.2), RAs.keep hk R.ownL R.ownC (fun b z => z.1) q.track⟩⟩
    | lsk e k q => exact ⟨_, _, rfl, e.sq, fun H2 hk => ⟨SqK.sq (by
        rcases e with ⟨o, e⟩ | e
        · exact .inl ⟨o, hk _ _ e (nm R.ownL e (by intro xs z; cases z)) (nm2 R.ownC e Chg.frz)⟩
        · exact .inr e), RAs.keep hk R.ownL R.ownC (fun b z => z.1) q.track⟩⟩
  · cases e
    exact ⟨a, xs, rfl, SqL.of hx, fun H2 hk => ⟨SqL.of (hk _ _ hx (fun j z => by rw [R.inj j i a z ho]; exact hi) (fun j z => R.ns j i a z ho)), RAs.keep hk R.ownL R.ownC (fun b z => z.1) hr.track⟩⟩
theorem di_list {tg : Expr} {L : List Nat} (h : DE X fl (.B L) e f) : DI X fl L tg e (fLst f) := PI.imp (pi_list h) fun σ H R' h => by
  obtain ⟨G, ow, δ, l, R, hf, q⟩ := h
  obtain ⟨d, e1, e2⟩ := bind1 hf
  cases d <;> first | (cases e2; done) | skip
  cases e2
  refine ⟨G, ow, δ, _, R, e1, fun v H1 s r => ?_⟩
  obtain ⟨a, xs, rfl, hx, keep⟩ := walk_B (R.grow s) r
  refine ⟨a, rfl, ⟨xs, hx⟩, q _ _ s fun H2 k2 i => ?_⟩
  obtain ⟨k3, k4⟩ := keep H2 k2
  refine ⟨fun d hd => ?_, fun hl => ⟨xs, k3, by rw [k4.length]; exact hl⟩⟩
  obtain ⟨y, hy, ry⟩ := k4.get hd
  refine ⟨⟨xs, y, k3, hy⟩, fun x H3 hyl => ?_⟩
  obtain ⟨e, hz⟩ := hyl
  subst e
  have : some y = some x := hy.symm.trans (hz xs k3)
  cases this
  exact ⟨Same.refl _, ry⟩
theorem rngD_len (lo hi : Int) : (rngD lo hi).length = (hi - lo).toNat := by simp [rngD]
theorem walk_rng {K : PySem.W.Frag} {ow : Ow} {L : List Nat} {H1 : Hp} (lo hi : Int) : WalkD K ow L H1 (Itr lo (hi - lo).toNat) (rngD lo hi) := by
  intro H2 _ i
  refine ⟨fun d hd => ?_, fun hl => by rw [rngD_len] at hl; exact hl⟩
  unfold rngD at hd
  rw [List.getElem?_map] at hd
  by_cases hi' : i < (hi - lo).toNat
  · rw [List.getElem?_range hi'] at hd
    cases hd
    refine ⟨hi', fun x H3 hy => ?_⟩
    obtain ⟨e, e2⟩ := hy
    subst e e2
    exact ⟨Same.refl _, .int _⟩
  · rw [List.getElem?_eq_none (by simpa using hi')] at hd
    cases hd
theorem rngG_ok {i : Int} (h : rngG i = true) : -(2 ^ 62) ≤ i ∧ i < 2 ^ 62 := by
  unfold rngG at h
  rw [Bool.and_eq_true] at h
  exact ⟨of_decide_eq_true h.1, of_decide_eq_true h.2⟩
theorem di_range1 {tg : Expr} {L : List Nat} {p : Pos} {fa : FA} (hg : Gl X "range") (hm : X.mg "range" = none) (h : DA X fl [a] fa) (hs : starEach [a] X.env = [(false, eval a X.env)] := by rfl) : DI X fl L tg (.Call (.Name "range" p) [a] [] pos) (fRng1 fa) :=
  PI.imp (pi_range1 hg hm h hs) fun σ H R' h => by
  obtain ⟨G, ow, δ, l, R, hf, q⟩ := h
  obtain ⟨ds, e1, e2⟩ := bind1 hf
  split at e2
  · next j =>
    by_cases z : rngG j = true
    · rw [if_pos z] at e2
      cases e2
      refine ⟨G, ow, δ, _, R, e1, fun vs H1 s r => ?_⟩
      cases r with
      | cons r1 r2 =>
        cases r2
        obtain rfl := r1.intE
        refine ⟨j, rfl, (rngG_ok z).1, (rngG_ok z).2, ?_⟩
        have w := walk_rng (K := X.K) (ow := ow) (L := L) (H1 := H1) 0 j
        rw [Int.sub_zero] at w
        exact q _ _ s w
    · rw [if_neg z] at e2
      cases e2
  · cases e2
theorem di_range2 {tg : Expr} {L : List Nat} {p : Pos} {fa : FA} (hg : Gl X "range") (hm : X.mg "range" = none) (h : DA X fl [a, b] fa) (hs : starEach [a, b] X.env = [(false, eval a X.env), (false, eval b X.env)] := by rfl) (hs2 : starEach [b] X.env = [(false, eval b X.env)] := by rfl) :
    DI X fl L tg (.Call (.Name "range" p) [a, b] [] pos) (fRng2 fa) := PI.imp (pi_range2 hg hm h hs hs2) fun σ H R' h => by
  obtain ⟨G, ow, δ, l, R, hf, q⟩ := h
  obtain ⟨ds, e1, e2⟩ := bind1 hf
  split at e2
  · next i j =>
    by_cases z : (rngG i && rngG j) = true
    · rw [if_pos z] at e2
      cases e2
      rw [Bool.and_eq_true] at z
      refine ⟨G, ow, δ, _, R, e1, fun vs H1 s r => ?_⟩
      cases r with
      | cons r1 r2 =>
        cases r2 with
        | cons r2 r3 =>
          cases r3
          obtain rfl := r1.intE
          obtain rfl := r2.intE
          exact ⟨i, j, rfl, ⟨(rngG_ok z.1).1, (rngG_ok z.1).2, (rngG_ok z.2).1, (rngG_ok z.2).2⟩, q _ _ s (walk_rng i j)⟩
    · rw [if_neg z] at e2
      cases e2
  · cases e2
def lock (L : List Nat) (fl : List Fl) : List Fl := fl.mapIdx fun i x => if x = .O ∧ i ∈ L then .L else x
theorem lock_get {L : List Nat} {i : Nat} : (lock L fl)[i]? = (fl[i]?).map fun x => if x = .O ∧ i ∈ L then .L else x := by
  unfold lock
  rw [List.getElem?_mapIdx]
theorem lock_A {L : List Nat} {i : Nat} : (lock L fl)[i]? = some .A ↔ fl[i]? = some .A := by
  rw [lock_get]
  cases h : fl[i]? with
  | none => simp
  | some x =>
    cases x <;> simp
    by_cases z : i ∈ L <;> simp [z]
theorem lock_O {L : List Nat} {i : Nat} (h : (lock L fl)[i]? = some .O) : fl[i]? = some .O ∧ i ∉ L := by
  rw [lock_get] at h
  cases e : fl[i]? with
  | none => rw [e] at h; simp at h
  | some x =>
    rw [e] at h
    cases x <;> simp at h
    by_cases z : i ∈ L
    · simp [z] at h
    · exact ⟨rfl, z⟩
theorem lock_L {L : List Nat} {i : Nat} (h : fl[i]? = some .L) : (lock L fl)[i]? = some .L := by
  rw [lock_get, h]
  simp
theorem lock_OL {L : List Nat} {i : Nat} (h : fl[i]? = some .O) (hi : i ∈ L) : (lock L fl)[i]? = some .L := by
  rw [lock_get, h]
  simp [hi]
theorem lock_OO {L : List Nat} {i : Nat} (h : fl[i]? = some .O) (hi : i ∉ L) : (lock L fl)[i]? = some .O := by
  rw [lock_get, h]
  simp [hi]
theorem lock_N {L : List Nat} {i : Nat} : (lock L fl)[i]? = some .N ↔ fl[i]? = some .N := by
  rw [lock_get]
  cases h : fl[i]? with
  | none => simp
  | some x =>
    cases x <;> simp
    by_cases z : i ∈ L <;> simp [z]
theorem lock_M {L : List Nat} {i : Nat} : (lock L fl)[i]? = some .M ↔ fl[i]? = some .M := by
  rw [lock_get]
  cases h : fl[i]? with
  | none => simp
  | some x =>
    cases x <;> simp
    by_cases z : i ∈ L <;> simp [z]
theorem lock_isN {L : List Nat} {i : Nat} : isN (lock L fl)[i]? = isN fl[i]? := by
  rw [lock_get]
  cases h : fl[i]? with
  | none => rfl
  | some x =>
    cases x <;> simp [isN]
    by_cases z : i ∈ L <;> simp [z]
def Let (fl' : List Fl) (ow : Ow) (b : Addr) : Prop := (∃ j, ow j = some b ∧ fl'[j]? = some .O) ∨ ∃ j, b ∈ ow.n j ∧ fl'[j]? = some .N
open Classical in
noncomputable def ghL (fl' : List Fl) (G : Gh) (ow : Ow) (H : Hp) : Gh := ⟨G.H0, fun b => if Let fl' ow b then none else H b, ow, ow.n, G.tb⟩
open Classical in
theorem ghL_out {fl' : List Fl} {G : Gh} {ow : Ow} {H : Hp} {b : Addr} (h : ¬ Let fl' ow b) : (ghL fl' G ow H).HF b = H b := by
  unfold ghL
  dsimp only
  rw [if_neg h]
open Classical in
theorem ghL_in {fl' : List Fl} {G : Gh} {ow : Ow} {H : Hp} {b : Addr} (h : Let fl' ow b) : (ghL fl' G ow H).HF b = none := by
  unfold ghL
  dsimp only
  rw [if_pos h]
theorem Rel.lock {K : PySem.W.Frag} {G : Gh} {ow : Ow} {σ : St} {H : Hp} {δ : DS} (L : List Nat) (R : Rel K fl G ow σ H δ) : Rel K (lock L fl) (ghL (lock L fl) G ow H) ow σ H δ := by
  refine ⟨fun b o hb => ?_, fun b o hb => ?_, R.len, fun i a h => ?_, R.inj, fun i h => rfl, fun i d h1 hn h2 => R.dat i d h1 (by rw [lock_isN] at hn; exact hn) h2, fun i d h1 hn h2 h3 => R.oo i d h1 (by rw [lock_isN] at hn; exact hn) (fun z => h2 (lock_A.mpr z)) h3, fun i a h => ?_, R.nd, R.ns, fun i h => rfl, fun i d hn h1 => R.nr i d (by rw [lock_isN] at hn; exact hn) h1⟩
  · have hb' : G.H0 b = some o := hb
    rw [ghL_out]
    · exact R.same0 b o hb'
    · rintro (⟨j, e, _⟩ | ⟨j, e, _⟩)
      · have := (R.own j b e).1
        rw [hb'] at this
        cases this
      · have := (R.nt j b e).1
        rw [hb'] at this
        cases this
  · by_cases z : Let (D3.lock L fl) ow b
    · rw [ghL_in z] at hb; cases hb
    · rw [ghL_out z] at hb; exact hb
  · obtain ⟨h0, hf, xs, ds, h1, h2, h3, h4⟩ := R.own i a h
    refine ⟨h0, ?_, xs, ds, h1, h2, h3, h4⟩
    have out : (D3.lock L fl)[i]? = some .L → (ghL (D3.lock L fl) G ow H).HF a = H a := fun hl => ghL_out (by
      rintro (⟨j, e, hj⟩ | ⟨j, e, hj⟩)
      · rw [R.inj j i a e h, hl] at hj
        cases hj
      · exact R.ns j i a e h)
    rcases hf with ⟨hf, _⟩ | ⟨hf, _⟩
    · by_cases hi : i ∈ L
      · exact .inr ⟨lock_OL hf hi, xs, by rw [out (lock_OL hf hi)]; exact h2⟩
      · exact .inl ⟨lock_OO hf hi, ghL_in (.inl ⟨i, h, lock_OO hf hi⟩)⟩
    · exact .inr ⟨lock_L hf, xs, by rw [out (lock_L hf)]; exact h2⟩
  · obtain ⟨g1, g2, g3⟩ := R.nt i a h
    refine ⟨g1, g2, ?_⟩
    rcases g3 with ⟨z, _⟩ | z
    · exact .inl ⟨lock_N.mpr z, ghL_in (.inr ⟨i, h, lock_N.mpr z⟩)⟩
    · exact .inr (lock_M.mpr z)
theorem Rel.unlock {K : PySem.W.Frag} {G : Gh} {ow ow' : Ow} {σ σ' : St} {H H' : Hp} {δ δ' : DS} {L : List Nat} (R : Rel K fl G ow σ H δ) (R' : Rel K (D3.lock L fl) (ghL (D3.lock L fl) G ow H) ow' σ' H' δ') : Rel K fl G ow' σ' H' δ' := by
  have sub : Same G.HF (ghL (D3.lock L fl) G ow H).HF := fun b o hb => by
    rw [ghL_out]
    · exact R.s1 b o hb
    · rintro (⟨j, e, hj⟩ | ⟨j, e, hj⟩)
      · rcases (R.own j b e).2.1 with ⟨_, z⟩ | ⟨z, _⟩
        · rw [hb] at z; cases z
        · have := (lock_O hj).1
          rw [z] at this
          cases this
      · rcases (R.nt j b e).2.2 with ⟨_, z⟩ | z
        · rw [hb] at z; cases z
        · have := lock_N.mp hj
          rw [z] at this
          cases this
  refine ⟨R.s0, sub.trans R'.s1, R'.len, fun i a h => ?_, R'.inj, fun i h => ?_, fun i d h1 hn h2 => R'.dat i d h1 (by rw [lock_isN]; exact hn) h2, fun i d h1 hn h2 h3 => R'.oo i d h1 (by rw [lock_isN]; exact hn) (fun z => h2 (lock_A.mp z)) h3, fun i a h => ?_, R'.nd, R'.ns, fun i h => ?_, fun i d hn h1 => R'.nr i d (by rw [lock_isN]; exact hn) h1⟩
  · obtain ⟨h0, hf, rest⟩ := R'.own i a h
    refine ⟨h0, ?_, rest⟩
    rcases hf with ⟨hf, hz⟩ | ⟨hf, _⟩
    · exact .inl ⟨(lock_O hf).1, sub.free hz⟩
    · have e : ow' i = ow i := R'.pin i hf
      rw [e] at h
      exact (R.own i a h).2.1
  · have e : ow' i = ow i := R'.pin i (lock_L h)
    rw [e]
    exact R.pin i h
  · obtain ⟨g1, g2, g3⟩ := R'.nt i a h
    rcases g3 with ⟨z, hz⟩ | z
    · exact ⟨g1, g2, .inl ⟨lock_N.mp z, sub.free hz⟩⟩
    · exact ⟨g1, g2, .inr (lock_M.mp z)⟩
  · have e : ow'.n i = ow.n i := R'.np i (lock_M.mpr h)
    rw [e]
    exact R.np i h
theorem ds_for {tg iter : Expr} {L : List Nat} {T : List Nat} {fi : FA} {g : FG} (hp : PassesOwn (model X.prog X.w) X.A X.env X.xe) (hc : X.calm = true) (hi : DI X fl L tg iter fi) (hg : DG X (lock L fl) T tg g) (hb : DSs X (lock L fl) body fs)
    (hs : ∀ x, foldedSetIterable iter X.env x = pure x := by intro _; rfl) : DS1 X fl (.For tg iter body [] pos) (sFor fi g fs) := PS.imp (ps_for hp hc hi hg hb hs) fun Dn σ H h => by
  obtain ⟨G, ow, δ, o, R0, hf, q⟩ := h
  obtain ⟨l, e1, e2⟩ := bind1 hf
  refine ⟨G, ow, δ, l, R0, e1, fun J H1 s wk => ?_⟩
  have R1 := R0.grow s
  have RL := R1.lock L
  refine ⟨fun i m σ' H' => m = l.length - i ∧ ∃ ow' δ', Rel X.K (lock L fl) (ghL (lock L fl) G ow H1) ow' σ' H' δ' ∧ forD g fs (l.drop i) δ' = some o, ⟨_, rfl, ow, δ, RL, by simpa using e2⟩, ?_⟩
  rintro i m σ' H' ⟨rfl, ow', δ', R', hd⟩
  have kept : ∀ b o, H1 b = some o → (∀ i, ow i = some b → i ∈ L) → (∀ i, b ∉ ow.n i) → H' b = some o := fun b o hb hl hn => R'.s1 b o (by
    rw [ghL_out]
    · exact hb
    · rintro (⟨j, e, hj⟩ | ⟨j, e, _⟩)
      · exact (lock_O hj).2 (hl j e)
      · exact hn j e)
  obtain ⟨w1, w2⟩ := wk H' kept i
  by_cases hlt : i < l.length
  · have hdrop : l.drop i = l[i] :: l.drop (i + 1) := List.drop_eq_getElem_cons hlt
    rw [hdrop, forD] at hd
    obtain ⟨δ1, e3, hd⟩ := bind1 hd
    obtain ⟨o1, e4, hd⟩ := bind1 hd
    obtain ⟨go, yl⟩ := w1 l[i] (List.getElem?_eq_getElem hlt)
    refine .inr ⟨go, fun σ' H' => ∃ ow' δ', Rel X.K (lock L fl) (ghL (lock L fl) G ow H1) ow' σ' H' δ' ∧ forD g fs (l.drop (i + 1)) δ' = some o, fun σ2 H2 ⟨ow2, δ2, R2, h2⟩ => ⟨l.length - (i + 1), by omega, rfl, ow2, δ2, R2, h2⟩, fun x H3 hy => ?_⟩
    obtain ⟨s3, r3⟩ := yl x H3 hy
    have sub : ∀ b, okA ow b ∧ H1 b ≠ none → okA ow' b := fun b z => by
      obtain ⟨z1, z2⟩ := z
      refine ⟨fun j e => ?_, fun j e => ?_⟩
      · rcases (R'.own j b e).2.1 with ⟨_, hz⟩ | ⟨hz, _⟩
        · have : (ghL (lock L fl) G ow H1).HF b = H1 b := ghL_out (by rintro (⟨j', e', _⟩ | ⟨j', e', _⟩); exact z1.1 j' e'; exact z1.2 j' e')
          rw [this] at hz
          exact z2 hz
        · have e' : ow' j = ow j := R'.pin j hz
          rw [e'] at e
          exact z1.1 j e
      · rcases (R'.nt j b e).2.2 with ⟨_, hz⟩ | w
        · have : (ghL (lock L fl) G ow H1).HF b = H1 b := ghL_out (by rintro (⟨j', e', _⟩ | ⟨j', e', _⟩); exact z1.1 j' e'; exact z1.2 j' e')
          rw [this] at hz
          exact z2 hz
        · have e' : ow'.n j = ow.n j := R'.np j w
          rw [e'] at e
          exact z1.2 j e
    refine ⟨_, ow', δ', _, δ1, R'.grow s3, r3.imp sub (fun z => z), e3, fun σ4 R4 _ => ⟨_, ow', δ1, o1, R4, e4, ?_⟩⟩
    · cases o1 with
      | nx δ2 => exact fun ow2 σ2 H2 R2 => ⟨ow2, δ2, R2, hd⟩
      | ct δ2 => exact fun ow2 σ2 H2 R2 => ⟨ow2, δ2, R2, hd⟩
      | bk δ2 => cases hd; exact fun ow2 σ2 H2 R2 => q ow2 σ2 H2 (R1.unlock R2)
      | rt d => cases hd; exact q
      | ex c f v => cases hd; exact q
  · have e : l.drop i = [] := List.drop_eq_nil_of_le (by omega)
    rw [e, forD] at hd
    cases hd
    exact .inl ⟨w2 (by omega), q ow' σ' H' (R1.unlock R')⟩
theorem ds_while (hp : PassesOwn (model X.prog X.w) X.A X.env X.xe) (hc : DT X fl c ft) (hb : DSs X fl body fs) : DS1 X fl (.While c body [] pos) (sWhile ft fs) := PS.imp (ps_while hp hc hb) fun Dn σ H h => by
  obtain ⟨G, ow, δ, o, R0, hf, q⟩ := h
  obtain ⟨n, hn⟩ := sWhile_inv hf
  refine ⟨fun m σ' H' => ∃ ow' δ', Rel X.K fl G ow' σ' H' δ' ∧ whileD ft fs m δ' = some o, ⟨n, ow, δ, R0, hn⟩, ?_⟩
  rintro m σ' H' ⟨ow', δ', R', hw⟩
  cases m with
  | zero => simp [whileD] at hw
  | succ m =>
    rw [whileD] at hw
    obtain ⟨t, e1, hw⟩ := bind1 hw
    refine ⟨G, ow', δ', t, R', e1, fun H1 s => ?_⟩
    cases t with
    | false =>
      rw [if_neg Bool.false_ne_true] at hw ⊢
      cases hw
      exact q ow' σ' H1 (R'.grow s)
    | true =>
      rw [if_pos rfl] at hw ⊢
      obtain ⟨o1, e2, hw⟩ := bind1 hw
      refine ⟨fun σ2 H2 => ∃ ow2 δ2, Rel X.K fl G ow2 σ2 H2 δ2 ∧ whileD ft fs m δ2 = some o, fun σ2 H2 ⟨ow2, δ2, R2, h2⟩ => ⟨m, Nat.lt_succ_self m, ow2, δ2, R2, h2⟩, G, ow', δ', o1, R'.grow s, e2, ?_⟩
      cases o1 with
      | nx δ2 => exact fun ow2 σ2 H2 R2 => ⟨ow2, δ2, R2, hw⟩
      | ct δ2 => exact fun ow2 σ2 H2 R2 => ⟨ow2, δ2, R2, hw⟩
      | bk δ2 => cases hw; exact q
      | rt d => cases hw; exact q
      | ex c f v => cases hw; exact q
end
end D3
namespace D3
open PySem PySem.Spec PyProof.Rows L2 My
def notStar : Expr → Bool
  | .Starred _ _ => false
  | _ => true
theorem star_of {e : Expr} {es : List Expr} {env : Env} (h : notStar e = true) : starEach (e :: es) env = (false, eval e env) :: starEach es env := by
  cases e <;> first | rfl | cases h
theorem pl_of {es : List Expr} {env : Env} {pos : Pos} (h : es.all notStar = true) : (backTo pos (starEach es env)).any (·.1) = false := by
  induction es with
  | nil => rfl
  | cons e es ih =>
    rw [List.all_cons, Bool.and_eq_true] at h
    rw [star_of h.1]
    have := ih h.2
    unfold backTo at this ⊢
    rw [List.map_cons, List.any_cons, this]
    rfl
def isR : Kd → Bool
  | .P => true
  | .A => true
  | .R => true
  | .C => true
  | _ => false
def okOf (H0 : Hp) (ow : Ow) (Hb : Hp) : Kd → Ok
  | .P => ok1
  | .A => okA ow
  | .R => okN H0
  | _ => okN Hb
def plOf : Kd → Bool
  | .P => true
  | .A => true
  | _ => false
section
variable {K : PySem.W.Frag} {H0 Hb Hc H : Hp} {ow : Ow} {v : V} {d : D} {k : Kd}
theorem Rs.ra (hk : isR k = true) (h : Rs K H0 ow Hb H k v d) : RA K (okOf H0 ow Hb k) (plOf k) H v d := by
  cases k <;> first | exact h | cases hk
theorem Rs.of_ra (hk : isR k = true) (h : RA K (okOf H0 ow Hb k) (plOf k) H v d) : Rs K H0 ow Hb H k v d := by
  cases k <;> first | exact h | cases hk
theorem okOf_back (s : Same Hb Hc) (hk : isR k = true) : ∀ a, okOf H0 ow Hc k a → okOf H0 ow Hb k a := fun a z => by
  cases k <;> first | exact z | exact s.free z | cases hk
end
def tDB (K : PySem.W.Frag) (fl : List Fl) (k : Kd) (f : FA) : TA := fun σ H Q => ∃ G ow δ ds, Rel K fl G ow σ H δ ∧ f δ = some ds ∧ ∀ vs H', Same H H' → RAs K (okOf G.H0 ow H k) (plOf k) H' vs ds → Q vs H'
abbrev DB (X : Cx) (fl : List Fl) (k : Kd) (es : List Expr) (f : FA) : Prop := PA X es (tDB X.K fl k f)
section
variable {X : Cx} {fl : List Fl} {e a b c : Expr} {es rest : List Expr} {k : Kd} {f fa fb fc : FE} {ft gt : FT} {pos : Pos}
theorem db_nil : DB X fl k [] dNil := PA.imp pa_nil fun σ H Q h => by
  obtain ⟨G, ow, δ, ds, R, hf, q⟩ := h
  cases hf
  exact q [] H (Same.refl H) .nil
theorem db_cons {fr : FA} (hk : isR k = true) (h : DE X fl k e f) (hr : DB X fl k es fr) (hs : starEach (e :: es) X.env = (false, eval e X.env) :: starEach es X.env := by exact star_of rfl) : DB X fl k (e :: es) (dCons f fr) := PA.imp (pa_cons h hr hs) fun σ H Q h => by
  obtain ⟨G, ow, δ, ds, R, hf, q⟩ := h
  obtain ⟨d, e1, hf⟩ := bind1 hf
  obtain ⟨r, e2, hf⟩ := bind1 hf
  cases hf
  refine ⟨G, ow, δ, d, R, e1, fun v H1 s1 r1 => ⟨G, ow, δ, r, R.grow s1, e2, fun vs H2 s2 r2 => ?_⟩⟩
  exact q _ H2 (s1.trans s2) (.cons ((r1.ra hk).same s2) (r2.imp (okOf_back s1 hk) (fun z => z)))
theorem da_of (h : DB X fl .P es fa') : DA X fl es fa' := PA.imp h fun σ H Q h => by
  obtain ⟨G, ow, δ, ds, R, hf, q⟩ := h
  exact ⟨G, ow, δ, ds, R, hf, fun vs H' s r => q vs H' s r⟩
theorem de_tup {x1} {fa : FA} (hk : isR k = true) (h : DB X fl k es fa) : DE X fl k (.Tuple es x1 pos) (dTup fa) := PE.imp (pe_tup h) fun σ H Q h => by
  obtain ⟨G, ow, δ, d, R, hf, q⟩ := h
  obtain ⟨l, e1, e2⟩ := bind1 hf
  by_cases z : l.length ≤ sizeLine
  · rw [if_pos z] at e2
    cases e2
    refine ⟨G, ow, δ, l, R, e1, fun vs H' s r => ⟨by rw [r.length]; exact z, fun p hp => ?_⟩⟩
    have g := same_new hp (.tup vs)
    exact q _ _ (s.trans g) (Rs.of_ra hk (.tup upd_same (r.same g)))
  · rw [if_neg z] at e2
    cases e2
theorem de_lstA {fa : FA} (h : DB X fl .A es fa) : DE X fl .F (.List es pos) (dLst fa) := PE.imp (pe_lst h) fun σ H Q h => by
  obtain ⟨G, ow, δ, d, R, hf, q⟩ := h
  obtain ⟨l, e1, e2⟩ := bind1 hf
  by_cases z : l.length ≤ sizeLine
  · rw [if_pos z] at e2
    cases e2
    refine ⟨G, ow, δ, l, R, e1, fun vs H' s r => ⟨by rw [r.length]; exact z, fun p hp => ?_⟩⟩
    have g := same_new hp (.lst vs)
    exact q _ _ (s.trans g) (.inr ⟨p, vs, l, rfl, rfl, s.free hp, upd_same, (r.track.imp (fun b w => ⟨w.1, fun e => w.2 (e ▸ hp)⟩) (fun z => z)).same g⟩)
  · rw [if_neg z] at e2
    cases e2
theorem de_lstC {fa : FA} (h : DB X fl .C es fa) : DE X fl .FC (.List es pos) (dLst fa) := PE.imp (pe_lst h) fun σ H Q h => by
  obtain ⟨G, ow, δ, d, R, hf, q⟩ := h
  obtain ⟨l, e1, e2⟩ := bind1 hf
  by_cases z : l.length ≤ sizeLine
  · rw [if_pos z] at e2
    cases e2
    refine ⟨G, ow, δ, l, R, e1, fun vs H' s r => ⟨by rw [r.length]; exact z, fun p hp => ?_⟩⟩
    have g := same_new hp (.lst vs)
    exact q _ _ (s.trans g) (.inr ⟨p, vs, l, rfl, rfl, s.free hp, upd_same, (r.track.imp (fun b w => ⟨w.1, fun e => w.2 (e ▸ hp)⟩) (fun z => z)).same g⟩)
  · rw [if_neg z] at e2
    cases e2
theorem RAs.at {K : PySem.W.Frag} {ok : Ok} {pl : Bool} {H : Hp} {vs : List V} {l : List D} {i : Int} {d : D} (r : RAs K ok pl H vs l) (h : pAt l i = some d) : ∃ v, atI vs i = some v ∧ RA K ok pl H v d := by
  unfold pAt at h
  unfold atI
  obtain ⟨j, e1, e2⟩ := bind1 h
  obtain ⟨y, e3, ry⟩ := r.get e2
  exact ⟨y, by rw [r.length, show ixN l.length i = some j from e1]; exact e3, ry⟩
theorem de_ix {L : List Nat} (ha : DE X fl (.B L) a fa) (hb : DE X fl .P b fb) (hs : PlainIx b) : DE X fl .A (.Subscript a b pos) (dOp gIx fa fb) := PE.imp (pe_ix ix_seq ha hb hs) fun σ H Q h => by
  obtain ⟨G, ow, δ, d, R, hf, q⟩ := h
  obtain ⟨x, y, e1, e2, e3⟩ := bind2 hf
  refine ⟨G, ow, δ, x, R, e1, fun v H1 s1 r1 => ⟨G, ow, δ, y, R.grow s1, e2, fun u H2 s2 r2 => ?_⟩⟩
  unfold gIx at e3
  split at e3
  · next l i =>
    obtain rfl := RA.intE r2
    rcases r1 with r1 | ⟨i', _, p, xs, ds, ho, rfl, ez, hx, hr⟩
    · obtain ⟨p, xs, rfl, hx, hr⟩ := RA.lstE (RA.same s2 r1)
      obtain ⟨z, ez, rz⟩ := hr.at e3
      exact .inl ⟨p, xs, i, z, rfl, rfl, hx, ez, q z H2 (s1.trans s2) rz⟩
    · cases ez
      obtain ⟨z, ez, rz⟩ := (hr.same s2).at e3
      exact .inl ⟨p, xs, i, z, rfl, rfl, SqL.of (s2 _ _ hx), ez, q z H2 (s1.trans s2) rz⟩
  · next l i =>
    obtain rfl := RA.intE r2
    rcases r1 with r1 | ⟨i', _, p, xs, ds, ho, rfl, ez, hx, hr⟩
    · obtain ⟨p, xs, rfl, hx, hr⟩ := RA.tupE (RA.same s2 r1)
      obtain ⟨z, ez, rz⟩ := hr.at e3
      exact .inr (.inl ⟨p, xs, i, z, rfl, rfl, hx, ez, q z H2 (s1.trans s2) rz⟩)
    · cases ez
  · cases e3
theorem dw_and1 (h : DT X fl a ft) : DW X fl (.BoolOp .And [a] pos) ft := pw_and1 h
theorem dw_or1 (h : DT X fl a ft) : DW X fl (.BoolOp .Or [a] pos) ft := pw_or1 h
theorem dw_and (h1 : DT X fl a ft) (h2 : DW X fl (.BoolOp .And (b :: rest) pos) gt) : DW X fl (.BoolOp .And (a :: b :: rest) pos) (tAnd ft gt) := PW.imp (pw_and h1 h2) fun σ H Q h => by
  obtain ⟨G, ow, δ, t, R, hf, q⟩ := h
  obtain ⟨x, e1, e2⟩ := bind1 hf
  refine ⟨G, ow, δ, x, R, e1, fun H1 s1 => ?_⟩
  cases x with
  | true => exact iteT ⟨G, ow, δ, t, R.grow s1, e2, fun H2 s2 => q H2 (s1.trans s2)⟩
  | false => cases e2; exact iteF (q H1 s1)
theorem dw_or (h1 : DT X fl a ft) (h2 : DW X fl (.BoolOp .Or (b :: rest) pos) gt) : DW X fl (.BoolOp .Or (a :: b :: rest) pos) (tOr ft gt) := PW.imp (pw_or h1 h2) fun σ H Q h => by
  obtain ⟨G, ow, δ, t, R, hf, q⟩ := h
  obtain ⟨x, e1, e2⟩ := bind1 hf
  refine ⟨G, ow, δ, x, R, e1, fun H1 s1 => ?_⟩
  cases x with
  | true => cases e2; exact iteT (q H1 s1)
  | false => exact iteF ⟨G, ow, δ, t, R.grow s1, e2, fun H2 s2 => q H2 (s1.trans s2)⟩
theorem dt_w (h : DW X fl a ft) : DT X fl a ft := PW.pt h
theorem isN_eq {K : PySem.W.Frag} {ok : Ok} {pl : Bool} {H : Hp} {v : V} {d : D} (r : RA K ok pl H v d) : decide (v = .non) = isNone d := by
  cases r <;> rfl
def BrC (K : PySem.W.Frag) (r : List V → Hp → VK → Prop) (g : List D → Option D) : Prop := ∀ (H : Hp) (xs : List V) (ds : List D) (d : D) (Q : VK), RAs K ok1 true H xs ds → g ds = some d → (∀ v, flat d = true → RA K ok0 false H v d → Q v H) → r xs H Q
theorem de_blt {id : String} {r : List V → Hp → VK → Prop} {g : List D → Option D} {x : Str} {p : Pos} {fa : FA} (hc : CallR X (.builtin id) r) (hb : BrC X.K r g) (hg : Gl X x) (hm : X.mg x = none) (hv : bootBuiltins x = some (.builtin id)) (ha : DB X fl .P (e :: es) fa) (hn : x ≠ "__name__" := by decide) (hdb : (x == ("__debug__" : Str)) = false := by decide)
    (he : starEach (e :: es) X.env = (false, eval e X.env) :: starEach es X.env := by exact star_of rfl) (hpl : (backTo pos (starEach es X.env)).any (·.1) = false := by exact pl_of rfl) : DE X fl .FC (.Call (.Name x p) (e :: es) [] pos) (dCall g fa) :=
  PE.imp (pe_callB hc hg hm hv ha hn hdb he hpl) fun σ H Q h => by
  obtain ⟨G, ow, δ, d, R, hf, q⟩ := h
  obtain ⟨ds, e1, e2⟩ := bind1 hf
  exact ⟨G, ow, δ, ds, R, e1, fun vs H' s r' => hb H' vs ds d Q r' e2 fun v hv rv => q v H' s (.inl ⟨hv, rv⟩)⟩
theorem b_len {K : PySem.W.Frag} : BrC K (fun xs H Q => ∃ p ys, xs = [.ref p] ∧ (SqL K H p ys ∨ SqT K H p ys) ∧ Q (.int ys.length) H) gLen := by
  intro H xs ds d Q r e q
  unfold gLen at e
  split at e
  · next l =>
    cases e
    cases r with
    | cons r1 r2 =>
      cases r2
      obtain ⟨a, ys, rfl, hx, hr⟩ := r1.lstE
      refine ⟨a, ys, rfl, .inl hx, ?_⟩
      rw [hr.length]
      exact q _ rfl (.int _)
  · next l =>
    cases e
    cases r with
    | cons r1 r2 =>
      cases r2
      obtain ⟨a, ys, rfl, hx, hr⟩ := r1.tupE
      refine ⟨a, ys, rfl, .inr hx, ?_⟩
      rw [hr.length]
      exact q _ rfl (.int _)
  · cases e
theorem b_abs {K : PySem.W.Frag} : BrC K (fun xs H Q => ∃ i, xs = [.int i] ∧ Q (.int (if i < 0 then -i else i)) H) gAbs := by
  intro H xs ds d Q r e q
  unfold gAbs at e
  split at e
  · cases e
    cases r with
    | cons r1 r2 =>
      cases r2
      obtain rfl := r1.intE
      exact ⟨_, rfl, q _ rfl (.int _)⟩
  · cases e
theorem de_neg (h : DE X fl .P a f) : DE X fl .FC (.UnaryOp .USub a pos) (dUn gNeg f) := PE.imp (pe_un un_neg h) fun σ H Q h => by
  obtain ⟨G, ow, δ, d, R, hf, q⟩ := h
  obtain ⟨x, e1, e2⟩ := bind1 hf
  refine ⟨G, ow, δ, x, R, e1, fun v H1 s1 r1 => ?_⟩
  unfold gNeg at e2
  split at e2
  · cases e2
    obtain rfl := RA.intE r1
    exact ⟨_, rfl, q _ H1 s1 (.inl ⟨rfl, .int _⟩)⟩
  · cases e2
end
def spD (K : PySem.W.Frag) (F : List D → Option D) : Sp := fun vs H Q _ => ∃ ds d, (Tb H ∧ RAs K ok1 true H vs ds) ∧ F ds = some d ∧ ∀ v H', Same H H' → RA K (okN H) false H' v d → Q v H'
section
variable {P : Program} {w : World} {K : PySem.W.Frag} {mg : Str → Option Value} {base : Heap} {x : Str} {ps N : List Str} {st : Stmt} {k n : Nat} {fs : FS} {fl : List Fl}
theorem rel_start {vs : List V} {ds : List D} {H : Hp} (p : Nat) (hp : ∀ i, i < p → fl[i]? = some .A) (hl : ds.length = p) (hN : p ≤ N.length) (r' : Tb H ∧ RAs K ok1 true H vs ds) :
    Rel K fl ⟨H, H, fun _ => none, fun _ => [], r'.1⟩ ow0 (L2.start N vs) H (ds.map (fun d => some (.d d)) ++ List.replicate (N.length - p) none) := by
  have r := r'.2
  have hv : vs.length = p := by rw [r.length]; exact hl
  have get : ∀ i d, (ds.map (fun d => some (U.d d)) ++ List.replicate (N.length - p) none)[i]? = some (some (.d d)) → i < p ∧ ds[i]? = some d := fun i d h => by
    by_cases hi : i < p
    · rw [List.getElem?_append_left (by rw [List.length_map, hl]; exact hi), List.getElem?_map] at h
      cases e : ds[i]? with
      | none => rw [e] at h; cases h
      | some z => rw [e] at h; cases h; exact ⟨hi, rfl⟩
    · rw [List.getElem?_append_right (by rw [List.length_map, hl]; omega), List.getElem?_replicate] at h
      split at h <;> cases h
  refine ⟨Same.refl H, Same.refl H, ?_, fun i a h => (by cases h), fun i j a h => (by cases h), fun i h => rfl, fun i d h _ _ => ?_, fun i d h _ h2 _ => ?_, fun i a h => (by cases h), fun i j a h => (by cases h), fun i j a h => (by cases h), fun i h => rfl, fun i d hn h => ?_⟩
  · unfold L2.start
    simp only [List.length_append, List.length_map, List.length_replicate, hv, hl]
  · obtain ⟨hi, e⟩ := get i d h
    obtain ⟨v, e1, e2⟩ := r.get e
    refine ⟨v, ?_, e2.imp (fun _ _ => ⟨fun i z => (by cases z), fun i z => (by cases z)⟩) (fun z => z)⟩
    unfold L2.start
    rw [List.getElem?_append_left (by rw [List.length_map, hv]; exact hi), List.getElem?_map, e1]
    rfl
  · exact absurd (hp i (get i d h).1) h2
  · rw [hp i (get i d h).1] at hn
    cases hn
end
section
variable {X : Cx} {fl : List Fl} {e : Expr} {es : List Expr} {pos p : Pos} {x : Str} {ps : List Str} {n : Nat} {F : List D → Option D} {fa : FA}
theorem de_call (h : Has X.prog X.w X.K X.mg X.base n x ps (spD X.K F)) (hr : Room n X.A) (ha : DB X fl .P (e :: es) fa) (hg : Gl X x := by rfl) (hdb : (x == ("__debug__" : Str)) = false := by decide)
    (he : starEach (e :: es) X.env = (false, eval e X.env) :: starEach es X.env := by exact star_of rfl) (hpl : (backTo pos (starEach es X.env)).any (·.1) = false := by exact pl_of rfl) :
    DE X fl .C (.Call (.Name x p) (e :: es) [] pos) (dCall F fa) := PE.imp (pe_callH h hr ha hg hdb he hpl) fun σ H Q h => by
  obtain ⟨G, ow, δ, d, R, hf, q⟩ := h
  obtain ⟨ds, e1, e2⟩ := bind1 hf
  refine ⟨G, ow, δ, ds, R, e1, fun vs H' s r => ?_⟩
  show spD X.K F (vs ++ []) H' Q E0
  rw [List.append_nil]
  exact ⟨ds, d, ⟨R.tb.same s, r⟩, e2, fun v H2 s2 r2 => q v H2 (s.trans s2) (RA.imp (fun a z => s.free z) (fun z => z) r2)⟩
end
end D3
namespace D3
open PySem PySem.Spec PyProof.Rows L2 My
section
variable {X : Cx} {fl fl' : List Fl} {e a b c elt tg iter : Expr} {es ifs : List Expr} {k : Kd} {f fa fb fc : FE} {ft gt : FT} {pos : Pos} {scope : Scope} {ix L TT : List Nat} {fi : FA} {g : FG}
theorem pts_yes : PTs X [] (tDT X.K fl D3.tYes) := fun pins s σ H Q I h => by
  obtain ⟨G, ow, δ, b, R, hf, q⟩ := h
  cases hf
  exact pts_nil pins s σ H Q I (q H (Same.refl H))
theorem cap_rel {K : PySem.W.Frag} {G : Gh} {ow : Ow} {σ : St} {H H1 : Hp} {δ : DS} (t : Nat) (ix : List Nat) (hfl : ∀ i, i < t + ix.length → fl'[i]? = some .A) (R : Rel K fl G ow σ H δ) (s : Same H H1) :
    Rel K fl' ⟨H, H, fun _ => none, fun _ => [], R.tb⟩ ow0 (capσ t ix σ) H1 (capD t ix δ) := by
  have get : ∀ i d, (capD t ix δ)[i]? = some (some (.d d)) → i < t + ix.length ∧ ∃ j, ix[i - t]? = some j ∧ t ≤ i ∧ δ[j]? = some (some (.d d)) := fun i d h => by
    unfold capD at h
    by_cases hi : i < t
    · rw [List.getElem?_append_left (by rw [List.length_replicate]; exact hi), List.getElem?_replicate, if_pos hi] at h
      cases h
    · rw [List.getElem?_append_right (by rw [List.length_replicate]; omega), List.length_replicate, List.getElem?_map] at h
      cases e : ix[i - t]? with
      | none => rw [e] at h; cases h
      | some j =>
        rw [e] at h
        have hl : i - t < ix.length := by
          rcases Nat.lt_or_ge (i - t) ix.length with z | z
          · exact z
          · rw [List.getElem?_eq_none z] at e; cases e
        refine ⟨by omega, j, rfl, by omega, ?_⟩
        have h' : (δ[j]?).getD none = some (.d d) := by simpa using h
        cases q : δ[j]? with
        | none => rw [q] at h'; cases h'
        | some o => rw [q] at h'; simp at h'; rw [h']
  refine ⟨Same.refl H, s, ?_, fun i a h => (by cases h), fun i j a h => (by cases h), fun i h => rfl, fun i d h _ _ => ?_, fun i d h _ h2 _ => absurd (hfl i (get i d h).1) h2, fun i a h => (by cases h), fun i j a h => (by cases h), fun i j a h => (by cases h), fun i h => rfl, fun i d hn h => (by rw [hfl i (get i d h).1] at hn; cases hn)⟩
  · unfold capσ capD
    simp
  · obtain ⟨hi, j, ej, ht, ed⟩ := get i d h
    have key : ∃ v, σ[j]? = some (some v) ∧ RA K ok1 true H v d := by
      cases hN : isN fl[j]? with
      | true =>
        obtain ⟨v, h1, h2, _⟩ := R.nr j d hN ed
        exact ⟨v, h1, h2.ra fun _ _ => trivial⟩
      | false =>
      cases ho : ow j with
      | none =>
        obtain ⟨v, h1, h2⟩ := R.dat j d ed hN ho
        exact ⟨v, h1, h2.imp (fun _ _ => trivial) (fun z => z)⟩
      | some a =>
        obtain ⟨_, _, xs, ds, h1, h2, h3, h4⟩ := R.own j a ho
        rw [ed] at h4
        cases h4
        exact ⟨_, h1, .lst h2 trivial (h3.imp (fun _ _ => trivial) (fun z => z))⟩
    obtain ⟨v, h1, h2⟩ := key
    refine ⟨v, ?_, (h2.imp (fun _ _ => ⟨fun i z => (by cases z), fun i z => (by cases z)⟩) (fun z => z)).same s⟩
    unfold capσ
    rw [List.getElem?_append_right (by rw [List.length_replicate]; omega), List.length_replicate, List.getElem?_map, ej]
    show some ((σ[j]?).getD none) = _
    rw [h1]
    rfl
theorem comp_bridge {σ : St} {H : Hp} {Q : VK} {t : Nat} (hfl : ∀ i, i < t + ix.length → fl'[i]? = some .A) (htg : ∀ j ∈ TT, j < t)
    (h : tD X.K fl .FC (dComp fi g ft f t ix) σ H Q) : tComp (tDI X.K fl L fi) (tDG X.K fl' TT g) (tDT X.K fl' ft) (tD X.K fl' .C f) t (capσ t ix) σ H Q := by
  obtain ⟨G, ow, δ, d, R, hf, q⟩ := h
  obtain ⟨l, e1, e2⟩ := bind1 hf
  by_cases hl : l.length ≤ 100000
  case neg => rw [if_neg hl] at e2; cases e2
  rw [if_pos hl] at e2
  obtain ⟨r, e3, e4⟩ := bind1 e2
  cases e4
  refine ⟨G, ow, δ, l, R, e1, fun J H1 s1 wk Dl hD => ?_⟩
  have R1 := R.grow s1
  let okD : Ok := fun b => okN H b ∧ b ≠ Dl
  refine ⟨fun i m xs H2 => m = l.length - i ∧ H2 Dl = some (.lst xs) ∧ Same H1 H2 ∧ xs.length ≤ i ∧ i ≤ l.length ∧ ∃ ds rest, RAs X.K okD false H2 xs ds ∧ compD g ft f (capD t ix δ) (l.drop i) = some rest ∧ r = ds ++ rest,
    ⟨_, rfl, upd_same, same_new hD _, Nat.le_refl _, Nat.zero_le _, [], r, .nil, by simpa using e3, rfl⟩, ?_⟩
  rintro i m xs H2 ⟨rfl, hDl, s2, hxl, hil, ds, rest, hr, hc, rfl⟩
  refine ⟨hDl, ?_⟩
  obtain ⟨w1, w2⟩ := wk H2 (fun b o hb _ _ => s2 b o hb) i
  by_cases hlt : i < l.length
  · have hdrop : l.drop i = l[i] :: l.drop (i + 1) := List.drop_eq_getElem_cons hlt
    rw [hdrop, compD] at hc
    obtain ⟨δ1, e5, hc⟩ := bind1 hc
    obtain ⟨bb, e6, hc⟩ := bind1 hc
    obtain ⟨go, yl⟩ := w1 l[i] (List.getElem?_eq_getElem hlt)
    refine .inr ⟨go, Nat.lt_of_le_of_lt (Nat.le_trans hxl (Nat.le_trans hil hl)) (by decide), fun x H3 hy => ?_⟩
    obtain ⟨s3, r3⟩ := yl x H3 hy
    have s13 := s2.trans s3
    have Rb := (cap_rel t ix hfl R1 (Same.refl H1)).grow s13
    refine ⟨_, _, _, _, δ1, Rb, r3.imp (fun _ _ => ⟨fun i z => (by cases z), fun i z => (by cases z)⟩) (fun z => z), e5, fun σ4 R4 keep4 => ⟨?_, ?_⟩⟩
    · apply List.ext_getElem?
      intro n
      rw [List.getElem?_drop, List.getElem?_drop]
      exact keep4 (t + n) fun z => absurd (htg _ z) (by omega)
    · refine ⟨_, _, δ1, bb, R4, e6, fun H5 s5 => ?_⟩
      cases bb with
      | false =>
        rw [if_neg Bool.false_ne_true] at hc ⊢
        have s35 := s3.trans s5
        exact ⟨l.length - (i + 1), by omega, rfl, s35 _ _ hDl, s2.trans s35, by omega, hlt, ds, rest, hr.same s35, hc, rfl⟩
      | true =>
        rw [if_pos rfl] at hc ⊢
        obtain ⟨y, e7, hc⟩ := bind1 hc
        obtain ⟨l', e8, hc⟩ := bind1 hc
        cases hc
        refine ⟨_, _, δ1, y, R4.grow s5, e7, fun v H6 s6 r6 => ?_⟩
        have s35 := s3.trans s5
        have s36 := s35.trans s6
        refine ⟨s36 _ _ hDl, l.length - (i + 1), by omega, rfl, upd_same, ?_, by rw [List.length_append, List.length_singleton]; omega, hlt, ds ++ [y], l', ?_, e8, by simp⟩
        · intro b o hb
          rw [upd_ne (fun z => by subst z; rw [hD] at hb; cases hb)]
          exact (s2.trans s36) b o hb
        · have nd : ¬ okD Dl := fun z => z.2 rfl
          have s05 : Same H H5 := s1.trans (s2.trans s35)
          have ry : RA X.K okD false H6 v y := RA.imp (fun b z => ⟨s05.free z, fun e => by subst e; rw [okN, s35 _ _ hDl] at z; cases z⟩) (fun z => z) r6
          exact ((hr.same s36).append (.cons ry .nil)).upd (s36 _ _ hDl) nd
  · have ed : l.drop i = [] := List.drop_eq_nil_of_le (by omega)
    rw [ed, compD] at hc
    cases hc
    refine .inl ⟨w2 (by omega), ?_⟩
    rw [List.append_nil] at q
    exact q (.ref Dl) H2 (s1.trans s2) (.inr ⟨Dl, xs, ds, rfl, rfl, s1.free hD, hDl, hr⟩)
theorem de_comp (hc : X.calm = true) (T Vn : List Str) (ix : List Nat) (hi : DI X fl L tg iter fi)
    (hg : ∀ cl C s3 H3 fp, DG (blk X (T ++ Vn) scope cl C s3 H3 fp) fl' TT tg g) (ht : ∀ cl C s3 H3 fp, PTs (blk X (T ++ Vn) scope cl C s3 H3 fp) ifs (tDT X.K fl' ft)) (he : ∀ cl C s3 H3 fp, DE (blk X (T ++ Vn) scope cl C s3 H3 fp) fl' .C elt f)
    (hfl : ∀ i, i < T.length + ix.length → fl'[i]? = some .A := by decide) (htg : ∀ j ∈ TT, j < T.length := by decide)
    (hB : capB X.N X.env.scope.names scope.names Vn ix = true := by rfl) (hk : scope.kind = .function := by rfl) (hcell : ∀ y ∈ scope.names, y.2 ≠ .cell := by decide +kernel)
    (hnames : ∀ x ∈ scope.names, x.2 = .local → scope.names.lookup x.1 = some .local := by decide +kernel)
    (hfr : ∀ x ∈ scope.names, x.2 = .free → x.1 ∈ Vn := by decide +kernel) (hs : ∀ x, foldedSetIterable iter X.env x = pure x := by intro _; rfl) :
    DE X fl .FC (.ListComp elt [⟨tg, iter, ifs, 0⟩] scope pos) (dComp fi g ft f T.length ix) :=
  PE.imp (pe_comp hc T Vn ix hi hg ht he hB hk hcell hnames hfr hs) fun _ _ _ h => comp_bridge hfl htg h
theorem new_F {K : PySem.W.Frag} {G : Gh} {ow : Ow} {H H1 : Hp} {p : Addr} {vs : List V} {l : List D} (s : Same H H1) (hp : H1 p = none) (r : RAs K (okA ow) true H1 vs l) : Rs K G.H0 ow H (upd H1 p (.lst vs)) .F (.ref p) (.list l) :=
  .inr ⟨p, vs, l, rfl, rfl, s.free hp, upd_same, (r.track.imp (fun b w => ⟨w.1, fun e => w.2 (e ▸ hp)⟩) (fun z => z)).same (same_new hp _)⟩
theorem B_list {K : PySem.W.Frag} {H0 : Hp} {ow : Ow} {Hb H : Hp} {L : List Nat} {v : V} {l : List D} (r : Rs K H0 ow Hb H (.B L) v (.list l)) : ∃ a xs, v = .ref a ∧ SqL K H a xs ∧ RAs K (okA ow) true H xs l := by
  rcases r with r | ⟨i, hi, a, xs, ds, ho, rfl, e, hx, hr⟩
  · exact r.lstE
  · cases e
    exact ⟨a, xs, rfl, SqL.of hx, hr⟩
def rCatS (K : PySem.W.Frag) : R2 := fun x y H Q => ∃ l b xs zs, x = .ref l ∧ y = .ref b ∧ SqL K H l xs ∧ SqL K H b zs ∧ xs.length + zs.length ≤ sizeLine ∧ ∀ p, H p = none → Q (.ref p) (upd H p (.lst (xs ++ zs)))
theorem op_catS : OpR X (binaryOp .Add) (rCatS X.K) := by
  intro pins s σ H x y v u Q I rx ry h
  obtain ⟨l, b, xs, zs, rfl, rfl, hH, hB, hz, q⟩ := h
  cases rx
  cases ry
  obtain ⟨its, r, p, _⟩ := I.list hH
  obtain ⟨its2, r2, p2, _⟩ := I.list hB
  obtain ⟨⟨cls, dd, data, sl⟩, ho, hc, n, hd⟩ := p.isList
  obtain ⟨⟨cls2, dd2, data2, sl2⟩, ho2, hc2, n2, hd2⟩ := p2.isList
  simp only at hc hd hc2 hd2
  subst hc hd hc2 hd2
  have e1 := r.length
  have e2 := r2.length
  have e : its.toArray ++ its2.toArray = (its ++ its2).toArray := by simp
  refine concat_meets ⟨_, ho, rfl⟩ ⟨_, ho2, rfl⟩ noFill_list_add seq_list_add PySem.F.slot_list_add PySem.F.entry_list_add (PySem.F.args_list_add_2 _ _) (list_addW l b its.toArray its2.toArray n n2 dd dd2 sl sl2 (by simp; omega)) ⟨ho, ho2, ?_⟩
  rw [e]
  exact ⟨.ref _, _, I.lnew (t' := s.toks) (r.append r2) (by rw [List.length_append]; omega), rfl, q _ I.fresh⟩
theorem de_cat {L L' : List Nat} (h1 : DE X fl (.B L) a fa) (h2 : DE X fl (.B L') b fb) : DE X fl .F (.BinOp a .Add b pos) (dOp gCat fa fb) := PE.imp (pe_op op_catS h1 h2) fun σ H Q h => by
  obtain ⟨G, ow, δ, d, R, hf, q⟩ := h
  obtain ⟨x, y, e1, e2, e3⟩ := bind2 hf
  refine ⟨G, ow, δ, x, R, e1, fun v H1 s1 r1 => ⟨G, ow, δ, y, R.grow s1, e2, fun u H2 s2 r2 => ?_⟩⟩
  unfold gCat at e3
  split at e3
  · next l m =>
    by_cases z : l.length + m.length ≤ 1000000
    · rw [if_pos z] at e3
      cases e3
      obtain ⟨p, xs, rfl, hx, hr⟩ := B_list r1
      obtain ⟨p', ys, rfl, hy, hr'⟩ := B_list r2
      refine ⟨p, p', xs, ys, rfl, rfl, s2.seq hx, hy, ?_, fun pn hp => q _ _ ((s1.trans s2).trans (same_new hp _)) (new_F (G := G) (s1.trans s2) hp ((hr.same s2).append hr'))⟩
      rw [hr.length, hr'.length]
      exact Nat.le_trans z (by decide)
    · rw [if_neg z] at e3
      cases e3
  · cases e3
theorem de_list {L : List Nat} {p : Pos} (h : DE X fl (.B L) a f) (hg : Gl X "list") (hm : X.mg "list" = none)
    (he : starEach [a] X.env = (false, eval a X.env) :: starEach [] X.env := by rfl) (hpl : (backTo pos (starEach [] X.env)).any (·.1) = false := by rfl) : DE X fl .F (.Call (.Name "list" p) [a] [] pos) (dUn gList f) :=
  PE.imp (pe_callTy call_list_of hg hm boot_list (pa_cons h pa_nil he) (by decide) (by decide) he hpl) fun σ H Q h => by
  obtain ⟨G, ow, δ, d, R, hf, q⟩ := h
  obtain ⟨x, e1, e2⟩ := bind1 hf
  refine ⟨G, ow, δ, x, R, e1, fun v H1 s1 r1 => ?_⟩
  unfold gList at e2
  split at e2
  · cases e2
    obtain ⟨p, xs, rfl, hx, hr⟩ := B_list r1
    exact ⟨p, xs, rfl, .inl hx, fun pn hp => q _ _ (s1.trans (same_new hp _)) (new_F (G := G) s1 hp hr)⟩
  · cases e2
    rcases r1 with r1 | ⟨i, hi, a, xs, ds, ho, rfl, e, hx, hr⟩
    · obtain ⟨p, xs, rfl, hx, hr⟩ := r1.tupE
      exact ⟨p, xs, rfl, .inr hx, fun pn hp => q _ _ (s1.trans (same_new hp _)) (new_F (G := G) s1 hp hr)⟩
    · cases e
  · cases e2
def tDO (K : PySem.W.Frag) (fl : List Fl) (f : FO) : TO := fun σ H Q => ∃ G ow δ o, Rel K fl G ow σ H δ ∧ f δ = some o ∧ ∀ H', Same H H' → Q o H'
theorem PO.imp {o : Option Expr} {t t' : TO} (h : PO X o t) (i : ∀ σ H Q, t' σ H Q → t σ H Q) : PO X o t' := fun pins s σ H Q I q => h pins s σ H Q I (i σ H Q q)
theorem do_none : PO X none (tDO X.K fl oNone) := PO.imp po_none fun σ H Q h => by
  obtain ⟨G, ow, δ, o, R, hf, q⟩ := h
  cases hf
  exact q H (Same.refl H)
theorem do_part (h : DE X fl .P e f) : PO X (some e) (tDO X.K fl (oPart f)) := PO.imp (po_some h) fun σ H Q h => by
  obtain ⟨G, ow, δ, o, R, hf, q⟩ := h
  obtain ⟨d, e1, e2⟩ := bind1 hf
  split at e2
  · cases e2
    refine ⟨G, ow, δ, _, R, e1, fun v H1 s1 r1 => ?_⟩
    obtain rfl := RA.intE r1
    exact ⟨_, rfl, q H1 s1⟩
  · cases e2
theorem sIx_eq (n d : Nat) (o : Option Int) : HT.sIx n d o = pSx n d o := by
  cases o <;> rfl
theorem RAs.cut {K : PySem.W.Frag} {ok : Ok} {pl : Bool} {H : Hp} {vs : List V} {l : List D} (r : RAs K ok pl H vs l) (lo hi : Option Int) : RAs K ok pl H (cutV vs lo hi) (cutD l lo hi) := by
  unfold cutV cutD
  rw [r.length, sIx_eq, sIx_eq]
  exact (r.drop _).take _
theorem de_sl {L : List Nat} {lo hi : Option Expr} {p2 : Pos} {fl1 fh : FO} (h : DE X fl (.B L) a f) (h1 : PO X lo (tDO X.K fl fl1)) (h2 : PO X hi (tDO X.K fl fh)) : DE X fl .F (.Subscript a (.Slice lo hi none p2) pos) (dSl f fl1 fh) := PE.imp (pe_slice sl_list h h1 h2) fun σ H Q h => by
  obtain ⟨G, ow, δ, d, R, hf, q⟩ := h
  obtain ⟨x, e1, hf⟩ := bind1 hf
  obtain ⟨o1, e2, hf⟩ := bind1 hf
  obtain ⟨o2, e3, e4⟩ := bind1 hf
  refine ⟨G, ow, δ, x, R, e1, fun v H1 s1 r1 => ⟨G, ow, δ, o1, R.grow s1, e2, fun H2 s2 => ⟨G, ow, δ, o2, R.grow (s1.trans s2), e3, fun H3 s3 => ?_⟩⟩⟩
  split at e4
  · cases e4
    obtain ⟨p, xs, rfl, hx, hr⟩ := B_list r1
    have s13 := s2.trans s3
    exact ⟨p, xs, rfl, s13.seq hx, fun pn hp => q _ _ ((s1.trans s13).trans (same_new hp _)) (new_F (G := G) (s1.trans s13) hp ((hr.same s13).cut o1 o2))⟩
  · cases e4
end
end D3
namespace D3
open PySem PySem.Spec PyProof.Rows L2 My
section
variable {X : Cx} {pins : List (Addr × Obj)} {σ : St} {H : Hp} {s : Shared} {h' : Heap}
theorem Inv.turnedL {t' : Nat} {ch : List Addr} (I : Inv X pins σ H s) (k : ∀ b o, b ∉ ch → s.heap.get? b = some o → h'.get? b = some o) (hf : ∀ b ∈ ch, FpOk X pins H b) : Inv X pins σ H { s with heap := h', toks := t' } := by
  have nit : ∀ b u, H b = some u → b ∉ ch := fun b u e z => by rw [(hf b z).1] at e; cases e
  refine I.step (g' := s.gens) (d' := s.drawn) (ch := ch) (fun b hb => ?_) (fun b o _ _ hc e _ => k b o hc e) (fun b o _ _ hc e _ => ⟨o.slots, k b o hc e⟩) (fun _ _ _ _ n => n)
    (fun b o hc e => ⟨o, k b o hc e⟩) (fun _ _ e => e) (fun _ _ _ e => e) (fun _ _ _ e => e) (fun m hm => ?_) (fun b u e => ?_) I.bare
  · obtain ⟨f0, f1, f2, f3, f4, f5⟩ := hf b hb
    exact ⟨f3, f1, f4, f5⟩
  · obtain ⟨o, es, ep, ho, r⟩ := hm
    exact ⟨o, es, ep, k _ o (fun z => (hf _ z).2.1 rfl) ho, r⟩
  · refine (I.hok b u e).stay (fun c v hc q => k c v ?_ q) (fun _ q => q) fun _ _ q => q
    rcases hc with z | z
    · rw [z]; exact nit b u e
    · exact nit c _ z
end
def Ite (K : PySem.W.Frag) (a : Addr) : It :=
  ⟨fun i H => ∃ xs x, SqL K H a xs ∧ xs[i]? = some x, fun i H x H' => ∃ p y, H p = none ∧ H' = upd H p (.tup [.int i, y]) ∧ x = .ref p ∧ ∀ xs, SqL K H a xs → xs[i]? = some y, fun i H => ∃ xs, SqL K H a xs ∧ xs.length ≤ i⟩
theorem turn_enum {P : Program} {w : World} {K : PySem.W.Frag} {elts : List Expr} {x1} {tpos : Pos} (a it : Addr) :
    Turn P w K (.Tuple elts x1 tpos) (Ite K a) [it + 1, it] (it + 1) (fun i h => ∃ old, IsEnum h (it + 1) it (i : Int) old ∧ h.IsListIter it a i) where
  mem := by simp
  obj := fun i h st b hb => by
    obtain ⟨old, he, o, e, c, d⟩ := st
    rcases List.mem_cons.mp hb with z | z
    · subst z
      exact ⟨_, he, fun v z => by cases z⟩
    · have z : b = it := by simpa using z
      subst z
      exact ⟨o, e, fun v z => by rw [d] at z; cases z⟩
  keep := fun i h h' st k => by
    obtain ⟨old, he, hi⟩ := st
    exact ⟨old, k _ (by simp) _ he, hi.at fun o e => k it (by simp) o e⟩
  item := by
    intro X hP hw hK hc i pins s σ H E I hf st hg
    subst hP hw hK
    obtain ⟨xs, x, hq, hx⟩ := hg
    obtain ⟨its, rv, p, hz⟩ := I.list hq
    obtain ⟨u, hu, ru⟩ := rv.get hx
    obtain ⟨old, he, hi⟩ := st
    have fe := hf (it + 1) (by simp)
    have fi := hf it (by simp)
    have hlt : it + 1 < s.heap.objs.size := Heap.lt_size he
    refine wpAny_pyNext_enum_item he hi p.isList (x := u) (by simpa using hu) (Nat.succ_ne_self it) fun h1 ho hi1 ht hsz hk => ?_
    refine ⟨_, rfl, wpAny_letOwnedTupleGo_enum ho fun h2 he2 hs2 => ?_⟩
    replace hs2 : Heap.SameBut (it + 1) h1 h2 := hs2
    have hn : H s.heap.objs.size = none := I.hok.fresh (Nat.le_refl _)
    have I0 : Inv X pins σ (upd H s.heap.objs.size (.tup [.int (i : Int), x])) { s with heap := s.heap.push { cls := .type "tuple", data := .seq #[.int (i : Int) s.toks, u] } } :=
      I.laid (t' := s.toks) (fun b o e => Heap.get?_push_of_some _ e) (Nat.le_refl _) ⟨show 2 ≤ sizeLine by decide, [.int (i : Int) s.toks, u], .cons ⟨_, rfl⟩ (.cons ru .nil), ⟨_, Heap.get?_push_size _ rfl, rfl, _, rfl⟩⟩
    have ne : ∀ b, b ∈ [it + 1, it] → b ≠ s.heap.objs.size := fun b hb => by
      rcases List.mem_cons.mp hb with w' | w'
      · rw [w']; exact Nat.ne_of_lt hlt
      · rw [show b = it by simpa using w']; exact Nat.ne_of_lt (Nat.lt_of_succ_lt hlt)
    have I1 : Inv X pins σ (upd H s.heap.objs.size (.tup [.int (i : Int), x])) { s with heap := h2, toks := s.toks + 1 } := by
      refine Inv.turnedL (s := { s with heap := s.heap.push { cls := .type "tuple", data := .seq #[.int (i : Int) s.toks, u] } }) (ch := [it + 1, it]) I0 (fun b o hb e => ?_) fun b hb => ⟨by rw [upd_ne (ne b hb)]; exact (hf b hb).1, (hf b hb).2⟩
      have b1 : b ≠ it + 1 := fun z => hb (by simp [z])
      have b2 : b ≠ it := fun z => hb (by simp [z])
      rcases Heap.get?_push_cases e with ⟨e1, e2⟩ | e1
      · subst e1 e2
        exact (hs2.2 _ b1).trans ht
      · exact (hs2.2 _ b1).trans (hk b o b1 b2 e1)
    refine ⟨.ref s.heap.objs.size, _, I1, rfl, ⟨_, x, hn, rfl, rfl, fun ys hy => by rw [I.list_inj hy hq]; exact hx⟩, ⟨_, he2, hi1.at fun o e => (hs2.2 _ (Nat.ne_of_lt (Nat.lt_succ_self it))).trans e⟩, fun b hb => ?_⟩
    rw [upd_ne (ne b hb)]
    exact (hf b hb).1
  done := by
    intro X hP hw hK hc i pins s σ H E I hf st hg
    subst hP hw hK
    obtain ⟨xs, hq, hx⟩ := hg
    obtain ⟨its, rv, p, hz⟩ := I.list hq
    obtain ⟨old, he, hi⟩ := st
    have hl := rv.length
    refine wpAny_pyNext_enum_end (I.ok.hd hc) he hi p.isList (by simp; omega) fun h' eb => ⟨rfl, Inv.turnedL (t' := s.toks) (ch := [it + 1, it]) I (fun b o hb e => eb b o (fun z => hb (by simp [z])) e) hf⟩
  self := fun _ _ _ _ _ st h => by
    obtain ⟨old, he, _⟩ := st
    exact wpAny_pyIter_enum he h
section
variable {X : Cx} {fl : List Fl} {a : Expr} {f : FE} {pos : Pos}
def iEnum (K : PySem.W.Frag) (tl : TE) : TI := fun σ H R => tl σ H fun x H1 => ∃ a, x = .ref a ∧ (∃ xs, SqL K H1 a xs) ∧ R (Ite K a) H1
theorem pi_enum {elts : List Expr} {x1} {tpos p : Pos} {tl : TE} (hg : Gl X "enumerate") (hm : X.mg "enumerate" = none) (hl : PE X a tl) (he : starEach [a] X.env = (false, eval a X.env) :: starEach [] X.env := by rfl)
    (hpl : (backTo pos (starEach [] X.env)).any (·.1) = false := by rfl) : PI X (.Tuple elts x1 tpos) (.Call (.Name "enumerate" p) [a] [] pos) (iEnum X.K tl) := by
  intro pins s σ H R I h
  refine wpAny_Call_Name_kw (ld_blt I hg hm boot_enumerate (PyProof.Rows.callWith_type1 (thn ((pa_cons hl pa_nil he) pos pins s σ H (fun vs H1 => match vs with | [x] => ∃ a, x = .ref a ∧ (∃ xs, SqL X.K H1 a xs) ∧ R (Ite X.K a) H1 | _ => False) I h) fun us s1 ⟨vs, H1, I1, r1, q1⟩ => ?_) he hpl))
  cases r1 with
  | nil => exact q1.elim
  | cons r rr =>
    cases rr with
    | cons _ _ => exact q1.elim
    | nil =>
    obtain ⟨l, e, ⟨xs, hq⟩, q⟩ := q1
    subst e
    cases r
    obtain ⟨its, rv, pl, hz⟩ := I1.list hq
    refine call_enumerate_list pl.isList fun h' he' hi' hsz hk => ?_
    have I2 : Inv X pins σ H1 { s1 with heap := h' } := I1.kept (t' := s1.toks) hk
    refine wpAny_pyIter_enum (s := { s1 with heap := h' }) he' ?_
    refine ⟨s1.heap.objs.size + 1, [s1.heap.objs.size + 1, s1.heap.objs.size], _, _, H1, rfl, I2, turn_enum l s1.heap.objs.size, ⟨_, he', hi'⟩, fun b hb => ?_, q⟩
    have hb' : s1.heap.objs.size ≤ b := by
      rcases List.mem_cons.mp hb with z | z
      · rw [z]; exact Nat.le_succ _
      · rw [show b = s1.heap.objs.size by simpa using z]; exact Nat.le_refl _
    exact I1.fpOk hb' (I1.hok.fresh hb')
theorem di_enum {elts : List Expr} {x1} {tpos p : Pos} {L : List Nat} (h : DE X fl (.B L) a f) (hg : Gl X "enumerate") (hm : X.mg "enumerate" = none) (he : starEach [a] X.env = (false, eval a X.env) :: starEach [] X.env := by rfl)
    (hpl : (backTo pos (starEach [] X.env)).any (·.1) = false := by rfl) : DI X fl L (.Tuple elts x1 tpos) (.Call (.Name "enumerate" p) [a] [] pos) (fEnum f) := PI.imp (pi_enum hg hm h he hpl) fun σ H R' h => by
  obtain ⟨G, ow, δ, l, R, hf, q⟩ := h
  obtain ⟨d, e1, e2⟩ := bind1 hf
  cases d <;> first | (cases e2; done) | skip
  next l0 =>
  cases e2
  refine ⟨G, ow, δ, _, R, e1, fun v H1 s r => ?_⟩
  obtain ⟨a, xs, rfl, hx, keep⟩ := walk_B (R.grow s) r
  refine ⟨a, rfl, ⟨xs, hx⟩, q _ _ s fun H2 k2 i => ?_⟩
  obtain ⟨k3, k4⟩ := keep H2 k2
  refine ⟨fun d hd => ?_, fun hl => ⟨xs, k3, by rw [k4.length]; simpa [enumD] using hl⟩⟩
  have hd' : (l0[i]?).map (fun x => PyData.tuple [.int (i : Int), x]) = some d := by
    have := hd
    unfold enumD at this
    rw [List.getElem?_mapIdx] at this
    exact this
  cases e : l0[i]? with
  | none => rw [e] at hd'; cases hd'
  | some x0 =>
    rw [e] at hd'
    cases hd'
    obtain ⟨y, hy, ry⟩ := k4.get e
    refine ⟨⟨xs, y, k3, hy⟩, fun x H3 hyl => ?_⟩
    obtain ⟨p, y', hp, rfl, rfl, hz⟩ := hyl
    have : some y = some y' := hy.symm.trans (hz xs k3)
    cases this
    have g := same_new hp (.tup [.int (i : Int), y])
    exact ⟨g, .tup upd_same (.cons (.int _) (.cons (ry.same g) .nil))⟩
end
structure Bl (mg : Str → Option Value) : Prop where
  len_ : mg "len" = none
  range_ : mg "range" = none
  abs_ : mg "abs" = none
  isinstance_ : mg "isinstance" = none
  int_ : mg "int" = none
  bool_ : mg "bool" = none
  tuple_ : mg "tuple" = none
  list_ : mg "list" = none
  str_ : mg "str" = none
  max_ : mg "max" = none
  min_ : mg "min" = none
  sorted_ : mg "sorted" = none
  sum_ : mg "sum" = none
  reversed_ : mg "reversed" = none
  enumerate_ : mg "enumerate" = none
  zip_ : mg "zip" = none
  set_ : mg "set" = none
  any_ : mg "any" = none
  all_ : mg "all" = none
  dict_ : mg "dict" = none
end D3
namespace D3
open PySem PySem.Spec PyProof.Rows L2 My
structure FunD (K : PySem.W.Frag) (x : Str) (st : Stmt) (f : Addr) (fd : FuncData) : Prop where
  ex : ∃ (oc : Value) (od : Option Addr) (dV kV doc pm : Value) (an : Option Addr) (cdv ct : Value) (osl : Array (Option Value)),
    fd = PySem.W.fnOf x x (defArgs st) (defBody st) (defScope st) dV kV doc pm an cdv ct ∧ K.lookup f = some ⟨oc, od, .func fd, osl⟩ ∧ PySem.W.codeIn K cdv x = true
  kp : PySem.W.keepIn K (.ref f) = true
structure Dg (K : PySem.W.Frag) (mg : Str → Option Value) (x : Str) (st : Stmt) (ps : List Str) : Prop where
  ex : ∃ (f : Addr) (fd : FuncData), FunD K x st f fd ∧ Binds K fd ps [] ∧ mg x = some (.ref f)
theorem dg_mk {K : PySem.W.Frag} {h : Heap} {mg : Str → Option Value} {f : Addr} {oc kV dc pm cd ct : Value} {od an : Option Addr} {sl : Array (Option Value)} {x : Str} {st : Stmt} {ps : List Str} (X : K.In h) (G : h.Ns mainGlobals mg)
    (hb : ∀ (kV doc pm : Value) (an : Option Addr) (cdv ct : Value) (us : List Value), us.length = ps.length → bindArgs (PySem.W.fnOf x x (defArgs st) (defBody st) (defScope st) .none kV doc pm an cdv ct) ⟨us, []⟩ = pure (ps.zip us))
    (a : PySem.W.nsIn K mainGlobals x = some (some (.ref f))) (l : K.lookup f = some ⟨oc, od, .func (PySem.W.fnOf x x (defArgs st) (defBody st) (defScope st) .none kV dc pm an cd ct), sl⟩) (c : PySem.W.codeIn K cd x = true) (k : PySem.W.keepIn K (.ref f) = true) : Dg K mg x st ps :=
  ⟨_, _, ⟨⟨oc, od, .none, kV, dc, pm, an, cd, ct, sl, rfl, l, c⟩, k⟩, .all (hb kV dc pm an cd ct), PySem.W.mg_of X G a⟩
structure Dl (K : PySem.W.Frag) (mg : Str → Option Value) (x y : Str) (st : Stmt) : Prop where
  ex : ∃ (f : Addr) (fd : FuncData), FunD K x st f fd ∧ (∀ (s : Shared) (u : Value), BindsTo s fd ⟨[u], []⟩ [(y, u)]) ∧ mg x = some (.ref f)
theorem dl_mk {K : PySem.W.Frag} {h : Heap} {mg : Str → Option Value} {f : Addr} {oc kV dc pm cd ct : Value} {od an : Option Addr} {sl : Array (Option Value)} {x y : Str} {st : Stmt} (X : K.In h) (G : h.Ns mainGlobals mg)
    (hb : ∀ (kV doc pm : Value) (an : Option Addr) (cdv ct : Value) (u : Value), bindArgs (PySem.W.fnOf x x (defArgs st) (defBody st) (defScope st) .none kV doc pm an cdv ct) ⟨[u], []⟩ = pure [(y, u)])
    (a : PySem.W.nsIn K mainGlobals x = some (some (.ref f))) (l : K.lookup f = some ⟨oc, od, .func (PySem.W.fnOf x x (defArgs st) (defBody st) (defScope st) .none kV dc pm an cd ct), sl⟩) (c : PySem.W.codeIn K cd x = true) (k : PySem.W.keepIn K (.ref f) = true) : Dl K mg x y st :=
  ⟨_, _, ⟨⟨oc, od, .none, kV, dc, pm, an, cd, ct, sl, rfl, l, c⟩, k⟩, fun s u => .of_eq (hb kV dc pm an cd ct u), PySem.W.mg_of X G a⟩
section
variable {P : Program} {w : World} {K : PySem.W.Frag} {mg : Str → Option Value} {base : Heap} {x : Str} {ps N : List Str} {st : Stmt} {k n : Nat} {fs : FS} {fl : List Fl}
theorem FunD.ok {f : Addr} {fd : FuncData} {sp : Sp} (F : FunD K x st f fd) (S : FnScope N ps (defScope st)) (len : ∀ vs H Q E, sp vs H Q E → vs.length = ps.length)
    (hbody : ∀ (cdv : Value) (A : Around) (outer : List Env) (s : Shared) (H : Hp) (vs : List V) (Q : VK) (E : XK), Room k (A.deeper (envOfC x (defScope st) s.heap.objs.size f cdv)) → sp vs H Q E →
      ∃ t, PSs (cxOf CX0 P w K mg base N x (defScope st) f cdv A outer s H E).nox (defBody st) t ∧ t { nx := fun _ H' => Q .non H', rt := Q } (L2.start N vs) H) : FnOk P w K mg base CX0 (k + 1) f fd ps sp := by
  obtain ⟨oc, od, dV, kV, doc, pm, an, cdv, ct, osl, rfl, lk, hcd⟩ := F.ex
  refine fn_of lk hcd S len fun A outer s H vs Q E hr hsp => ?_
  obtain ⟨t, h, q⟩ := hbody cdv A outer s H vs Q E hr hsp
  exact ⟨t, h.nox, q⟩
theorem fun_ok {f : Addr} {fd : FuncData} (Fn : FunD K x st f fd) (S : FnScope N ps (defScope st)) (hp : ∀ i, i < ps.length → fl[i]? = some .A) (hN : ps.length ≤ N.length)
    (hbody : ∀ (f : Addr) (cdv : Value) (A : Around) (outer : List Env) (s : Shared) (H : Hp) (E : XK), Room k (A.deeper (envOfC x (defScope st) s.heap.objs.size f cdv)) → DSs (cx P w K mg base N x st f cdv A outer s H E) fl (defBody st) fs) :
    FnOk P w K mg base CX0 (k + 1) f fd ps (spD K (fnD ps.length (N.length - ps.length) fs)) := by
  refine Fn.ok S (fun vs H Q E h => ?_) (fun cdv A outer s H vs Q E hr h => ?_)
  · obtain ⟨ds, d, r, hf, _⟩ := h
    unfold fnD at hf
    by_cases z : ds.length = ps.length
    · rw [r.2.length]; exact z
    · rw [if_neg z] at hf; cases hf
  · obtain ⟨ds, d, r, hf, q⟩ := h
    refine ⟨_, hbody f cdv A outer s H E hr, ?_⟩
    unfold fnD at hf
    by_cases z : ds.length = ps.length
    · rw [if_pos z] at hf
      split at hf
      · next d' e =>
        cases hf
        exact ⟨_, _, _, _, rel_start ps.length hp z hN r, e, fun v H' s r => q v H' s r⟩
      · next δ' e =>
        cases hf
        exact ⟨_, _, _, _, rel_start ps.length hp z hN r, e, fun ow' σ' H' R' => q .non H' R'.same0 .non⟩
      · cases hf
    · rw [if_neg z] at hf; cases hf
theorem dg_ok (Dd : Dg K mg x st ps) (S : FnScope N ps (defScope st)) (hp : ∀ i, i < ps.length → fl[i]? = some .A) (hN : ps.length ≤ N.length)
    (hbody : ∀ (f : Addr) (cdv : Value) (A : Around) (outer : List Env) (s : Shared) (H : Hp) (E : XK), Room k (A.deeper (envOfC x (defScope st) s.heap.objs.size f cdv)) → DSs (cx P w K mg base N x st f cdv A outer s H E) fl (defBody st) fs) :
    Has P w K mg base (k + 1) x ps (spD K (fnD ps.length (N.length - ps.length) fs)) := by
  obtain ⟨f, fd, Fn, b, m⟩ := Dd.ex
  exact ⟨f, fd, fun_ok Fn S hp hN hbody, b, Fn.kp, m⟩
end
def spLaw (K : PySem.W.Frag) : Sp := fun vs H Q _ => ∃ (a : Addr) (ns : List Int), Tb H ∧ vs = [.ref a] ∧ SqL K H a (ns.map V.int) ∧ ns.length ≤ 63 ∧ ∀ H', Q (.bl true) H'
theorem ra_ints {K : PySem.W.Frag} {ok : Ok} {pl : Bool} {H : Hp} : ∀ ns : List Int, RAs K ok pl H (ns.map V.int) (ns.map PyData.int)
  | [] => .nil
  | n :: r => .cons (.int n) (ra_ints r)
theorem law_imp {K : PySem.W.Frag} {F : List D → Option D} (hF : ∀ ns : List Int, ns.length ≤ 63 → F [.list (ns.map .int)] = some (.bool true)) (vs : List V) (H : Hp) (Q : VK) (E : XK) (h : spLaw K vs H Q E) : spD K F vs H Q E := by
  obtain ⟨a, ns, tb, rfl, hS, hl, q⟩ := h
  refine ⟨_, _, ⟨tb, .cons ?_ .nil⟩, hF ns hl, fun v H' s r => ?_⟩
  · rcases hS with (h | ⟨o, h⟩) | h
    · exact .lst h trivial (ra_ints ns)
    · exact .lsk (.inl ⟨o, h⟩) rfl (ra_ints ns)
    · exact .lsk (.inr h) rfl (ra_ints ns)
  · obtain rfl := r.blE
    exact q H'
end D3
namespace D3
open PySem PySem.Spec PyProof.Rows L2 My
section
variable {prog : Program} {w : World} {A : Around} {E : Value → Shared → Prop} {s : Shared}
end
section
variable {X : Cx} {fl : List Fl} {a : Expr} {f : FE} {pos p p2 pos2 : Pos}
end
section
variable {X : Cx} {fl : List Fl} {a b : Expr} {pos p p2 pos2 : Pos} {fa : FA}
end
end D3
namespace D3
open PySem PySem.Spec PyProof.Rows L2 My
section
variable {X : Cx}
theorem ints_are : ∀ {ns : List Int} {its : List Value}, Vals (ns.map V.int) its → IntsAre its ns
  | [], _, .nil => .nil
  | n :: r, _, .cons h t => by
    obtain ⟨k, rfl⟩ := h
    exact .cons _ _ (ints_are t)
theorem intsD_ra {K : PySem.W.Frag} {ok : Ok} {pl : Bool} {H : Hp} : ∀ {l : List D} {ns : List Int} {ys : List V}, intsD l = some ns → RAs K ok pl H ys l → ys = ns.map V.int
  | [], _, _, e, .nil => by cases e; rfl
  | d :: r, ns, _, e, .cons h t => by
    cases d <;> first | (cases e; done) | skip
    obtain rfl := h.intE
    cases e2 : intsD r with
    | none => rw [intsD, e2] at e; cases e
    | some m =>
      rw [intsD, e2] at e
      cases e
      rw [intsD_ra e2 t]
      rfl
theorem b_sum {K : PySem.W.Frag} : BrC K (fun xs H Q => ∃ (p : Addr) (ns : List Int), xs = [.ref p] ∧ SqL K H p (ns.map V.int) ∧ Q (.int ns.sum) H) gSum := by
  intro H xs ds d Q r e q
  unfold gSum at e
  split at e
  · next l =>
    cases e2 : intsD l with
    | none => rw [e2] at e; cases e
    | some ns =>
      rw [e2] at e
      cases e
      cases r with
      | cons r1 r2 =>
        cases r2
        obtain ⟨a, ys, rfl, hx, hr⟩ := r1.lstE
        obtain rfl := intsD_ra e2 hr
        exact ⟨a, ns, rfl, hx, q _ rfl (.int _)⟩
  · cases e
theorem call_maxL (hc : X.calm = true) : CallR X (.builtin "max") (fun xs H Q => ∃ (p : Addr) (i : Int) (r : List Int), xs = [.ref p] ∧ SqL X.K H p ((i :: r).map V.int) ∧ Q (.int (mxI i r)) H) := by
  intro pins s σ H xs us Q I r h
  obtain ⟨p, i, r0, rfl, hx, q⟩ := h
  obtain ⟨u, rfl, rx⟩ := vals1 r
  cases rx
  obtain ⟨its, rvs, pl, hz⟩ := I.list hx
  have hi := ints_are rvs
  obtain ⟨xs, e⟩ := hi.allInts.items
  have hns : i :: r0 = xs.toList.map (·.1) := by rw [← hi.numsOf, ← nums_intItems, ← e]
  have hsz : 0 < xs.size := by
    have h3 : 0 < (i :: r0).length := by simp
    rw [hns, List.length_map, Array.length_toList] at h3; exact h3
  have hl : s.heap.IsList p (intItems xs) := e ▸ pl.isList
  refine max_intList (I.ok.hd hc) hl hsz fun v h' tk hv hk => ?_
  obtain ⟨t, rfl⟩ := intItems_at hv
  obtain ⟨h1, h2⟩ := argBest_gt (numAt xs) (xs.size - 1)
  have m1 : numAt xs (argBest (fun i j => decide (numAt xs i > numAt xs j)) (xs.size - 1)) ∈ i :: r0 := by
    rw [hns, numAt_eq]; exact getD_mem (by rw [List.length_map, Array.length_toList]; omega)
  have m2 : ∀ a ∈ i :: r0, a ≤ numAt xs (argBest (fun i j => decide (numAt xs i > numAt xs j)) (xs.size - 1)) := fun a ha => by
    rw [hns] at ha
    obtain ⟨j, hj, rfl⟩ := mem_getD ha
    rw [List.length_map, Array.length_toList] at hj
    rw [← numAt_eq]; exact h2 j (by omega)
  have sp := mxI_spec r0 i
  have eq : numAt xs (argBest (fun i j => decide (numAt xs i > numAt xs j)) (xs.size - 1)) = mxI i r0 := Int.le_antisymm (sp.2 _ m1) (m2 _ sp.1)
  rw [eq]
  exact ⟨.int _, H, I.kept hk, ⟨_, rfl⟩, q⟩
theorem b_maxL {K : PySem.W.Frag} : BrC K (fun xs H Q => ∃ (p : Addr) (i : Int) (r : List Int), xs = [.ref p] ∧ SqL K H p ((i :: r).map V.int) ∧ Q (.int (mxI i r)) H) gMaxL := by
  intro H xs ds d Q r e q
  unfold gMaxL at e
  split at e
  · next l =>
    split at e
    · next i r0 e2 =>
      cases e
      cases r with
      | cons r1 r2 =>
        cases r2
        obtain ⟨a, ys, rfl, hx, hr⟩ := r1.lstE
        obtain rfl := intsD_ra e2 hr
        exact ⟨a, i, r0, rfl, hx, q _ rfl (.int _)⟩
    · cases e
  · cases e
theorem sorted_eq : ∀ {l m : List Int}, l.Perm m → l.Pairwise (· ≤ ·) → m.Pairwise (· ≤ ·) → l = m
  | [], m, p, _, _ => p.nil_eq
  | a :: l, m, p, h1, h2 => by
    cases m with
    | nil => exact absurd p.length_eq (by simp)
    | cons b m =>
      obtain ⟨a1, a2⟩ := List.pairwise_cons.mp h1
      obtain ⟨b1, b2⟩ := List.pairwise_cons.mp h2
      have e : a = b := by
        have x1 : a ∈ b :: m := p.mem_iff.mp List.mem_cons_self
        have x2 : b ∈ a :: l := p.mem_iff.mpr List.mem_cons_self
        rcases List.mem_cons.mp x1 with z | z
        · exact z
        · rcases List.mem_cons.mp x2 with y | y
          · exact y.symm
          · exact Int.le_antisymm (a1 b y) (b1 a z)
      subst e
      rw [sorted_eq (List.Perm.cons_inv p) a2 b2]
theorem vals_ints : ∀ {ns : List Int} {its : List Value}, IntsAre its ns → Vals (ns.map V.int) its
  | _, _, .nil => .nil
  | _, _, .cons n t r => .cons ⟨t, rfl⟩ (vals_ints r)
end
end D3
namespace D3
open PySem PySem.Spec PyProof.Rows L2 My
def gK (n : Nat) (us ws : List α) : List α := if ws.length = n then us ++ ws else []
structure HasD (P : Program) (w : World) (K : PySem.W.Frag) (mg : Str → Option Value) (base : Heap) (n : Nat) (x : Str) (ps : List Str) (sp : Sp) (dvs : List V) (ks : List Str) : Prop where
  ex : ∃ (f : Addr) (fd : FuncData) (ds : List Value), FnOk P w K mg base CX0 n f fd ps sp ∧ Binds K fd ps ds ∧ Vals dvs ds ∧ KBinds K fd ps ks (gK ks.length) (gK ks.length) ∧ PySem.W.keepIn K (.ref f) = true ∧ mg x = some (.ref f)
structure DgD (K : PySem.W.Frag) (mg : Str → Option Value) (x : Str) (st : Stmt) (ps : List Str) (dvs : List V) (ks : List Str) : Prop where
  ex : ∃ (f : Addr) (fd : FuncData) (ds : List Value), FunD K x st f fd ∧ Binds K fd ps ds ∧ Vals dvs ds ∧ KBinds K fd ps ks (gK ks.length) (gK ks.length) ∧ mg x = some (.ref f)
section
variable {P : Program} {w : World} {K : PySem.W.Frag} {mg : Str → Option Value} {base : Heap} {x : Str} {ps N ks : List Str} {st : Stmt} {k n : Nat} {fs : FS} {fl : List Fl} {dvs : List V}
theorem HasD.mono {sp : Sp} (h : HasD P w K mg base k x ps sp dvs ks) (l : k ≤ n) : HasD P w K mg base n x ps sp dvs ks := by
  obtain ⟨f, fd, ds, F, b, v, kb, kp, m⟩ := h.ex
  exact ⟨f, fd, ds, F.mono l, b, v, kb, kp, m⟩
end
section
variable {X : Cx} {fl : List Fl} {e ke : Expr} {es : List Expr} {pos p kpos : Pos} {x kn : Str} {ps : List Str} {n : Nat} {F : List D → Option D} {fa : FA} {fk : FE} {i : Int} {dvs : List V}
theorem dt_isN {j pos'} {a : Expr} {f : FE} (h : DE X fl .P a f) : DT X fl (.Compare a [.Is] [.Constant .none j pos'] pos) (tBool (dUn gIsN f)) := PT.imp (pt_cmp (pc_isN h)) fun σ H Q h => by
  obtain ⟨G, ow, δ, c, R, hf, q⟩ := h
  obtain ⟨d, e1, e2⟩ := bind1 hf
  obtain ⟨x, e3, e4⟩ := bind1 e1
  cases e4
  cases e2
  refine ⟨G, ow, δ, x, R, e3, fun v H1 s1 r1 => ?_⟩
  refine ⟨decide (v = .non), rfl, ?_⟩
  rw [isN_eq (RA.same (Same.refl H1) r1)]
  exact q H1 s1
end
end D3
namespace D3
open PySem PySem.Spec PyProof.Rows L2 My
section
variable {X : Cx}
theorem bools_at : ∀ {bs : List Bool} {its : List Value}, Vals (bs.map V.bl) its → its = bs.map Value.bool
  | [], _, .nil => rfl
  | b :: r, _, .cons h t => by
    cases h
    rw [bools_at t]
    rfl
theorem all_range (bs : List Bool) : (List.range bs.length).all (fun i => bs.getD i false) = bs.all id := by
  rw [Bool.eq_iff_iff, List.all_eq_true, List.all_eq_true]
  constructor
  · intro h b hb
    obtain ⟨i, hi, rfl⟩ := List.getElem_of_mem hb
    have := h i (List.mem_range.mpr hi)
    rw [List.getD_eq_getElem?_getD, List.getElem?_eq_getElem hi] at this
    exact this
  · intro h i hi
    have hi := List.mem_range.mp hi
    rw [List.getD_eq_getElem?_getD, List.getElem?_eq_getElem hi]
    exact h _ (List.getElem_mem hi)
theorem bools_truth {prog : Program} {w : World} {A : Around} (bs : List Bool) : TruthOf prog w A (fun i v => (bs.map Value.bool).toArray[i]? = some v) (fun i => bs.getD i false) := by
  intro i v s Q E hv hQ
  have hv' : (bs.map Value.bool)[i]? = some v := by simpa using hv
  rw [List.getElem?_map] at hv'
  cases e : bs[i]? with
  | none => rw [e] at hv'; cases hv'
  | some b =>
    rw [e] at hv'
    cases hv'
    have eb : bs.getD i false = b := by rw [List.getD_eq_getElem?_getD, e]; rfl
    have hQ' : Q (bs.getD i false) s := hQ
    rw [eb] at hQ'
    exact wpAny_truthy_bool hQ'
theorem call_allL (hc : X.calm = true) : CallR X (.builtin "all") (fun xs H Q => ∃ (p : Addr) (bs : List Bool), xs = [.ref p] ∧ SqL X.K H p (bs.map V.bl) ∧ Q (.bl (bs.all id)) H) := by
  intro pins s σ H xs us Q I r h
  obtain ⟨p, bs, rfl, hx, q⟩ := h
  obtain ⟨u, rfl, rx⟩ := vals1 r
  cases rx
  obtain ⟨its, rvs, pl, hz⟩ := I.list hx
  obtain rfl := bools_at rvs
  have hl : s.heap.IsList p (bs.map Value.bool).toArray := pl.isList
  have hlt : p < s.heap.objs.size := by obtain ⟨_, e, _⟩ := id hl; exact Heap.lt_size e
  refine call_all_walk (wpAny_pyIter_list hl ?_)
  refine ⟨_, _, _, _, _, _, _, rfl, Walks.list (A := X.A.in1) (I.ok.hd hc) _ p (Nat.ne_of_lt hlt) (bs.map Value.bool).toArray, ⟨⟨_, Heap.get?_push_size _ rfl, rfl, rfl⟩, hl.push _⟩, bools_truth bs, fun h' tk hk => ?_⟩
  have e : (bs.map Value.bool).toArray.size = bs.length := by simp
  rw [e, all_range]
  exact ⟨.bl _, H, I.kept (old_kept hk), rfl, q⟩
theorem boolsD_ra {K : PySem.W.Frag} {ok : Ok} {pl : Bool} {H : Hp} : ∀ {l : List D} {bs : List Bool} {ys : List V}, boolsD l = some bs → RAs K ok pl H ys l → ys = bs.map V.bl
  | [], _, _, e, .nil => by cases e; rfl
  | d :: r, bs, _, e, .cons h t => by
    cases d <;> first | (cases e; done) | skip
    obtain rfl := h.blE
    cases e2 : boolsD r with
    | none => rw [boolsD, e2] at e; cases e
    | some m =>
      rw [boolsD, e2] at e
      cases e
      rw [boolsD_ra e2 t]
      rfl
theorem b_all {K : PySem.W.Frag} : BrC K (fun xs H Q => ∃ (p : Addr) (bs : List Bool), xs = [.ref p] ∧ SqL K H p (bs.map V.bl) ∧ Q (.bl (bs.all id)) H) gAll := by
  intro H xs ds d Q r e q
  unfold gAll at e
  split at e
  · next l =>
    cases e2 : boolsD l with
    | none => rw [e2] at e; cases e
    | some bs =>
      rw [e2] at e
      cases e
      cases r with
      | cons r1 r2 =>
        cases r2
        obtain ⟨a, ys, rfl, hx, hr⟩ := r1.lstE
        obtain rfl := boolsD_ra e2 hr
        exact ⟨a, bs, rfl, hx, q _ rfl (.bl _)⟩
  · cases e
theorem b_any {K : PySem.W.Frag} : BrC K (fun xs H Q => ∃ (p : Addr) (bs : List Bool), xs = [.ref p] ∧ SqL K H p (bs.map V.bl) ∧ Q (.bl (bs.any id)) H) gAny := by
  intro H xs ds d Q r e q
  unfold gAny at e
  split at e
  · next l =>
    cases e2 : boolsD l with
    | none => rw [e2] at e; cases e
    | some bs =>
      rw [e2] at e
      cases e
      cases r with
      | cons r1 r2 =>
        cases r2
        obtain ⟨a, ys, rfl, hx, hr⟩ := r1.lstE
        obtain rfl := boolsD_ra e2 hr
        exact ⟨a, bs, rfl, hx, q _ rfl (.bl _)⟩
  · cases e
end
section
variable {X : Cx} {fl : List Fl} {a : Expr} {f : FE} {pos : Pos} {ta : TE}
end
section
variable {X : Cx} {fl : List Fl} {a b c : Expr} {f fa fb fc : FE} {pos : Pos}
theorem dt_notN {j pos'} (h : DE X fl .P a f) : DT X fl (.Compare a [.IsNot] [.Constant .none j pos'] pos) (tBool (dUn gNotN f)) := PT.imp (pt_cmp (pc_notN h)) fun σ H Q h => by
  obtain ⟨G, ow, δ, bb, R, hf, q⟩ := h
  obtain ⟨d, hf, hd⟩ := bind1 hf
  obtain ⟨x, e1, e2⟩ := bind1 hf
  cases e2
  cases hd
  refine ⟨G, ow, δ, x, R, e1, fun v H1 s1 r1 => ?_⟩
  refine ⟨!decide (v = .non), rfl, ?_⟩
  rw [isN_eq (RA.same (Same.refl H1) r1)]
  exact q H1 s1
end
theorem zip_apart {h : Heap} {z TI TO i1 i2 l1 l2 : Addr} {k1 k2 : Nat} {f0 a b : Value} {x y : Value} {xs ys : Array Value} (hz : IsZip h z TI TO f0) (hTI : IsPair h TI x y) (hTO : IsPair h TO a b) (h1 : h.IsListIter i1 l1 k1) (h2 : h.IsListIter i2 l2 k2) (hl1 : h.IsList l1 xs) (hl2 : h.IsList l2 ys) (nT : TI ≠ TO) (ni : i1 ≠ i2) :
    ZipApart z TI TO i1 i2 l1 l2 := by
  obtain ⟨o1, e1, c1, d1⟩ := h1
  obtain ⟨o2, e2, c2, d2⟩ := h2
  obtain ⟨p1, g1, k1, m1⟩ := hl1
  obtain ⟨p2, g2, k2, m2⟩ := hl2
  have ne : ∀ {u v : Addr} {o o' : Obj}, h.get? u = some o → h.get? v = some o' → o.cls ≠ o'.cls → u ≠ v := fun e e' n z => by
    subst z
    rw [e] at e'
    cases e'
    exact n rfl
  exact ⟨ne hTI hz (by simp), ne hTO hz (by simp), ne e1 hz (by rw [c1]; simp), ne e2 hz (by rw [c2]; simp), nT, ne hTI e1 (by rw [c1]; simp), ne hTI e2 (by rw [c2]; simp), ne hTO e1 (by rw [c1]; simp), ne hTO e2 (by rw [c2]; simp), ni,
    ne g1 hz (by rw [k1]; simp), ne g1 hTO (by rw [k1]; simp), ne g1 e1 (by rw [k1, c1]; simp), ne g1 e2 (by rw [k1, c2]; simp), ne g2 hz (by rw [k2]; simp), ne g2 hTO (by rw [k2]; simp), ne g2 e1 (by rw [k2, c1]; simp), ne g2 e2 (by rw [k2, c2]; simp)⟩
section
variable {X : Cx} {fl : List Fl} {a b : Expr} {f g : FE} {pos : Pos}
theorem boot_zip : bootBuiltins "zip" = some (.type "zip") := by decide +kernel
theorem zipD_get : ∀ (l m : List D) (i : Nat), (zipD l m)[i]? = (l[i]?).bind fun x => (m[i]?).map fun y => PyData.tuple [x, y]
  | [], _, i => by simp [zipD]
  | _ :: _, [], i => by cases i <;> simp [zipD]
  | x :: l, y :: m, 0 => by simp [zipD]
  | x :: l, y :: m, i + 1 => by simp [zipD, zipD_get l m i]
theorem RsB.same {K : PySem.W.Frag} {G : Gh} {ow : Ow} {Hb H H' : Hp} {L : List Nat} {v : V} {d : D} (e : Same H H') (h : Rs K G.H0 ow Hb H (.B L) v d) : Rs K G.H0 ow Hb H' (.B L) v d := by
  rcases h with h | ⟨i, hi, a, xs, ds, h1, h2, h3, h4, h5⟩
  · exact .inl (RA.same e h)
  · exact .inr ⟨i, hi, a, xs, ds, h1, h2, h3, e _ _ h4, h5.same e⟩
end
end D3
namespace D3
open PySem PySem.Spec PyProof.Rows L2 My
theorem RTs.length {K : PySem.W.Frag} {H : Hp} : ∀ {v : List V} {d : List D} {as : List Addr}, RTs K H v d as → v.length = d.length
  | _, _, _, .nil => rfl
  | _, _, _, .cons _ q => by simp [RTs.length q]
section
variable {X : Cx} {fl : List Fl} {e a b c : Expr} {es rest : List Expr} {k : Kd} {f fa fb fc : FE} {ft gt : FT} {pos : Pos}
theorem de_dicT : DE X fl .T (.Dict [] [] pos) (dC (.dict [])) := PE.imp pe_dnewK fun σ H Q h => by
  obtain ⟨G, ow, δ, d, R, hf, q⟩ := h
  cases hf
  intro p hp
  exact q _ _ (same_new hp _) ⟨[p], .dic upd_same, List.nodup_cons.mpr ⟨List.not_mem_nil, .nil⟩, fun x hx => by rw [List.mem_singleton.mp hx]; exact hp⟩
theorem c_C_T (h : DE X fl .C e f) : DE X fl .T e (dN1 f) := de_guard h fun Hb H G ow σ δ v d hp R r => by
  obtain ⟨as, h1, h2, h3⟩ := RA.rt r
  have hl : as.length ≤ 1 := by rw [h2]; exact of_decide_eq_true hp
  refine ⟨as, h1, ?_, h3⟩
  cases as with
  | nil => exact .nil
  | cons x r =>
    cases r with
    | nil => exact List.nodup_cons.mpr ⟨List.not_mem_nil, .nil⟩
    | cons y r => simp at hl
theorem de_varP (i : Nat) (hn : isN fl[i]? = true) {x : Str} (hN : X.N[i]? = some x := by rfl) (hv : Vis X.env.scope x := by first | exact Or.inl rfl | exact Or.inr (Or.inl rfl) | exact Or.inr (Or.inr rfl)) (hd : (x == ("__debug__" : Str)) = false := by decide)
    (hcd : (x == ("__classdict__" : Str)) = false := by decide) : DE X fl .P (.Name x pos) (dVar i) := by
  refine PE.imp (pe_var hN hv hd hcd) fun σ H Q h => ?_
  obtain ⟨G, ow, δ, d, R, hf, q⟩ := h
  obtain ⟨v, h1, h2, _⟩ := R.nr i d hn (dVar_eq hf)
  exact ⟨v, h1, q v H (Same.refl H) (h2.ra fun _ _ => trivial)⟩
theorem de_varNR (i : Nat) (hn : isN fl[i]? = true) {x : Str} (hN : X.N[i]? = some x := by rfl) (hv : Vis X.env.scope x := by first | exact Or.inl rfl | exact Or.inr (Or.inl rfl) | exact Or.inr (Or.inr rfl)) (hd : (x == ("__debug__" : Str)) = false := by decide)
    (hcd : (x == ("__classdict__" : Str)) = false := by decide) : DE X fl .R (.Name x pos) (dVar i) := by
  refine PE.imp (pe_var hN hv hd hcd) fun σ H Q h => ?_
  obtain ⟨G, ow, δ, d, R, hf, q⟩ := h
  obtain ⟨v, h1, h2, _⟩ := R.nr i d hn (dVar_eq hf)
  exact ⟨v, h1, q v H (Same.refl H) (h2.ra fun a ha => (R.nt i a ha).1)⟩
theorem de_ixK (hk : isR k = true) (ha : DE X fl k a fa) (hb : DE X fl .P b fb) (hs : PlainIx b) : DE X fl k (.Subscript a b pos) (dOp gIx fa fb) := PE.imp (pe_ix ix_seq ha hb hs) fun σ H Q h => by
  obtain ⟨G, ow, δ, d, R, hf, q⟩ := h
  obtain ⟨x, y, e1, e2, e3⟩ := bind2 hf
  refine ⟨G, ow, δ, x, R, e1, fun v H1 s1 r1 => ⟨G, ow, δ, y, R.grow s1, e2, fun u H2 s2 r2 => ?_⟩⟩
  have q1 := (r1.ra hk).same s2
  unfold gIx at e3
  split at e3
  · next l i =>
    obtain rfl := RA.intE r2
    obtain ⟨p, xs, rfl, hx, hr⟩ := q1.lstE
    obtain ⟨z, ez, rz⟩ := hr.at e3
    exact .inl ⟨p, xs, i, z, rfl, rfl, hx, ez, q z H2 (s1.trans s2) (Rs.of_ra hk rz)⟩
  · next l i =>
    obtain rfl := RA.intE r2
    obtain ⟨p, xs, rfl, hx, hr⟩ := q1.tupE
    obtain ⟨z, ez, rz⟩ := hr.at e3
    exact .inr (.inl ⟨p, xs, i, z, rfl, rfl, hx, ez, q z H2 (s1.trans s2) (Rs.of_ra hk rz)⟩)
  · cases e3
end
section
variable {K : PySem.W.Frag} {fl : List Fl}
def owN (ow : Ow) (i : Nat) (as : List Addr) : Ow := ⟨ow.s, fun j => if j = i then as else ow.n j⟩
theorem owN_eq {ow : Ow} {i : Nat} {as : List Addr} : (owN ow i as).n i = as := if_pos rfl
theorem owN_ne {ow : Ow} {i j : Nat} {as : List Addr} (h : j ≠ i) : (owN ow i as).n j = ow.n j := if_neg h
theorem Rel.setN {G : Gh} {ow : Ow} {σ : St} {H H' : Hp} {δ : DS} {i : Nat} {v : V} {d : D} (R : Rel K fl G ow σ H δ) (s : Same H H') (hfl : fl[i]? = some .N) (hi : i < σ.length) (r : Rs K G.H0 ow H H' .T v d) :
    ∃ ow', Rel K fl G ow' (σ.set i (some v)) H' (δ.set i (some (.d d))) := by
  have R' := R.grow s
  obtain ⟨as, h1, h2, h3⟩ := r
  have no : ∀ a, ow i ≠ some a := fun a z => by
    obtain ⟨_, hz, _⟩ := R.own i a z
    rw [hfl] at hz
    rcases hz with ⟨z, _⟩ | ⟨z, _⟩ <;> cases z
  have sub : ∀ b, okA ow b ∧ H b ≠ none → okA (owN ow i as) b := fun b z => ⟨z.1.1, fun j e => by
    by_cases hj : j = i
    · subst hj
      rw [owN_eq] at e
      exact z.2 (h3 b e)
    · rw [owN_ne hj] at e
      exact z.1.2 j e⟩
  have old : ∀ {v : V} {d : D}, RA K (okA ow) true H v d → RA K (okA (owN ow i as)) true H' v d := fun r => (r.track.imp sub (fun z => z)).same s
  have olds : ∀ {v : List V} {d : List D}, RAs K (okA ow) true H v d → RAs K (okA (owN ow i as)) true H' v d := fun r => (r.track.imp sub (fun z => z)).same s
  refine ⟨owN ow i as, R'.s0, R'.s1, by rw [List.length_set, List.length_set]; exact R.len, fun j a h => ?_, R.inj, R.pin, fun j d' g1 gn g2 => ?_, fun j d' g1 gn g2 g3 => ?_, fun j a h => ?_, fun j j' a h h' => ?_, fun j j' a h => ?_, fun j h => ?_, fun j d' gn g1 => ?_⟩
  · have hj : j ≠ i := fun z => no a (z ▸ h)
    obtain ⟨h0, hf, xs, ds, g1, g2, g3, g4⟩ := R.own j a h
    exact ⟨h0, hf, xs, ds, by rw [List.getElem?_set_ne (Ne.symm hj)]; exact g1, s _ _ g2, olds g3, by rw [List.getElem?_set_ne (Ne.symm hj)]; exact g4⟩
  · rcases set_get g1 with ⟨rfl, e⟩ | ⟨hj, e⟩
    · rw [hfl] at gn; cases gn
    · obtain ⟨v', g3, g4⟩ := R.dat j d' e gn g2
      exact ⟨v', by rw [List.getElem?_set_ne (Ne.symm hj)]; exact g3, old g4⟩
  · rcases set_get g1 with ⟨rfl, e⟩ | ⟨hj, e⟩
    · rw [hfl] at gn; cases gn
    · exact R.oo j d' e gn g2 g3
  · by_cases hj : j = i
    · subst hj
      rw [owN_eq] at h
      exact ⟨R.same0.free (h3 a h), h1.chd a h, .inl ⟨hfl, R.s1.free (h3 a h)⟩⟩
    · rw [owN_ne hj] at h
      exact R'.nt j a h
  · by_cases hj : j = i
    · by_cases hj' : j' = i
      · rw [hj, hj']
      · subst hj
        rw [owN_eq] at h
        rw [owN_ne hj'] at h'
        exact absurd (h3 a h) (R.nt j' a h').2.1.ne
    · rw [owN_ne hj] at h
      by_cases hj' : j' = i
      · subst hj'
        rw [owN_eq] at h'
        exact absurd (h3 a h') (R.nt j a h).2.1.ne
      · rw [owN_ne hj'] at h'
        exact R.nd j j' a h h'
  · by_cases hj : j = i
    · subst hj
      rw [owN_eq] at h
      exact fun z => by
        obtain ⟨_, _, _, _, _, g2, _⟩ := R.own j' a z
        rw [h3 a h] at g2
        cases g2
    · rw [owN_ne hj] at h
      exact R.ns j j' a h
  · have hj : j ≠ i := fun z => by subst z; rw [hfl] at h; cases h
    rw [owN_ne hj]
    exact R.np j h
  · rcases set_get g1 with ⟨rfl, e⟩ | ⟨hj, e⟩
    · cases e
      exact ⟨v, by rw [List.getElem?_set_self hi], by rw [owN_eq]; exact h1, by rw [owN_eq]; exact h2⟩
    · obtain ⟨v', g3, g4⟩ := R'.nr j d' gn e
      exact ⟨v', by rw [List.getElem?_set_ne (Ne.symm hj)]; exact g3, by rw [owN_ne hj]; exact g4⟩
theorem Rel.mutN {G : Gh} {ow : Ow} {σ : St} {H : Hp} {δ : DS} {i : Nat} {a : Addr} {u u' : HO} [cu : Chg u] [cu' : Chg u'] {d : D} {v : V} {as : List Addr} (R : Rel K fl G ow σ H δ) (hfl : fl[i]? = some .N) (hi : i < δ.length) (ha : a ∈ ow.n i) (hx : H a = some u) (hv : σ[i]? = some (some v))
    (hr : RT K (upd H a u') v d as) (hs : ∀ b ∈ as, b ∈ ow.n i) (hd : as.Nodup) : ∃ ow', Rel K fl G ow' σ (upd H a u') (δ.set i (some (.d d))) := by
  have na : ¬ okA ow a := fun z => z.2 i ha
  have hF : G.HF a = none := by
    rcases (R.nt i a ha).2.2 with ⟨_, z⟩ | z
    · exact z
    · rw [hfl] at z; cases z
  have no : ∀ a, ow i ≠ some a := fun a z => by
    obtain ⟨_, hz, _⟩ := R.own i a z
    rw [hfl] at hz
    rcases hz with ⟨z, _⟩ | ⟨z, _⟩ <;> cases z
  have sub : ∀ b, okA ow b → okA (owN ow i as) b := fun b z => ⟨z.1, fun j e => by
    by_cases hj : j = i
    · subst hj
      rw [owN_eq] at e
      exact z.2 j (hs b e)
    · rw [owN_ne hj] at e
      exact z.2 j e⟩
  have tr : ∀ b, Chd (H b) → Chd (upd H a u' b) := fun b z => by
    by_cases hb : b = a
    · rw [hb, upd_same]; exact ⟨_, rfl, cu'⟩
    · rw [upd_ne hb]; exact z
  refine ⟨owN ow i as, R.s0, fun b o hb => ?_, by rw [List.length_set]; exact R.len, fun j b h => ?_, R.inj, R.pin, fun j d' g1 gn g2 => ?_, fun j d' g1 gn g2 g3 => ?_, fun j b h => ?_, fun j j' b h h' => ?_, fun j j' b h => ?_, fun j h => ?_, fun j d' gn g1 => ?_⟩
  · rw [upd_ne (fun z => by subst z; rw [hF] at hb; cases hb)]
    exact R.s1 b o hb
  · have hj : j ≠ i := fun z => no b (z ▸ h)
    obtain ⟨h0, hf, zs, ds, g1, g2, g3, g4⟩ := R.own j b h
    have hb : b ≠ a := fun z => R.ns i j a ha (z ▸ h)
    exact ⟨h0, hf, zs, ds, g1, by rw [upd_ne hb]; exact g2, (g3.upd hx na).imp sub (fun z => z), by rw [List.getElem?_set_ne (Ne.symm hj)]; exact g4⟩
  · rcases set_get g1 with ⟨rfl, e⟩ | ⟨hj, e⟩
    · rw [hfl] at gn; cases gn
    · obtain ⟨v', g3, g4⟩ := R.dat j d' e gn g2
      exact ⟨v', g3, (g4.upd hx na).imp sub (fun z => z)⟩
  · rcases set_get g1 with ⟨rfl, e⟩ | ⟨hj, e⟩
    · rw [hfl] at gn; cases gn
    · exact R.oo j d' e gn g2 g3
  · by_cases hj : j = i
    · subst hj
      rw [owN_eq] at h
      obtain ⟨g1, g2, g3⟩ := R.nt j b (hs b h)
      exact ⟨g1, tr b g2, g3⟩
    · rw [owN_ne hj] at h
      obtain ⟨g1, g2, g3⟩ := R.nt j b h
      exact ⟨g1, tr b g2, g3⟩
  · have old : ∀ j b, b ∈ (owN ow i as).n j → b ∈ ow.n j := fun j b h => by
      by_cases hj : j = i
      · subst hj; rw [owN_eq] at h; exact hs b h
      · rw [owN_ne hj] at h; exact h
    exact R.nd j j' b (old j b h) (old j' b h')
  · by_cases hj : j = i
    · subst hj; rw [owN_eq] at h; exact R.ns j j' b (hs b h)
    · rw [owN_ne hj] at h; exact R.ns j j' b h
  · have hj : j ≠ i := fun z => by subst z; rw [hfl] at h; cases h
    rw [owN_ne hj]
    exact R.np j h
  · rcases set_get g1 with ⟨rfl, e⟩ | ⟨hj, e⟩
    · cases e
      exact ⟨v, hv, by rw [owN_eq]; exact hr, by rw [owN_eq]; exact hd⟩
    · obtain ⟨v', g3, g4, g5⟩ := R.nr j d' gn e
      exact ⟨v', g3, by rw [owN_ne hj]; exact g4.upd hx (fun z => hj (R.nd j i a z ha)), by rw [owN_ne hj]; exact g5⟩
end
section
variable {K : PySem.W.Frag} {H : Hp}
theorem RTs.snoc {w : V} {d : D} (r : RT K H w d []) : ∀ {vs : List V} {ds : List D} {as : List Addr}, RTs K H vs ds as → RTs K H (vs ++ [w]) (ds ++ [d]) as
  | _, _, _, .nil => by
    have := RTs.cons r (.nil (K := K) (H := H))
    simpa using this
  | _, _, _, .cons e q => .cons e (RTs.snoc r q)
end
section
variable {X : Cx} {fl : List Fl} {e ke : Expr} {f fk : FE} {pos : Pos}
theorem ds_setN {i : Nat} {x : Str} {pos' : Pos} (hfl : fl[i]? = some .N) (hN : X.N.Nodup) (hi : X.N[i]? = some x) (hv : X.env.scope.names.lookup x = some .local ∨ X.env.scope.names.lookup x = some .cell) (h : DE X fl .T e f)
    (hs : swapsWith e (some (.Name x pos')) pos.line X.env = pure false := by rfl) (hfn : X.fn x = true ∨ X.env.scope.names.lookup x = some .local := by first | exact .inl rfl | exact .inr rfl) :
    DS1 X fl (.Assign [.Name x pos'] e pos) (sSetl i f) := PS.imp (ps_set (i := i) hN hi hv h hs hfn) fun Dn σ H h => by
  obtain ⟨G, ow, δ, o, R, hf, q⟩ := h
  unfold sSetl at hf
  by_cases hl : i < δ.length
  · rw [if_pos hl] at hf
    obtain ⟨d, e1, e2⟩ := bind1 hf
    cases e2
    refine ⟨G, ow, δ, d, R, e1, fun v H' s r => ?_⟩
    obtain ⟨ow', R'⟩ := R.setN s hfl (slot_lt R hl) r
    exact q ow' _ H' R'
  · rw [if_neg hl] at hf
    cases hf
end
end D3
namespace D3
open PySem
def qM (g : List D → Option (List D)) (i : Nat) (x : Option D) (δ : DS) : Option Oc := match x with
  | some (.list l) => match g l with
    | some m => some (.nx (δ.set i (some (.d (.list m)))))
    | none => none
  | _ => none
def sRev (i : Nat) : FS := fun δ => qM (fun l => some l.reverse) i (dVar i δ) δ
def iiD : List (D × D) → Option (List (Int × Int))
  | [] => some []
  | (.int i, .int j) :: r => (iiD r).map ((i, j) :: ·)
  | _ => none
def gTupL : D → Option D
  | .list l => some (.tuple l)
  | .tuple l => some (.tuple l)
  | _ => none
theorem n_tupl {l : List D} : gTupL (.list l) = some (.tuple l) := rfl
theorem v_rev {i : Nat} {δ : DS} : sRev i δ = qM (fun l => some l.reverse) i (dVar i δ) δ := rfl
def qRv (x : Option D) : Option (List D) := x.bind fun x => match x with
  | .list l => some l.reverse
  | _ => none
def clr (T : List Nat) (δ : DS) : DS := δ.mapIdx fun i x => if i ∈ T then none else x
end D3
namespace D3
open PySem PySem.Spec PyProof.Rows L2 My
section
variable {X : Cx}
end
section
variable {X : Cx} {fl : List Fl} {e ke : Expr} {f fk : FE} {pos : Pos}
end
section
variable {X : Cx} {fl : List Fl} {a : Expr} {pos p p2 pos2 : Pos} {fa : FA}
end
end D3
namespace D3
open PySem PySem.Spec PyProof.Rows L2 My
section
variable {X : Cx} {pins : List (Addr × Obj)} {σ : L2.St} {H : Hp} {s : Shared}
theorem dk0_ii : ∀ {kvs : List (D × D)} {qs : List (Int × Int)}, iiD kvs = some qs → dk0 kvs = qs.map fun q => (.inl q.1, .int q.2)
  | [], _, e => by cases e; rfl
  | (k, v) :: r, qs, e => by
    unfold iiD at e
    split at e
    · next h => cases h
    · next i j r' h =>
      cases h
      cases e3 : iiD r with
      | none => rw [e3] at e; cases e
      | some q2 =>
        rw [e3] at e
        cases e
        rw [dk0, dk0_ii e3]
        rfl
    · cases e
theorem dh0_ii {kvs : List (D × D)} {qs : List (Int × Int)} (h : iiD kvs = some qs) : dh0 kvs = .dK (dk0 kvs) := by
  cases kvs with
  | nil => rfl
  | cons q r =>
    obtain ⟨k, v⟩ := q
    unfold dh0
    cases k with
    | int i => rfl
    | _ => unfold iiD at h; cases h
theorem kv_ints : ∀ {qs : List (Int × Int)} {vs : List (Key × Value)}, KV (qs.map fun q => ((.inl q.1, .int q.2) : Key × V)) vs → vs.map (·.1) = qs.map (fun q => .inl q.1) ∧ ∀ k v, (k, v) ∈ vs → ∃ i j t, k = .inl i ∧ v = .int j t ∧ (i, j) ∈ qs
  | [], _, h => by cases h; exact ⟨rfl, fun _ _ h => by cases h⟩
  | q :: qs, _, h => by
    cases h with
    | cons h1 h2 =>
      rename_i b bs
      obtain ⟨e1, e2⟩ := kv_ints h2
      obtain ⟨e3, e4⟩ := h1
      obtain ⟨t, e4⟩ := e4
      refine ⟨by rw [List.map_cons, List.map_cons, e1, ← e3], fun k v hm => ?_⟩
      rcases List.mem_cons.mp hm with z | z
      · subst z
        exact ⟨q.1, q.2, t, e3.symm, e4, List.mem_cons_self⟩
      · obtain ⟨i, j, t', z1, z2, z3⟩ := e2 k v z
        exact ⟨i, j, t', z1, z2, List.mem_cons_of_mem _ z3⟩
end
section
variable {X : Cx} {K : PySem.W.Frag}
end
section
variable {X : Cx} {fl : List Fl} {es : List Expr} {pos : Pos}
end
section
variable {X : Cx} {fl : List Fl} {e : Expr} {f : FE}
end
section
variable {X : Cx} {fl : List Fl} {a : Expr} {f : FE} {pos p : Pos}
theorem de_tupL {L : List Nat} (h : DE X fl (.B L) a f) (hg : Gl X "tuple") (hm : X.mg "tuple" = none)
    (he : starEach [a] X.env = (false, eval a X.env) :: starEach [] X.env := by exact star_of rfl) (hpl : (backTo pos (starEach [] X.env)).any (·.1) = false := by rfl) : DE X fl .A (.Call (.Name "tuple" p) [a] [] pos) (dUn gTupL f) :=
  PE.imp (pe_callTy call_tuple_of hg hm boot_tuple (pa_cons h pa_nil he) (by decide) (by decide) he hpl) fun σ H Q h => by
  obtain ⟨G, ow, δ, d, R, hf, q⟩ := h
  obtain ⟨x, e1, e2⟩ := bind1 hf
  refine ⟨G, ow, δ, x, R, e1, fun v H1 s1 r1 => ?_⟩
  unfold gTupL at e2
  split at e2
  · cases e2
    obtain ⟨p, xs, rfl, hx, hr⟩ := B_list r1
    exact ⟨p, xs, rfl, .inl ⟨hx, fun pn hp => q _ _ (s1.trans (same_new hp _)) (.tup upd_same (hr.same (same_new hp _)))⟩⟩
  · cases e2
    rcases r1 with r1 | ⟨i, hi, a, xs, ds, ho, rfl, e, hx, hr⟩
    · obtain ⟨p, xs, rfl, hx, hr⟩ := r1.tupE0
      exact ⟨p, xs, rfl, .inr ⟨hx.sq, q _ _ s1 (.tup hx hr)⟩⟩
    · cases e
  · cases e2
theorem de_tupC (h : DE X fl .C a f) (hg : Gl X "tuple") (hm : X.mg "tuple" = none)
    (he : starEach [a] X.env = (false, eval a X.env) :: starEach [] X.env := by exact star_of rfl) (hpl : (backTo pos (starEach [] X.env)).any (·.1) = false := by rfl) : DE X fl .C (.Call (.Name "tuple" p) [a] [] pos) (dUn gTupL f) :=
  PE.imp (pe_callTy call_tuple_of hg hm boot_tuple (pa_cons h pa_nil he) (by decide) (by decide) he hpl) fun σ H Q h => by
  obtain ⟨G, ow, δ, d, R, hf, q⟩ := h
  obtain ⟨x, e1, e2⟩ := bind1 hf
  refine ⟨G, ow, δ, x, R, e1, fun v H1 s1 r1 => ?_⟩
  unfold gTupL at e2
  split at e2
  · cases e2
    obtain ⟨p, xs, rfl, hx, hr⟩ := RA.lstE r1
    exact ⟨p, xs, rfl, .inl ⟨hx, fun pn hp => q _ _ (s1.trans (same_new hp _)) (.tup upd_same (hr.same (same_new hp _)))⟩⟩
  · cases e2
    obtain ⟨p, xs, rfl, hx, hr⟩ := RA.tupE0 r1
    exact ⟨p, xs, rfl, .inr ⟨hx.sq, q _ _ s1 (.tup hx hr)⟩⟩
  · cases e2
end
section
variable {X : Cx} {fl : List Fl} {a b : Expr} {fa fb : FE} {pos : Pos}
end
end D3
namespace D3
open PySem PySem.Spec PyProof.Rows L2 My
section
variable {X : Cx} {K : PySem.W.Frag}
end
def Itv (K : PySem.W.Frag) (a : Addr) (n : Nat) : It :=
  ⟨fun i H => i < n ∧ ∃ xs x, SqL K H a xs ∧ xs.length = n ∧ xs[n - 1 - i]? = some x, fun i H x H' => H' = H ∧ ∀ xs, SqL K H a xs → xs[n - 1 - i]? = some x, fun i _ => n ≤ i⟩
theorem turn_rev {P : Program} {w : World} {K : PySem.W.Frag} {tg : Expr} (a it : Addr) (n : Nat) : Turn P w K tg (Itv K a n) [it] it (fun i h => i ≤ n ∧ h.IsRevIter it a ((n : Int) - 1 - (i : Int))) where
  mem := by simp
  obj := fun i h st b hb => by
    have e : b = it := by simpa using hb
    subst e
    obtain ⟨_, o, e, c, d⟩ := st
    exact ⟨o, e, fun v z => by rw [d] at z; cases z⟩
  keep := fun i h h' st k => ⟨st.1, st.2.at fun o e => k it (by simp) o e⟩
  item := by
    intro X hP hw hK hc i pins s σ H E I hf st hg
    subst hP hw hK
    obtain ⟨hi, xs, x, hq, hn, hx⟩ := hg
    obtain ⟨its, rv, p, hz⟩ := I.list hq
    obtain ⟨u, hu, ru⟩ := rv.get hx
    obtain ⟨f0, f1, f2, f3, f4, f5⟩ := hf it (by simp)
    have st2 := st.2
    rw [show (n : Int) - 1 - (i : Int) = ((n - 1 - i : Nat) : Int) by omega] at st2
    refine wpAny_pyNext_rev_item st2 p.isList (x := u) (by simpa using hu) fun h' st' sb => ?_
    rw [show ((n - 1 - i : Nat) : Int) - 1 = (n : Int) - 1 - ((i + 1 : Nat) : Int) by omega] at st'
    have I1 : Inv X pins σ H { s with heap := h' } := I.turned (t' := s.toks) (fun b o hb e => (sb.2 b hb).trans e) f0 f1 f3 f4 f5
    obtain ⟨o, e, c, d⟩ := id st'
    exact ⟨u, rfl, go_of (s := { s with heap := h' }) e c d (by decide) ⟨x, H, I1, ru, ⟨rfl, fun ys hy => by rw [I.list_inj hy hq]; exact hx⟩, ⟨by omega, st'⟩, fun b hb => (hf b hb).1⟩⟩
  done := by
    intro X hP hw hK hc i pins s σ H E I hf st hg
    subst hP hw hK
    obtain ⟨f0, f1, f2, f3, f4, f5⟩ := hf it (by simp)
    have hg : n ≤ i := hg
    have st2 := st.2
    have st1 := st.1
    rw [show (n : Int) - 1 - (i : Int) = -1 by omega] at st2
    exact wpAny_pyNext_rev_end (I.ok.hd hc) st2 fun h' eb => ⟨rfl, I.turned (t' := s.toks) (fun b o hb e => eb b o hb e) f0 f1 f3 f4 f5⟩
  self := fun _ _ _ _ _ st h => wpAny_pyIter_revIter st.2 h
section
variable {X : Cx} {fl : List Fl} {a : Expr} {f : FE} {pos : Pos}
def iRev (K : PySem.W.Frag) (ta : TE) : TI := fun σ H R => ta σ H fun x H1 => ∃ p xs, x = .ref p ∧ SqL K H1 p xs ∧ R (Itv K p xs.length) H1
theorem pi_rev {tg : Expr} {p : Pos} {ta : TE} (hg : Gl X "reversed") (hm : X.mg "reversed" = none) (ha : PE X a ta) (he : starEach [a] X.env = (false, eval a X.env) :: starEach [] X.env := by rfl)
    (hpl : (backTo pos (starEach [] X.env)).any (·.1) = false := by rfl) : PI X tg (.Call (.Name "reversed" p) [a] [] pos) (iRev X.K ta) := by
  intro pins s σ H R I h
  refine wpAny_Call_Name_kw (ld_blt I hg hm boot_reversed (PyProof.Rows.callWith_type1 (thn ((pa_cons ha pa_nil he) pos pins s σ H (fun vs H1 => match vs with | [x] => ∃ p xs, x = .ref p ∧ SqL X.K H1 p xs ∧ R (Itv X.K p xs.length) H1 | _ => False) I h) fun us s1 ⟨vs, H1, I1, r1, q1⟩ => ?_) he hpl))
  cases r1 with
  | nil => exact q1.elim
  | cons r rr =>
    cases rr with
    | cons _ _ => exact q1.elim
    | nil =>
    obtain ⟨l, xs, e, hq, q⟩ := q1
    subst e
    cases r
    obtain ⟨its, rv, pl, hz⟩ := I1.list hq
    have hl := rv.length
    refine call_reversed_list pl.isList ?_
    have I2 : Inv X pins σ H1 { s1 with heap := s1.heap.push (revObj l ((its.toArray.size : Int) - 1)) } := I1.kept (t' := s1.toks) fun b o e => Heap.get?_push_of_some _ e
    have it0 : (s1.heap.push (revObj l ((its.toArray.size : Int) - 1))).IsRevIter s1.heap.objs.size l ((its.toArray.size : Int) - 1) := ⟨_, Heap.get?_push_size _ rfl, rfl, rfl⟩
    refine wpAny_pyIter_revIter (s := { s1 with heap := s1.heap.push (revObj l ((its.toArray.size : Int) - 1)) }) it0 ?_
    have it1 := it0
    rw [show (its.toArray.size : Int) - 1 = (xs.length : Int) - 1 - ((0 : Nat) : Int) by rw [List.size_toArray]; omega] at it1
    refine ⟨s1.heap.objs.size, [s1.heap.objs.size], _, _, H1, rfl, I2, turn_rev l s1.heap.objs.size xs.length, ⟨Nat.zero_le _, by rw [show (xs.length : Int) - 1 - ((0 : Nat) : Int) = (its.toArray.size : Int) - 1 by rw [List.size_toArray]; omega]; exact it0⟩, fun b hb => ?_, q⟩
    have e : b = s1.heap.objs.size := by simpa using hb
    subst e
    exact I1.fpOk (Nat.le_refl _) (I1.hok.fresh (Nat.le_refl _))
theorem di_rev {tg : Expr} {p : Pos} {L : List Nat} (h : DE X fl (.B L) a f) (hg : Gl X "reversed") (hm : X.mg "reversed" = none) (he : starEach [a] X.env = (false, eval a X.env) :: starEach [] X.env := by rfl)
    (hpl : (backTo pos (starEach [] X.env)).any (·.1) = false := by rfl) : DI X fl L tg (.Call (.Name "reversed" p) [a] [] pos) (fRev f) := PI.imp (pi_rev hg hm h he hpl) fun σ H R' h => by
  obtain ⟨G, ow, δ, l, R, hf, q⟩ := h
  obtain ⟨d, e1, e2⟩ := bind1 hf
  obtain ⟨l0, rfl⟩ : ∃ l0, d = .list l0 := by cases d <;> first | exact ⟨_, rfl⟩ | (cases e2; done)
  cases e2
  refine ⟨G, ow, δ, _, R, e1, fun v H1 s r => ?_⟩
  obtain ⟨a, xs, rfl, hx, keep⟩ := walk_B (R.grow s) r
  refine ⟨a, xs, rfl, hx, q _ _ s fun H2 k2 i => ?_⟩
  obtain ⟨k3, k4⟩ := keep H2 k2
  have kl := k4.length
  refine ⟨fun d hd => ?_, fun hl => by rw [List.length_reverse] at hl; show xs.length ≤ i; omega⟩
  have hi : i < l0.length := by
    have := (List.getElem?_eq_some_iff.mp hd).1
    rwa [List.length_reverse] at this
  rw [List.getElem?_reverse hi] at hd
  obtain ⟨y, hy, ry⟩ := k4.get hd
  rw [← kl] at hy
  refine ⟨⟨by omega, xs, y, k3, rfl, hy⟩, fun x H3 hyl => ?_⟩
  obtain ⟨e, hz⟩ := hyl
  subst e
  have : some y = some x := hy.symm.trans (hz xs k3)
  cases this
  exact ⟨Same.refl _, ry⟩
end
section
variable {X : Cx} {fl : List Fl} {e : Expr} {es : List Expr} {f : FE} {pos p : Pos} {x : Str} {n : Nat} {F : List D → Option D} {fa : FA}
end
section
variable {P : Program} {w : World} {K : PySem.W.Frag} {mg : Str → Option Value} {base : Heap} {x : Str} {ps N : List Str} {st : Stmt} {k n : Nat} {fs : FS} {fl : List Fl}
end
section
variable {P : Program} {w : World} {K : PySem.W.Frag} {mg : Str → Option Value} {base : Heap} {x : Str} {ps : List Str} {st : Stmt} {n : Nat}
end
end D3
namespace D3
open PySem PySem.Spec PyProof.Rows L2 My
section
variable {K : PySem.W.Frag} {fl flA : List Fl} {G : Gh} {ow : Ow} {σ σ' : St} {H H1 : Hp} {δ : DS} {T : List Nat}
theorem clr_get {i : Nat} {x : U} (h : (clr T δ)[i]? = some (some x)) : i ∉ T ∧ δ[i]? = some (some x) := by
  unfold clr at h
  rw [List.getElem?_mapIdx] at h
  cases e : δ[i]? with
  | none => rw [e] at h; cases h
  | some y =>
    rw [e, Option.map_some] at h
    by_cases z : i ∈ T
    · rw [if_pos z] at h; cases h
    · rw [if_neg z] at h; exact ⟨z, h⟩
theorem clr_ne {i : Nat} (h : i ∉ T) : (clr T δ)[i]? = δ[i]? := by
  unfold clr
  rw [List.getElem?_mapIdx]
  cases δ[i]? with
  | none => rfl
  | some y => rw [Option.map_some, if_neg h]
theorem clr_len : (clr T δ).length = δ.length := by unfold clr; rw [List.length_mapIdx]
theorem Rel.forget (R : Rel K fl G ow σ H δ) (hT : ∀ i ∈ T, fl[i]? = some .A) (hl : σ'.length = σ.length) (hσ : ∀ j, j ∉ T → σ'[j]? = σ[j]?) : Rel K fl G ow σ' H (clr T δ) := by
  refine ⟨R.s0, R.s1, by rw [clr_len, hl]; exact R.len, fun i a h => ?_, R.inj, R.pin, fun i d h hn ho => ?_, fun i d h hn h2 ho => R.oo i d (clr_get h).2 hn h2 ho, R.nt, R.nd, R.ns, R.np, fun i d hn h => ?_⟩
  · obtain ⟨h0, hf, xs, ds, h1, h2, h3, h4⟩ := R.own i a h
    have ni : i ∉ T := fun z => by
      rw [hT i z] at hf
      rcases hf with ⟨w, _⟩ | ⟨w, _⟩ <;> cases w
    exact ⟨h0, hf, xs, ds, by rw [hσ i ni]; exact h1, h2, h3, by rw [clr_ne ni]; exact h4⟩
  · obtain ⟨ni, e⟩ := clr_get h
    obtain ⟨v, h1, h2⟩ := R.dat i d e hn ho
    exact ⟨v, by rw [hσ i ni]; exact h1, h2⟩
  · obtain ⟨ni, e⟩ := clr_get h
    obtain ⟨v, h1, h2⟩ := R.nr i d hn e
    exact ⟨v, by rw [hσ i ni]; exact h1, h2⟩
end
section
variable {X : Cx} {fl flA : List Fl} {e : Expr} {es : List Expr} {f : FE} {fa : FA} {pos : Pos}
end
section
variable {X : Cx} {fl : List Fl} {pos : Pos}
end
end D3
namespace D3
open PySem
def keyI (qs : List (Int × Int)) (i : Int) : Option Int := (qs.find? fun q => decide (q.1 = i)).map (·.2)
def putI (qs : List (Int × Int)) (i j : Int) : List (Int × Int) := if (qs.any fun q => decide (q.1 = i)) = true then qs.map (fun q => if q.1 = i then (q.1, j) else q) else qs ++ [(i, j)]
def dcD (qs : List (Int × Int)) : D := .dict (qs.map fun q => (.int q.1, .int q.2))
theorem ii_dc : ∀ qs : List (Int × Int), iiD (qs.map fun q => ((.int q.1, .int q.2) : D × D)) = some qs
  | [] => rfl
  | q :: r => by
    rw [List.map_cons, iiD, ii_dc r]
    rfl
def asDic : D → Option (List (Int × Int))
  | .dict kvs => iiD kvs
  | _ => none
theorem asDic_dc (qs : List (Int × Int)) : asDic (dcD qs) = some qs := ii_dc qs
def gKGet : D → D → Option D := fun x y => (asDic x).bind fun qs => match y with
  | .int i => (keyI qs i).map .int
  | _ => none
def gKNotin : D → D → Option D := fun y x => (asDic x).bind fun qs => match y with
  | .int i => some (.bool (!(keyI qs i).isSome))
  | _ => none
def gKSort : List D → Option D
  | [x] => (asDic x).bind fun qs => if qs.length < 64 then some (.list ((srtI (qs.map (·.1))).map .int)) else none
  | _ => none
def dKGet2 (fx fk fz : FE) : FE := fun δ => (fx δ).bind fun x => (fk δ).bind fun k => (fz δ).bind fun z => (asDic x).bind fun qs => match k, z with
  | .int i, .int j => some (.int ((keyI qs i).getD j))
  | _, _ => none
def sKPut (i : Nat) (fk f : FE) : FS := fun δ => (f δ).bind fun d => (dVar i δ).bind fun x => (fk δ).bind fun k => match d, k with
  | .int v, .int j => (asDic x).bind fun qs => if qs.length < 1000000 then some (.nx (δ.set i (some (.d (dcD (putI qs j v)))))) else none
  | _, _ => none
def fKeys (f : FE) : FA := fun δ => (f δ).bind fun x => (asDic x).map fun qs => qs.map fun q => .int q.1
def dMinD (fa : FA) (fz : FE) : FE := fun δ => (fa δ).bind fun l => (fz δ).bind fun z => match l with
  | [.list m] => match intsD m with
    | some (i :: r) => gMinL [.list m]
    | some [] => if flat z = true then some z else none
    | none => none
  | _ => none
end D3
namespace D3
open PySem
end D3
namespace D3
open PySem
def gLzip : D → D → Option D := fun x y => match x, y with
  | .list l, .list m => (intsD l).bind fun ns => (intsD m).bind fun ms => if ns.length ≤ 1000 then some (.list (zipD l m)) else none
  | _, _ => none
end D3
namespace D3
open PySem
end D3
namespace D3
open PySem
end D3
namespace D3
open PySem
def dsT (S : List (List Int)) : D := .dict (S.map fun k => (.tuple (k.map .int), .bool true))
def tsD : List (D × D) → Option (List (List Int))
  | [] => some []
  | (.tuple l, .bool true) :: r => (intsD l).bind fun k => (tsD r).map (k :: ·)
  | _ => none
def asTs : D → Option (List (List Int))
  | .dict kvs => tsD kvs
  | _ => none
def asTk : D → Option (List Int)
  | .tuple l => intsD l
  | _ => none
def gTNotin : D → D → Option D := fun y x => (asTs x).bind fun S => (asTk y).bind fun k => if S = [] then none else some (.bool (!decide (k ∈ S)))
def dTNew (fk : FE) : FE := fun δ => (fk δ).bind fun y => (asTk y).map fun k => dsT [k]
def putT (S : List (List Int)) (k : List Int) : List (List Int) := if k ∈ S then S else S ++ [k]
def sTPut (i : Nat) (fk : FE) : FS := fun δ => (dVar i δ).bind fun x => (fk δ).bind fun y => (asTs x).bind fun S => (asTk y).bind fun k => if S ≠ [] ∧ S.length < 1000000 then some (.nx (δ.set i (some (.d (dsT (putT S k)))))) else none
theorem tk_ints : ∀ ns : List Int, intsD (ns.map PyData.int) = some ns
  | [] => rfl
  | n :: r => by
    rw [List.map_cons, intsD, tk_ints r]
    rfl
theorem ts_ds : ∀ S : List (List Int), tsD (S.map fun k => ((.tuple (k.map .int), .bool true) : D × D)) = some S
  | [] => rfl
  | k :: S => by
    rw [List.map_cons, tsD, ts_ds S, tk_ints]
    rfl
theorem asTs_ds (S : List (List Int)) : asTs (dsT S) = some S := ts_ds S
end D3
namespace D3
open PySem
def sMov (i j : Nat) : FS := fun δ => if i < δ.length then (dVar j δ).bind fun d => some (.nx ((δ.set j none).set i (some (.d d)))) else none
end D3
namespace L2
open PySem PySem.Spec PyProof.Rows
section
variable {κ : Type} [DecidableEq κ]
def valV (kvs : List (κ × V)) (k : κ) : Option V := (kvs.find? fun kv => decide (kv.1 = k)).map (·.2)
def putK (kvs : List (κ × V)) (k : κ) (v : V) : List (κ × V) :=
  if (kvs.any fun kv => decide (kv.1 = k)) = true then kvs.map (fun kv => if kv.1 = k then (kv.1, v) else kv) else kvs ++ [(k, v)]
def dropK (kvs : List (κ × V)) (k : κ) : List (κ × V) := kvs.filter fun kv => decide (kv.1 ≠ k)
theorem valV_pos {p : κ × V} {r : List (κ × V)} {k : κ} (e : p.1 = k) : valV (p :: r) k = some p.2 := by simp [valV, List.find?_cons, e]
theorem valV_neg {p : κ × V} {r : List (κ × V)} {k : κ} (e : ¬ p.1 = k) : valV (p :: r) k = valV r k := by simp [valV, List.find?_cons, e]
theorem valV_any (k : κ) : ∀ kvs : List (κ × V), (kvs.any fun kv => decide (kv.1 = k)) = (valV kvs k).isSome
  | [] => rfl
  | p :: r => by
    rw [List.any_cons]
    by_cases e : p.1 = k
    · simp only [valV_pos e, decide_eq_true e, Bool.true_or, Option.isSome_some]
    · rw [valV_neg e, decide_eq_false e, Bool.false_or]; exact valV_any k r
theorem length_putK (kvs : List (κ × V)) (k : κ) (v : V) : (putK kvs k v).length ≤ kvs.length + 1 := by
  unfold putK
  split
  · rw [List.length_map]; omega
  · rw [List.length_append, List.length_cons, List.length_nil]; omega
theorem RelO.isSome_eq {o : Option V} {u : Option Value} (r : RelO o u) : o.isSome = u.isSome := by
  cases o with
  | none => cases u with
    | none => rfl
    | some _ => exact (show False from r).elim
  | some _ => cases u with
    | none => exact (show False from r).elim
    | some _ => rfl
theorem RelO.getD {o : Option V} {u : Option Value} {d : V} {d' : Value} (r : RelO o u) (rd : RelV d d') : RelV (o.getD d) (u.getD d') := by
  cases o with
  | none => cases u with
    | none => exact rd
    | some _ => exact (show False from r).elim
  | some _ => cases u with
    | none => exact (show False from r).elim
    | some _ => exact r
theorem KV.val {kvs : List (κ × V)} {vs : List (κ × Value)} (r : KV kvs vs) (k : κ) : RelO (valV kvs k) (valueAt vs k) := by
  unfold KV at r
  induction r with
  | nil => exact True.intro
  | @cons p q ps qs h t ih =>
    obtain ⟨h1, h2⟩ := h
    by_cases e : p.1 = k
    · have e' : q.1 = k := h1.symm.trans e
      have b : valueAt (q :: qs) k = some q.2 := by simp [valueAt, List.find?_cons, e']
      rw [valV_pos e, b]; exact h2
    · have e' : ¬ q.1 = k := fun z => e (h1.trans z)
      have b : valueAt (q :: qs) k = valueAt qs k := by simp [valueAt, List.find?_cons, e']
      rw [valV_neg e, b]; exact ih
theorem KV.any {kvs : List (κ × V)} {vs : List (κ × Value)} (r : KV kvs vs) (k : κ) : (kvs.any fun kv => decide (kv.1 = k)) = vs.any fun kv => decide (kv.1 = k) := by
  unfold KV at r
  induction r with
  | nil => rfl
  | cons h t ih => rw [List.any_cons, List.any_cons, ih, h.1]
theorem KV.repl {kvs : List (κ × V)} {vs : List (κ × Value)} (r : KV kvs vs) (k : κ) {y : V} {u : Value} (ry : RelV y u) :
    KV (kvs.map fun kv => if kv.1 = k then (kv.1, y) else kv) (vs.map fun kv => if kv.1 = k then (kv.1, u) else kv) := by
  unfold KV at r ⊢
  induction r with
  | nil => exact .nil
  | @cons p q ps qs h t ih =>
    rw [List.map_cons, List.map_cons]
    refine .cons ?_ ih
    obtain ⟨h1, h2⟩ := h
    by_cases e : p.1 = k
    · rw [if_pos e, if_pos (h1.symm.trans e)]; exact ⟨h1, ry⟩
    · rw [if_neg e, if_neg (fun z => e (h1.trans z))]; exact ⟨h1, h2⟩
theorem KV.put {kvs : List (κ × V)} {vs : List (κ × Value)} (r : KV kvs vs) (k : κ) {y : V} {u : Value} (ry : RelV y u) : KV (putK kvs k y) (stored vs k u) := by
  unfold putK stored
  rw [r.any k]
  by_cases e : (vs.any fun kv => decide (kv.1 = k)) = true
  · rw [if_pos e, if_pos e]; exact r.repl k ry
  · rw [if_neg e, if_neg e]; exact Paired.snoc r ⟨rfl, ry⟩
theorem KV.drop {kvs : List (κ × V)} {vs : List (κ × Value)} (r : KV kvs vs) (k : κ) : KV (dropK kvs k) (without vs k) := by
  unfold KV at r ⊢
  unfold dropK without
  induction r with
  | nil => exact .nil
  | @cons p q ps qs h t ih =>
    obtain ⟨h1, h2⟩ := h
    rw [List.filter_cons, List.filter_cons]
    by_cases e : p.1 = k
    · have a : ¬ decide (p.1 ≠ k) = true := by simp [e]
      have b : ¬ decide (q.1 ≠ k) = true := by simp [h1.symm.trans e]
      rw [if_neg a, if_neg b]; exact ih
    · have e' : ¬ q.1 = k := fun z => e (h1.trans z)
      have a : decide (p.1 ≠ k) = true := by simp [e]
      have b : decide (q.1 ≠ k) = true := by simp [e']
      rw [if_pos a, if_pos b]; exact .cons ⟨h1, h2⟩ ih
theorem KV.keys {kvs : List (κ × V)} {vs : List (κ × Value)} (r : KV kvs vs) : kvs.map (·.1) = vs.map (·.1) := by
  unfold KV at r
  induction r with
  | nil => rfl
  | cons h t ih => rw [List.map_cons, List.map_cons, ih, h.1]
theorem KV.length {kvs : List (κ × V)} {vs : List (κ × Value)} (r : KV kvs vs) : kvs.length = vs.length := Paired.length r
end
theorem kV_is {P : Program} {w : World} {k : Key} {u : Value} (r : RelV (kV k) u) : (mixKind P w).is k u = true := by
  cases k with
  | inl i => obtain ⟨t, e⟩ := (show ∃ t, u = Value.int i t from r); subst e; exact mixKind_int P w i t
  | inr x => obtain ⟨t, e⟩ := (show ∃ t, u = Value.str x t from r); subst e; exact mixKind_str P w x t
theorem items_are {P : Program} {w : World} : ∀ {ks : List Key} {us : List Value}, Vals (ks.map kV) us → ItemsAre (mixKind P w) ks us
  | [], _, r => by rw [List.map_nil] at r; cases r; exact .nil
  | k :: ks, _, r => by
    rw [List.map_cons] at r
    cases r with
    | cons h t => exact .cons (kV_is h) (items_are t)
abbrev KT (H : Hp) : List (List Key × V) → List (List Key × Addr × Value) → Prop := Paired fun p q => p.1 = q.1 ∧ H q.2.1 = some (.tup (p.1.map kV)) ∧ RelV p.2 q.2.2
theorem KT.val {H : Hp} {kvs : List (List Key × V)} {xs : List (List Key × Addr × Value)} (r : KT H kvs xs) (k : List Key) : RelO (valV kvs k) ((atKey xs k).map (·.2)) := by
  induction r with
  | nil => exact True.intro
  | @cons p q ps qs h t ih =>
    obtain ⟨h1, _, h2⟩ := h
    by_cases e : p.1 = k
    · have e' : q.1 = k := h1.symm.trans e
      have b : atKey (q :: qs) k = some q.2 := by simp [atKey, List.find?_cons, e']
      rw [valV_pos e, b]; exact h2
    · have e' : ¬ q.1 = k := fun z => e (h1.trans z)
      have b : atKey (q :: qs) k = atKey qs k := by simp [atKey, List.find?_cons, e']
      rw [valV_neg e, b]; exact ih
theorem KT.repl {H : Hp} {kvs : List (List Key × V)} {xs : List (List Key × Addr × Value)} (r : KT H kvs xs) (k : List Key) {y : V} {u : Value} (ry : RelV y u) :
    KT H (kvs.map fun kv => if kv.1 = k then (kv.1, y) else kv) (xs.map (putAt k u)) := by
  induction r with
  | nil => exact .nil
  | @cons p q ps qs h t ih =>
    rw [List.map_cons, List.map_cons]
    refine .cons ?_ ih
    obtain ⟨h1, h2, h3⟩ := h
    unfold putAt
    by_cases e : p.1 = k
    · rw [if_pos e, if_pos (h1.symm.trans e)]; exact ⟨h1, h2, ry⟩
    · rw [if_neg e, if_neg (fun z => e (h1.trans z))]; exact ⟨h1, h2, h3⟩
theorem KT.put {H : Hp} {kvs : List (List Key × V)} {xs : List (List Key × Addr × Value)} (r : KT H kvs xs) (k : List Key) {b : Addr} {y : V} {u : Value} (hb : H b = some (.tup (k.map kV))) (ry : RelV y u) :
    KT H (putK kvs k y) (storedH xs k b u) := by
  have e : (kvs.any fun kv => decide (kv.1 = k)) = (atKey xs k).isSome := by
    rw [valV_any, (r.val k).isSome_eq, Option.isSome_map]
  unfold putK storedH
  rw [e]
  by_cases q : (atKey xs k).isSome = true
  · rw [if_pos q, if_pos q]; exact r.repl k ry
  · rw [if_neg q, if_neg q]; exact Paired.snoc r ⟨rfl, hb, ry⟩
theorem KT.keeps {H H' : Hp} {kvs : List (List Key × V)} {xs : List (List Key × Addr × Value)} (r : KT H kvs xs) (ht : ∀ b ys, H b = some (.tup ys) → H' b = some (.tup ys)) : KT H' kvs xs :=
  Paired.mapP r fun _ _ z => ⟨z.1, ht _ _ z.2.1, z.2.2⟩
section
variable {P : Program} {w : World} {H : Hp} {h : Heap} {a : Addr}
theorem rd_of {u : HO} (ok : HOk P w H h) (e : Rd H a u) : ObjOk P w H h a u := e.ok ok
theorem dk_rd {kvs : List (Key × V)} (ok : HOk P w H h) (e : Rd H a (.dK kvs)) : kvs.length ≤ sizeLine ∧ (a == sysModules) = false ∧ ∃ vs, KV kvs vs ∧ h.DictOf (mixKind P w) a vs :=
  show ObjOk P w H h a (.dK kvs) from rd_of ok e
theorem dk_of {kvs : List (Key × V)} (ok : HOk P w H h) (e : H a = some (.dK kvs)) : kvs.length ≤ sizeLine ∧ (a == sysModules) = false ∧ ∃ vs, KV kvs vs ∧ h.DictOf (mixKind P w) a vs := dk_rd ok (.inl e)
theorem key_of {ks : List Key} (ok : HOk P w H h) (e : H a = some (.tup (ks.map kV))) : (tupleKind (mixKind P w)).is h ks a := by
  obtain ⟨_, its, r, o, h1, h2, n, h3⟩ := (show ObjOk P w H h a (.tup (ks.map kV)) from ok a _ e)
  exact ⟨o, its.toArray, n, h1, h2, h3, by simpa using items_are r⟩
theorem dt_rd {kvs : List (List Key × V)} (ok : HOk P w H h) (e : Rd H a (.dT kvs)) : kvs.length ≤ sizeLine ∧ (a == sysModules) = false ∧
    ∃ xs, KT H kvs xs ∧ h.DictOfH (tupleKind (mixKind P w)) a xs := by
  obtain ⟨z, y, xs, r, o, es, ep, h1, h2, h3, h4, h5⟩ := (show ObjOk P w H h a (.dT kvs) from rd_of ok e)
  refine ⟨z, y, xs, r, o, es, ep, h1, h2, h3, h4, fun x hx => ?_, h5⟩
  have all : ∀ {l : List (List Key × V)} {m : List (List Key × Addr × Value)}, KT H l m → ∀ x ∈ m, (tupleKind (mixKind P w)).is h x.1 x.2.1 := by
    intro l m q
    induction q with
    | nil => intro x hx; exact nomatch hx
    | @cons p q ps qs hq t ih =>
      intro x hx
      rcases List.mem_cons.mp hx with e | hx
      · subst e
        exact key_of ok (by rw [← hq.1]; exact hq.2.1)
      · exact ih x hx
  exact all r x hx
theorem dt_of {kvs : List (List Key × V)} (ok : HOk P w H h) (e : H a = some (.dT kvs)) : kvs.length ≤ sizeLine ∧ (a == sysModules) = false ∧
    ∃ xs, KT H kvs xs ∧ h.DictOfH (tupleKind (mixKind P w)) a xs := dt_rd ok (.inl e)
end
def DGet (H : Hp) (a : Addr) (y : V) (r : Option V) : Prop :=
  (∃ kvs k, Rd H a (.dK kvs) ∧ y = kV k ∧ r = valV kvs k) ∨ ∃ kvs k b, Rd H a (.dT kvs) ∧ y = .ref b ∧ H b = some (.tup (k.map kV)) ∧ r = valV kvs k
def DPut (H : Hp) (a : Addr) (y v : V) (H' : Hp) : Prop :=
  (∃ kvs k, H a = some (.dK kvs) ∧ y = kV k ∧ kvs.length < sizeLine ∧ H' = upd H a (.dK (putK kvs k v))) ∨
  ∃ kvs k b, H a = some (.dT kvs) ∧ y = .ref b ∧ H b = some (.tup (k.map kV)) ∧ kvs.length < sizeLine ∧ H' = upd H a (.dT (putK kvs k v))
theorem DGet.k {H : Hp} {a : Addr} {kvs : List (Key × V)} {k : Key} (e : H a = some (.dK kvs)) : DGet H a (kV k) (valV kvs k) := .inl ⟨kvs, k, .inl e, rfl, rfl⟩
theorem DGet.t {H : Hp} {a b : Addr} {kvs : List (List Key × V)} {k : List Key} (e : H a = some (.dT kvs)) (eb : H b = some (.tup (k.map kV))) : DGet H a (.ref b) (valV kvs k) := .inr ⟨kvs, k, b, .inl e, rfl, eb, rfl⟩
theorem DPut.k {H : Hp} {a : Addr} {kvs : List (Key × V)} {k : Key} {v : V} (e : H a = some (.dK kvs)) (hl : kvs.length < sizeLine) : DPut H a (kV k) v (upd H a (.dK (putK kvs k v))) := .inl ⟨kvs, k, e, rfl, hl, rfl⟩
theorem DPut.t {H : Hp} {a b : Addr} {kvs : List (List Key × V)} {k : List Key} {v : V} (e : H a = some (.dT kvs)) (eb : H b = some (.tup (k.map kV))) (hl : kvs.length < sizeLine) :
    DPut H a (.ref b) v (upd H a (.dT (putK kvs k v))) := .inr ⟨kvs, k, b, e, rfl, eb, hl, rfl⟩
section
variable {X : Cx} {pins : List (Addr × Obj)} {σ : St} {H : Hp} {s : Shared} {a : Addr} {y v : V} {u r : Value} {o : Option V} {A : Around} {E : Value → Shared → Prop}
theorem Inv.big (I : Inv X pins σ H s) : sysModules < s.heap.objs.size := by
  have h : mainGlobals < s.heap.objs.size := (I.mod.glob.keeps I.bk).lt
  exact Nat.lt_trans (by decide) h
theorem d_getItem {Q : Value → Shared → Prop} (hu : A.units + 1 < cLine) (I : Inv X pins σ H s) (g : DGet H a y (some v)) (ry : RelV y u) (h : ∀ w' s', Inv X pins σ H s' → RelV v w' → Q w' s') :
    wpAny (model X.prog X.w) A (getItem (.ref a) u) Q E s := by
  rcases g with ⟨kvs, k, e, ey, l⟩ | ⟨kvs, k, b, e, ey, eb, l⟩
  · subst ey
    obtain ⟨z, hd, vs, rel, dd⟩ := dk_rd I.hok e
    obtain ⟨w', hw, rw'⟩ := RelO.some_of (v := v) (o := valueAt vs k) (by rw [l]; exact rel.val k)
    exact wpAny_getItem_of (kV_is ry) dd.mapOf hw (h w' _ (I.tok _) rw')
  · subst ey
    cases (show u = Value.ref b from ry)
    obtain ⟨z, hd, xs, rel, dd⟩ := dt_rd I.hok e
    obtain ⟨w', hw, rw'⟩ := RelO.some_of (v := v) (o := (atKey xs k).map (·.2)) (by rw [l]; exact rel.val k)
    obtain ⟨p, hp, hp2⟩ := Option.map_eq_some_iff.mp hw
    refine wpAny_getItem_heap (tupleKind_room_in1 hu) (key_of I.hok eb) dd hp ?_
    rw [hp2]
    exact h w' _ (I.tok _) rw'
theorem d_notIn {Q : Value → Shared → Prop} (hu : A.units + 1 < cLine) (I : Inv X pins σ H s) (g : DGet H a y o) (ry : RelV y u) (h : ∀ s', Inv X pins σ H s' → Q (.bool (!o.isSome)) s') :
    wpAny (model X.prog X.w) A (compareOp .NotIn u (.ref a)) Q E s := by
  rcases g with ⟨kvs, k, e, ey, l⟩ | ⟨kvs, k, b, e, ey, eb, l⟩
  · subst ey
    obtain ⟨z, hd, vs, rel, dd⟩ := dk_rd I.hok e
    refine wpAny_notIn_of (kV_is ry) hd dd.mapOf ?_
    rw [← (rel.val k).isSome_eq, ← l]
    exact h _ (I.tok _)
  · subst ey
    cases (show u = Value.ref b from ry)
    obtain ⟨z, hd, xs, rel, dd⟩ := dt_rd I.hok e
    refine wpAny_notIn_heap (tupleKind_room_in1 hu) (key_of I.hok eb) hd dd ?_
    have q := (rel.val k).isSome_eq
    rw [Option.isSome_map] at q
    rw [← q, ← l]
    exact h _ (I.tok _)
theorem d_write {h' : Heap} {t' : Nat} {ob : HO} (I : Inv X pins σ H s) (mu : Mut (H a)) (hs : Heap.SameBut a s.heap h') (he : ∃ q, h'.get? a = some q) (new : ObjOk X.prog X.w (upd H a ob) h' a ob) :
    Inv X pins σ (upd H a ob) { s with heap := h', toks := t' } :=
  I.write (x := a) (e := a) mu (.inl rfl) (fun b q hb z => (hs.2 b hb).trans z) he new
theorem dk_new {P : Program} {w : World} {H' : Hp} {h' : Heap} {kvs : List (Key × V)} {vs : List (Key × Value)} (z : kvs.length ≤ sizeLine) (hd : (a == sysModules) = false) (rel : KV kvs vs) (dd : h'.DictOf (mixKind P w) a vs) :
    ObjOk P w H' h' a (.dK kvs) := ⟨z, hd, vs, rel, dd⟩
theorem d_setItem {H' : Hp} {Q : Unit → Shared → Prop} (hu : A.units + 1 < cLine) (I : Inv X pins σ H s) (g : DPut H a y v H') (ry : RelV y u) (rv : RelV v r) (h : ∀ s', Inv X pins σ H' s' → Q () s') :
    wpAny (model X.prog X.w) A (setItem (.ref a) u r) Q E s := by
  rcases g with ⟨kvs, k, e, ey, l, eH⟩ | ⟨kvs, k, b, e, ey, eb, l, eH⟩
  · subst ey eH
    obtain ⟨z, hd, vs, rel, dd⟩ := dk_of I.hok e
    have hz : vs.length ≤ sizeLine := by rw [← rel.length]; exact z
    have hl : (putK kvs k v).length ≤ sizeLine := by have := length_putK kvs k v; omega
    refine wpAny_setItem_pairs (hsz := hz) (kV_is ry) dd fun h' dd' hs => h _ ?_
    have he : ∃ q, h'.get? a = some q := let ⟨q, _, _, hq, _⟩ := dd'; ⟨q, hq⟩
    exact d_write I (by rw [e]; exact True.intro) hs he (dk_new hl hd (rel.put k rv) dd')
  · subst ey eH
    cases (show u = Value.ref b from ry)
    obtain ⟨z, hd, xs, rel, dd⟩ := dt_of I.hok e
    have hz : xs.length ≤ sizeLine := by rw [← Paired.length rel]; exact z
    have hl : (putK kvs k v).length ≤ sizeLine := by have := length_putK kvs k v; omega
    refine wpAny_setItem_heap (hsz := hz) (tupleKind_room_in1 hu) (key_of I.hok eb) dd fun h' dd' hs => h _ ?_
    obtain ⟨q, es, ep, hq, h2, h3, h4, _, h5⟩ := dd'
    refine d_write I (by rw [e]; exact True.intro) hs ⟨q, hq⟩ ⟨hl, hd, _, (rel.put k eb rv).keeps fun c ys ec => ?_, q, es, ep, hq, h2, h3, h4, h5⟩
    rw [upd_ne (ne_of ec e (fun z => nomatch z))]
    exact ec
end
section
variable {X : Cx} {pins : List (Addr × Obj)} {σ : St} {H : Hp} {s : Shared} {a : Addr} {kvs : List (Key × V)} {k : Key} {u : Value} {A : Around} {E : Value → Shared → Prop}
end
def NoSl (i : Expr) : Prop := ∀ ov iv, subscripted i false ov iv = operate [ov, iv] (getItem ov iv)
theorem subD_of {prog : Program} {w : World} {A : Around} {E : Value → Shared → Prop} {s : Shared} {env : Env} {value slice : Expr} {pos : Pos} {T id : String} {Q : Value → Shared → Prop}
    (hl : typeLookup (.type T) "__getitem__" = pure (some (.builtin id))) (hs : NoSl slice)
    (h : wpAny (model prog w) A (eval value env) (fun o s₁ => wpAny (model prog w) A (eval slice env) (fun i s₂ => s₂.TypeIs o T ∧ wpAny (model prog w) A (getItem o i) Q E s₂) E s₁) E s) :
    wpAny (model prog w) A (eval (.Subscript value slice pos) env) Q E s := by
  refine Subscript_ (wpAny_mono h (fun o s₁ h₁ => wpAny_mono h₁ (fun i s₂ h₂ => ?_) fun _ _ x => x) fun _ _ x => x)
  obtain ⟨hT, h₂⟩ := h₂
  unfold subscriptTail
  refine wpAny_bind ?_
  rw [getitemInPython_of_ne hT.not_modules]
  refine wpAny_bind (wpAny_specialOf hT hl ?_)
  have fin : wpAny (model prog w) A (subscripted slice false o i) (fun r s₃ => wpAny (model prog w) A (letTemporaryGo value o r >>= fun _ => pure r) Q E s₃) E s₂ := by
    rw [hs o i]
    exact wpAny_operating (wpAny_mono h₂ (fun r s₃ h₃ => wpAny_bind (wpAny_letTemporaryGo (wpAny_pure h₃))) fun _ _ x => x)
  first
    | exact wpAny_pure (wpAny_bind fin)
    | exact wpAny_bind (wpAny_pure (wpAny_bind fin))
    | exact wpAny_bind fin
theorem dict_typeIs {X : Cx} {pins : List (Addr × Obj)} {σ : St} {H : Hp} {s : Shared} {a : Addr} {y : V} {o : Option V} (I : Inv X pins σ H s) (g : DGet H a y o) : s.TypeIs (.ref a) "dict" := by
  rcases g with ⟨kvs, k, e, _, _⟩ | ⟨kvs, k, b, e, _, _, _⟩
  · obtain ⟨_, _, vs, _, dd⟩ := dk_rd I.hok e
    exact dd.typeIs
  · obtain ⟨_, _, xs, _, dd⟩ := dt_rd I.hok e
    exact dd.typeIs
def tDGet (td ty : TE) : TE := fun σ H Q => td σ H fun x H1 => ty σ H1 fun y H2 => ∃ a v, x = .ref a ∧ DGet H2 a y (some v) ∧ Q v H2
section
variable {X : Cx} {o i e value : Expr} {pos pos' tpos : Pos} {td ty tv : TE}
theorem pe_dget (hu : X.A.units + 1 < cLine) (ho : PE X o td) (hi : PE X i ty) (hs : NoSl i) : PE X (.Subscript o i pos) (tDGet td ty) := by
  intro pins s σ H Q I h
  refine subD_of PySem.F.slot_dict_getitem.lookup hs (thn (ho pins s σ H _ I h) fun u s1 ⟨x, H1, I1, rx, q1⟩ => thn (hi pins s1 σ H1 _ I1 q1) fun iv s2 ⟨y, H2, I2, ry, a, v, ex, g, q2⟩ => ?_)
  subst ex
  obtain rfl : u = Value.ref a := rx
  exact ⟨dict_typeIs I2 g, d_getItem hu I2 g ry fun w' s3 I3 rw' => ⟨v, H2, I3, rw', q2⟩⟩
end
theorem dk_empty {P : Program} {w : World} {H : Hp} (h : Heap) (hb : sysModules < h.objs.size) : ObjOk P w H (h.push { cls := .type "dict", data := .dict #[] }) h.objs.size (.dK []) :=
  ⟨Nat.zero_le _, beq_eq_false_iff_ne.mpr (Ne.symm (Nat.ne_of_lt hb)), [], .nil, Heap.DictOf.new h⟩
theorem dt_empty {P : Program} {w : World} {H : Hp} (h : Heap) (hb : sysModules < h.objs.size) : ObjOk P w H (h.push { cls := .type "dict", data := .dict #[] }) h.objs.size (.dT []) :=
  ⟨Nat.zero_le _, beq_eq_false_iff_ne.mpr (Ne.symm (Nat.ne_of_lt hb)), [], .nil, _, #[], 0, Heap.get?_push_size _ rfl, ⟨rfl, rfl, rfl⟩, rfl, rfl, List.nodup_nil⟩
def tDNewK : TE := fun _ H Q => ∀ p, H p = none → Q (.ref p) (upd H p (.dK []))
section
variable {X : Cx} {pos : Pos}
theorem pe_dnewK : PE X (.Dict [] [] pos) tDNewK := fun pins s σ H Q I h =>
  wpAny_Dict_empty ⟨.ref s.heap.objs.size, _, I.laid (a := s.heap.objs.size) (o := .dK []) (t' := s.toks) (fun _ _ q => Heap.get?_push_of_some _ q) (Nat.le_refl _) (dk_empty s.heap I.big), rfl, h _ (I.hok.fresh (Nat.le_refl _))⟩
end
structure M1 (X : Cx) (o : Expr) (m : Str) (apos : Pos) (e : Expr) (cpos : Pos) : Prop where
  base : attributeBase o m X.env (eval o X.env) = eval o X.env
  few : ((backTo cpos (starEach [e] X.env)).all (fun x => !x.1) && (backToKw cpos (keywordEach [] X.env)).all (fun x => x.1.isSome)
    && decide (([e] : List Expr).length + ([] : List Keyword).length + (if ([] : List Keyword).isEmpty then 0 else 1) < 30)) = true
  line : (apos.endLine == cpos.line) = true
  trees : backTo cpos (starEach [e] X.env) = [(false, eval e X.env)]
structure M2 (X : Cx) (o : Expr) (m : Str) (apos : Pos) (e f : Expr) (cpos : Pos) : Prop where
  base : attributeBase o m X.env (eval o X.env) = eval o X.env
  few : ((backTo cpos (starEach [e, f] X.env)).all (fun x => !x.1) && (backToKw cpos (keywordEach [] X.env)).all (fun x => x.1.isSome)
    && decide (([e, f] : List Expr).length + ([] : List Keyword).length + (if ([] : List Keyword).isEmpty then 0 else 1) < 30)) = true
  line : (apos.endLine == cpos.line) = true
  trees : backTo cpos (starEach [e, f] X.env) = [(false, eval e X.env), (false, eval f X.env)]
def IsD (H : Hp) (a : Addr) : Prop := (∃ kvs, Rd H a (.dK kvs)) ∨ ∃ kvs, Rd H a (.dT kvs)
theorem isD_at {X : Cx} {pins : List (Addr × Obj)} {σ : St} {H : Hp} {s : Shared} {a : Addr} (I : Inv X pins σ H s) (d : IsD H a) :
    s.TypeIs (.ref a) "dict" ∧ (∀ b, Value.ref a = .ref b → ∃ ob, s.heap.get? b = some ob ∧ ob.dict = none) ∧ (a == sysModules) = false := by
  rcases d with ⟨kvs, e⟩ | ⟨kvs, e⟩
  · obtain ⟨_, hd, vs, _, dd⟩ := dk_rd I.hok e
    refine ⟨dd.typeIs, fun b q => ?_, hd⟩
    cases q
    obtain ⟨ob, _, _, h1, h2, _⟩ := dd
    exact ⟨ob, h1, h2.2.1⟩
  · obtain ⟨_, hd, xs, _, dd⟩ := dt_rd I.hok e
    refine ⟨dd.typeIs, fun b q => ?_, hd⟩
    cases q
    obtain ⟨ob, _, _, h1, h2, _⟩ := dd
    exact ⟨ob, h1, h2.2.1⟩
section
variable {X : Cx} {pins : List (Addr × Obj)} {σ : St} {H : Hp} {s : Shared} {a : Addr} {y d : V} {u r : Value} {o : Option V} {A : Around} {E : Value → Shared → Prop}
theorem d_get2 {Q : Value → Shared → Prop} (hu : A.units + 1 < cLine) (I : Inv X pins σ H s) (g : DGet H a y o) (ry : RelV y u) (rd : RelV d r) (h : ∀ w' s', Inv X pins σ H s' → RelV (o.getD d) w' → Q w' s') :
    wpAny (model X.prog X.w) A (call (.builtin "dict.get") [.ref a, u, r]) Q E s := by
  rcases g with ⟨kvs, k, e, ey, l⟩ | ⟨kvs, k, b, e, ey, eb, l⟩
  · subst ey
    obtain ⟨z, hd, vs, rel, dd⟩ := dk_rd I.hok e
    refine call_meetsIn PySem.F.slot_dict_get dd.typeIs PySem.F.entry_dict_get (PySem.F.args_dict_get_3 _ _ _) (meets_dict_get_default (mixKind X.prog X.w) a (kV_is ry) hd r) ⟨_, dd.mapOf, h _ _ (I.tok _) ?_⟩
    rw [l]
    exact (rel.val k).getD rd
  · subst ey
    cases (show u = Value.ref b from ry)
    obtain ⟨z, hd, xs, rel, dd⟩ := dt_rd I.hok e
    refine call_meetsIn PySem.F.slot_dict_get dd.typeIs PySem.F.entry_dict_get (PySem.F.args_dict_get_3 _ _ _) (meetsH_dict_get_default (tupleKind (mixKind X.prog X.w)) a b hd r) ⟨tupleKind_room_in1 hu, k, xs, key_of I.hok eb, dd, h _ _ (I.tok _) ?_⟩
    rw [l]
    exact (rel.val k).getD rd
end
def tDGet2 (td ty tx : TE) : TE := fun σ H Q => td σ H fun x H1 => ∃ a, x = .ref a ∧ IsD H1 a ∧ ty σ H1 fun y H2 => tx σ H2 fun z H3 => ∃ o, DGet H3 a y o ∧ Q (o.getD z) H3
section
variable {X : Cx} {o e f : Expr} {apos cpos : Pos} {td ty tx : TE}
theorem pe_dget2 (hu : X.A.units + 1 < cLine) (ho : PE X o td) (he : PE X e ty) (hf : PE X f tx) (m : M2 X o "get" apos e f cpos) : PE X (.Call (.Attribute o "get" apos) [e, f] [] cpos) (tDGet2 td ty tx) := by
  intro pins s σ H Q I h
  refine wpAny_Call_method m.base m.few m.line PySem.F.plainAttrs_dict PySem.F.slot_dict_get PySem.F.type_dict_get (thn (ho pins s σ H _ I h) fun u s1 ⟨x, H1, I1, rx, a, ex, d, q1⟩ => ?_)
  subst ex
  obtain rfl : u = Value.ref a := rx
  obtain ⟨t1, t2, _⟩ := isD_at I1 d
  refine ⟨t1, t2, ?_⟩
  rw [m.trees]
  refine Calls.callWith_builtin rfl (Calls.evalArgs_plain (Calls.spliced_cons (thn (he pins s1 σ H1 _ I1 q1) fun iv s2 ⟨y, H2, I2, ry, q2⟩ =>
    Calls.spliced_cons (thn (hf pins s2 σ H2 _ I2 q2) fun fv s3 ⟨z, H3, I3, rz, ov, g, q3⟩ => Calls.spliced_nil ?_))))
  exact d_get2 hu I3 g ry rz fun w' s4 I4 rw' => ⟨_, H3, I4, rw', q3⟩
end
section
variable {X : Cx} {pins : List (Addr × Obj)} {σ : St} {H : Hp} {s : Shared} {a : Addr} {kvs : List (Key × V)} {A : Around} {E : Value → Shared → Prop}
end
section
variable {X : Cx} {pins : List (Addr × Obj)} {σ : St} {H : Hp} {s : Shared} {a : Addr} {y : V} {u : Value} {A : Around} {E : Value → Shared → Prop}
end
section
variable {κ : Type} [DecidableEq κ]
end
end L2
namespace XK
open PySem PySem.Spec PyProof.Rows L2 My D3
section
variable {K : PySem.W.Frag} {H : Hp}
theorem valV_ii : ∀ (qs : List (Int × Int)) (i : Int), valV (qs.map fun q => ((.inl q.1, .int q.2) : Key × V)) (.inl i) = (keyI qs i).map V.int
  | [], i => rfl
  | q :: r, i => by
    rw [List.map_cons]
    by_cases h : q.1 = i
    · rw [valV_pos (by rw [h])]
      simp [keyI, h]
    · rw [valV_neg (fun z => h (by injection z)), valV_ii r i]
      simp [keyI, h]
theorem rd_same {H H' : Hp} {a : Addr} {u : HO} (s : Same H H') (h : L2.Rd H a u) : L2.Rd H' a u := by
  rcases h with h | ⟨o, h⟩
  · exact .inl (s _ _ h)
  · exact .inr ⟨o, s _ _ h⟩
theorem asDic_ra {ok : Ok} {pl : Bool} {v : V} {x : D} {qs : List (Int × Int)} (e : asDic x = some qs) (r : RA K ok pl H v x) : ∃ a, v = .ref a ∧ L2.Rd H a (.dK (qs.map fun q => (.inl q.1, .int q.2))) := by
  cases x with
  | dict kvs =>
    obtain ⟨a, rfl, h⟩ := r.dicE
    rw [dh0_ii e, dk0_ii e] at h
    exact ⟨a, rfl, h⟩
  | none => cases e
  | bool _ => cases e
  | int _ => cases e
  | str _ => cases e
  | list _ => cases e
  | tuple _ => cases e
theorem dget_ii {a : Addr} {qs : List (Int × Int)} (i : Int) (h : L2.Rd H a (.dK (qs.map fun q => (.inl q.1, .int q.2)))) : DGet H a (.int i) ((keyI qs i).map V.int) :=
  .inl ⟨_, .inl i, h, rfl, (valV_ii qs i).symm⟩
theorem dh0_dc (qs : List (Int × Int)) : dh0 (qs.map fun q => ((.int q.1, .int q.2) : D × D)) = .dK (qs.map fun q => (.inl q.1, .int q.2)) := by rw [dh0_ii (ii_dc qs), dk0_ii (ii_dc qs)]
end
section
variable {X : Cx} {fl : List Fl} {e a b c ke : Expr} {f fa fb fc fk : FE} {pos : Pos}
theorem de_kget (hu : X.A.units + 1 < cLine) (ha : DE X fl .P a fa) (hb : DE X fl .P b fb) (hs : NoSl b) : DE X fl .FC (.Subscript a b pos) (dOp gKGet fa fb) := PE.imp (pe_dget hu ha hb hs) fun σ H Q h => by
  obtain ⟨G, ow, δ, d, R, hf, q⟩ := h
  obtain ⟨x, y, e1, e2, e3⟩ := bind2 hf
  refine ⟨G, ow, δ, x, R, e1, fun v H1 s1 r1 => ⟨G, ow, δ, y, R.grow s1, e2, fun u H2 s2 r2 => ?_⟩⟩
  obtain ⟨qs, e4, e5⟩ := bind1 e3
  obtain ⟨p, rfl, hp⟩ := asDic_ra e4 r1
  split at e5
  · next i =>
    obtain rfl := RA.intE r2
    cases e6 : keyI qs i with
    | none => rw [e6] at e5; cases e5
    | some j =>
      rw [e6] at e5
      cases e5
      have g := dget_ii i (rd_same s2 hp)
      rw [e6] at g
      exact ⟨p, .int j, rfl, g, q _ H2 (s1.trans s2) (.inl ⟨rfl, .int j⟩)⟩
  · cases e5
def rKNotin : R2 := fun x y H Q => ∃ p o, y = .ref p ∧ DGet H p x o ∧ Q (.bl (!o.isSome)) H
theorem op_notinK (hu : X.A.units + 64 < cLine) : OpR X (compareOp .NotIn) rKNotin := by
  intro pins s σ H x y v u Q I rx ry h
  obtain ⟨p, o, rfl, g, q⟩ := h
  obtain rfl : u = Value.ref p := ry
  exact d_notIn (by omega) I g rx fun s' I' => ⟨.bl (!o.isSome), H, I', rfl, q⟩
theorem b_notinK {K : PySem.W.Frag} : BrO K rKNotin gKNotin := by
  intro H x y dx dy d Q rx ry e q
  obtain ⟨qs, e4, e5⟩ := bind1 e
  obtain ⟨p, rfl, hp⟩ := asDic_ra e4 ry
  split at e5
  · next i =>
    cases e5
    obtain rfl := RA.intE rx
    refine ⟨p, _, rfl, dget_ii i hp, ?_⟩
    rw [Option.isSome_map]
    exact q _ rfl (.bl _)
  · cases e5
theorem ints_pt : ∀ (l : List Value) (ns : List Int), l.length = ns.length → (∀ (j : Nat) (v : Value), l[j]? = some v → ∃ n t, ns[j]? = some n ∧ v = Value.int n t) → IntsAre l ns
  | [], [], _, _ => .nil
  | [], _ :: _, h, _ => by simp at h
  | _ :: _, [], h, _ => by simp at h
  | v :: l, n :: ns, h, g => by
    obtain ⟨n', t, e1, e2⟩ := g 0 v rfl
    cases e1
    subst e2
    exact .cons _ _ (ints_pt l ns (by simpa using h) fun j v hv => by simpa using g (j + 1) v (by simpa using hv))
theorem call_sortedK (hc : X.calm = true) : CallR X (.builtin "sorted") (fun xs H Q => ∃ (p : Addr) (qs : List (Int × Int)), xs = [.ref p] ∧ L2.Rd H p (.dK (qs.map fun q => (.inl q.1, .int q.2))) ∧ qs.length < 64 ∧ ∀ l, H l = none → Q (.ref l) (upd H l (.lst ((srtI (qs.map (·.1))).map V.int)))) := by
  intro pins s σ H xs us Q I r h
  obtain ⟨p, qs, rfl, hx, h64, q⟩ := h
  obtain ⟨u, rfl, rx⟩ := vals1 r
  cases rx
  obtain ⟨_, hd, vs, rel, dd⟩ := dk_rd I.hok hx
  obtain ⟨ep, hat⟩ := dd.dictAt
  have hlen : vs.length = qs.length := by rw [← rel.length, List.length_map]
  refine Calls.call_function_entry kind_sorted plain_sorted entry_sorted (args_sorted1 _) ?_
  unfold Builtin.«sorted»
  refine wpAny_bind (m := checkCount "sorted" 1 1 _) (wpAny_pure ?_)
  refine wpAny_bind (PySem.W.kdu_collect (A := X.A.in1) (PySem.W.kdl_dict (knd := mixKind X.prog X.w) (kvs := vs) (ep := ep) hd) (I.ok.hd hc) hat (by rw [hlen]; exact Nat.le_trans (Nat.le_of_lt h64) (by decide)) fun h' tk acc hk hacc => ?_)
  have hl : acc.toList.length = qs.length := by rw [Array.length_toList, hacc.1, hlen]
  have hI : IntsAre acc.toList (qs.map (·.1)) := ints_pt _ _ (by rw [hl, List.length_map]) fun j v hv => by
    obtain ⟨k, x, hkx, his⟩ := hacc.2 j v (by rw [← Array.getElem?_toList]; exact hv)
    obtain ⟨i, j', t, rfl, _, _⟩ := (kv_ints rel).2 k x (List.mem_of_getElem? hkx)
    have e1 : (vs.map (·.1))[j]? = some (.inl i) := by rw [List.getElem?_map, hkx]; rfl
    rw [(kv_ints rel).1, List.getElem?_map] at e1
    cases e2 : qs[j]? with
    | none => rw [e2] at e1; cases e1
    | some q0 =>
      rw [e2] at e1
      have e3 : q0.1 = i := by simpa using e1
      rw [mixKind_is] at his
      obtain ⟨t, rfl⟩ : ∃ t, v = Value.int i t := Value.isInt_shape his
      exact ⟨i, t, by rw [List.getElem?_map, e2, ← e3]; rfl, rfl⟩
  have I1 : L2.Inv X pins σ H { s with heap := h', toks := tk } := I.kept hk
  refine wpAny_bind (wpAny_newList ?_ (by rw [hl]; exact Nat.le_trans (Nat.le_of_lt h64) (by decide)))
  have hoL : (h'.push (seqObj "list" acc.toList.toArray 0)).get? h'.objs.size = some (seqObj "list" acc.toList.toArray 0) := Heap.get?_push_size _ rfl
  show wpAny _ _ _ _ _ { s with heap := h'.push (seqObj "list" acc.toList.toArray 0), toks := tk }
  refine wpAny_bind (wpAny_holding (wpAny_call_entry slot_list_sort ⟨_, hoL, rfl⟩ entry_list_sort (list_sort_tree hoL hI (by rw [hl]; exact h64) fun out ns' a1 a2 a3 => ⟨_, rfl, ?_⟩) (args_list_sort _)))
  refine wpAny_pure ⟨_, rfl, ?_⟩
  obtain rfl := sorted_eq (a2.trans (srtI_perm _).symm) a3 (srtI_sorted _)
  obtain ⟨e, he⟩ := sortedHeap_at (out := out) hoL
  have hn : H h'.objs.size = none := I1.hok.fresh (Nat.le_refl _)
  have ll : (srtI (qs.map (·.1))).length = qs.length := by rw [(srtI_perm _).length_eq, List.length_map]
  have I2 := I1.laid (h' := sortedHeap (h'.push (seqObj "list" acc.toList.toArray 0)) h'.objs.size acc.toList out) (t' := tk) (a := h'.objs.size) (o := .lst ((srtI (qs.map (·.1))).map V.int)) (fun b u e => by
      have hlt := Heap.lt_size e
      rw [sortedHeap_old (Nat.ne_of_lt hlt) (by rw [size_push']; exact Nat.lt_succ_of_lt hlt)]
      exact Heap.get?_push_of_some _ e) (Nat.le_refl _)
    ⟨by rw [List.length_map, ll]; exact Nat.le_trans (Nat.le_of_lt h64) (by decide), out.toList, e, D3.vals_ints a1, by simpa [seqObj] using he⟩
  exact ⟨.ref _, _, I2, rfl, q _ hn⟩
end
end XK
namespace XK
open PySem PySem.Spec PyProof.Rows L2 My D3
theorem hu1 {n : Nat} (h : n + 64 < cLine) : n + 1 < cLine := by omega
abbrev dkI (qs : List (Int × Int)) : List (Key × V) := qs.map fun q => (.inl q.1, .int q.2)
theorem put_ii (qs : List (Int × Int)) (j v : Int) : putK (dkI qs) (.inl j) (.int v) = dkI (putI qs j v) := by
  have h : ((dkI qs).any fun kv => decide (kv.1 = .inl j)) = qs.any fun q => decide (q.1 = j) := by
    unfold dkI
    rw [List.any_map]
    congr 1
    funext q
    by_cases z : q.1 = j <;> simp [z]
  unfold putK putI
  rw [h]
  split
  · unfold dkI
    rw [List.map_map, List.map_map]
    refine List.map_congr_left fun q _ => ?_
    by_cases z : q.1 = j <;> simp [z]
  · simp [dkI]
section
variable {K : PySem.W.Frag} {fl : List Fl}
theorem own_dic {G : Gh} {ow : Ow} {σ : L2.St} {H : Hp} {δ : DS} {i : Nat} {x : D} {qs : List (Int × Int)} (R : Rel K fl G ow σ H δ) (hfl : fl[i]? = some .N) (hx : dVar i δ = some x) (hq : asDic x = some qs) :
    ∃ a, σ[i]? = some (some (.ref a)) ∧ H a = some (.dK (dkI qs)) ∧ ∀ H', Same H H' → ∀ qs', ∃ ow', Rel K fl G ow' σ (upd H' a (.dK (dkI qs'))) (δ.set i (some (.d (dcD qs')))) := by
  have e := dVar_eq hx
  have hi : i < δ.length := by
    rcases Nat.lt_or_ge i δ.length with z | z
    · exact z
    · rw [List.getElem?_eq_none z] at e; cases e
  obtain ⟨v, h1, h2, h3⟩ := R.nr i x (by rw [hfl]; rfl) e
  generalize hN : ow.n i = as at h2 h3
  cases h2 with
  | dic ha =>
    rename_i a kvs
    have ha' := ha
    rw [dh0_ii hq, dk0_ii hq] at ha'
    refine ⟨a, h1, ha', fun H' s qs' => ?_⟩
    refine (R.grow s).mutN (as := [a]) hfl hi (by rw [hN]; exact List.mem_singleton_self _) (s _ _ ha) h1 ?_ (fun b hb => by rw [hN]; exact hb) (List.nodup_cons.mpr ⟨List.not_mem_nil, .nil⟩)
    refine .dic ?_
    rw [dh0_dc]
    exact upd_same
  | non => cases hq
  | bl _ => cases hq
  | int _ => cases hq
  | str _ => cases hq
  | lst _ _ => cases hq
  | tup _ _ => cases hq
end
def rSetK : V → V → V → Hp → (Hp → Prop) → Prop := fun o i v H Q => ∃ p kvs k, o = .ref p ∧ i = kV k ∧ H p = some (.dK kvs) ∧ kvs.length < sizeLine ∧ Q (upd H p (.dK (putK kvs k v)))
section
variable {X : Cx} {fl : List Fl} {e a b c ke : Expr} {f fa fb fc fk : FE} {pos : Pos}
theorem set_dicK (hu : X.A.units + 1 < cLine) : PSet X rSetK := by
  intro pins s σ H o i v ov iv u Q I ro ri rv h
  obtain ⟨p, kvs, k, rfl, rfl, hp, hl, q⟩ := h
  cases ro
  exact d_setItem hu I (DPut.k hp hl) ri rv fun s' I' => ⟨_, I', q⟩
theorem ds_kput (hu : X.A.units + 1 < cLine) {i : Nat} {x : Str} {vpos spos : Pos} (hfl : fl[i]? = some .N) (h : DE X fl .P e f) (hk : DE X fl .P ke fk) (hN : X.N[i]? = some x) (hv : Vis X.env.scope x := by first | exact Or.inl rfl | exact Or.inr (Or.inl rfl) | exact Or.inr (Or.inr rfl)) (hd : (x == ("__debug__" : Str)) = false := by decide)
    (hcd : (x == ("__classdict__" : Str)) = false := by decide) (ha : ∀ v, assign (.Subscript (.Name x vpos) ke spos) X.env v = (do
      let ov ← holding [v] (eval (.Name x vpos) X.env)
      let iv ← holding [v, ov] (eval ke X.env)
      standAt spos
      holding [v, ov, iv] (setItem ov iv v)
      release [v, ov, iv] []) := by intro _; rfl)
    (hs : swapsWithSole [.Subscript (.Name x vpos) ke spos] e pos.line X.env = pure false := by rfl) (hw : swappedStores [.Subscript (.Name x vpos) ke spos] e X.env = pure none := by rfl)
    (h1 : (assignEach [.Subscript (.Name x vpos) ke spos] X.env).map (·.2) = [assign (.Subscript (.Name x vpos) ke spos) X.env] := by rfl) :
    DS1 X fl (.Assign [.Subscript (.Name x vpos) ke spos] e pos) (sKPut i fk f) :=
  PS.imp (ps_asg h (pg_sub (pe_var hN hv hd hcd) hk (set_dicK hu) ha) hs hw h1) fun Dn σ H h => by
  obtain ⟨G, ow, δ, o, R, hf, q⟩ := h
  obtain ⟨d, e2, hg⟩ := bind1 hf
  clear hf
  have hf := hg
  clear hg
  obtain ⟨y, e1, hg⟩ := bind1 hf
  clear hf
  have hf := hg
  clear hg
  obtain ⟨k, e3, hg⟩ := bind1 hf
  clear hf
  have hf := hg
  clear hg
  split at hf
  case h_2 => cases hf
  next v0 j =>
  obtain ⟨qs, e4, hg⟩ := bind1 hf
  clear hf
  have hf := hg
  clear hg
  by_cases hl : qs.length < 1000000
  case neg => rw [if_neg hl] at hf; cases hf
  rw [if_pos hl] at hf
  cases hf
  obtain ⟨p, h1, h2, h3⟩ := own_dic R hfl e1 e4
  refine ⟨G, ow, δ, _, R, e2, fun v H' s r => ⟨_, h1, G, ow, δ, _, R.grow s, e3, fun u H2 s2 r2 => ?_⟩⟩
  obtain rfl := RA.intE r2
  obtain rfl := RA.intE r
  obtain ⟨ow', R'⟩ := h3 H2 (s.trans s2) (putI qs j v0)
  refine ⟨p, dkI qs, .inl j, rfl, rfl, (s.trans s2) _ _ h2, by rw [List.length_map]; exact Nat.lt_trans hl (by decide), ?_⟩
  rw [put_ii]
  exact q ow' σ _ R'
theorem de_sortK (hc : X.calm = true) {fa : FA} {p : Pos} (ha : DB X fl .P [e] fa) (hg : Gl X "sorted") (hm : X.mg "sorted" = none)
    (he : starEach [e] X.env = (false, eval e X.env) :: starEach [] X.env := by rfl) (hpl : (backTo pos (starEach [] X.env)).any (·.1) = false := by rfl) : DE X fl .FC (.Call (.Name "sorted" p) [e] [] pos) (dCall gKSort fa) :=
  PE.imp (pe_callB (call_sortedK hc) hg hm (show bootBuiltins "sorted" = some (.builtin "sorted") by decide +kernel) ha (by decide) (by decide) he hpl) fun σ H Q h => by
  obtain ⟨G, ow, δ, d, R, hf, q⟩ := h
  obtain ⟨ds, e1, e2⟩ := bind1 hf
  refine ⟨G, ow, δ, ds, R, e1, fun vs H' s r' => ?_⟩
  unfold gKSort at e2
  split at e2
  · next x =>
    obtain ⟨qs, e3, e4⟩ := bind1 e2
    by_cases h64 : qs.length < 64
    · rw [if_pos h64] at e4
      cases e4
      cases r' with
      | cons r1 r2 =>
        cases r2
        obtain ⟨a, rfl, hx⟩ := asDic_ra e3 r1
        exact ⟨a, qs, rfl, hx, h64, fun l hn => q _ _ (s.trans (same_new hn _)) (.inr ⟨_, _, _, rfl, rfl, s.free hn, upd_same, ra_ints _⟩)⟩
    · rw [if_neg h64] at e4; cases e4
  · cases e2
theorem de_kget2 (hu : X.A.units + 1 < cLine) {apos cpos : Pos} (ha : DE X fl .P a fa) (hb : DE X fl .P b fb) (hc : DE X fl .P c fc) (hm : M2 X a "get" apos b c cpos) : DE X fl .FC (.Call (.Attribute a "get" apos) [b, c] [] cpos) (dKGet2 fa fb fc) :=
  PE.imp (pe_dget2 hu ha hb hc hm) fun σ H Q h => by
  obtain ⟨G, ow, δ, d, R, hf, q⟩ := h
  obtain ⟨x, e1, hg⟩ := bind1 hf
  clear hf
  have hf := hg
  clear hg
  obtain ⟨k, e2, hg⟩ := bind1 hf
  clear hf
  have hf := hg
  clear hg
  obtain ⟨z, e3, hg⟩ := bind1 hf
  clear hf
  have hf := hg
  clear hg
  obtain ⟨qs, e4, hg⟩ := bind1 hf
  clear hf
  have hf := hg
  clear hg
  split at hf
  case h_2 => cases hf
  next i j =>
  cases hf
  refine ⟨G, ow, δ, x, R, e1, fun v H1 s1 r1 => ?_⟩
  obtain ⟨p, rfl, hp⟩ := asDic_ra e4 r1
  refine ⟨p, rfl, .inl ⟨_, hp⟩, G, ow, δ, _, R.grow s1, e2, fun u H2 s2 r2 => ⟨G, ow, δ, _, R.grow (s1.trans s2), e3, fun w H3 s3 r3 => ?_⟩⟩
  obtain rfl := RA.intE r2
  obtain rfl := RA.intE r3
  refine ⟨_, dget_ii i (rd_same (s2.trans s3) hp), ?_⟩
  have e : ((keyI qs i).map V.int).getD (.int j) = .int ((keyI qs i).getD j) := by cases keyI qs i <;> rfl
  rw [e]
  exact q _ H3 ((s1.trans s2).trans s3) (.inl ⟨rfl, .int _⟩)
end
end XK
namespace XK
open PySem PySem.Spec PyProof.Rows L2 My D3
def Loos (X : Cx) (a : Addr) : Prop := (∀ xs, X.H₀ a ≠ some (.tup xs)) ∧ (∀ o u, X.H₀ a ≠ some (.frz o u)) ∧ ∀ q p, X.H₀ a ≠ some (.tbl q p)
section
variable {X : Cx} {pins : List (Addr × Obj)} {σ : L2.St} {H H' : Hp} {s : Shared} {a : Addr} {kvs : List (Key × V)} {o : Obj}
theorem loos_of (I : L2.Inv X pins σ H s) (h : H a = some (.dK kvs)) : Loos X a :=
  ⟨fun xs z => (by rw [I.base.tups a xs z] at h; cases h), fun o u z => (by rw [I.base.frzs a o u z] at h; cases h), fun q p z => (by
    rw [I.base.tbls a q p z] at h; cases h)⟩
theorem inv_re (I : L2.Inv X pins σ H s) (hn : Loos X a) (ha : H a ≠ none) (hb : ∀ b, b ≠ a → H' b = H b) (hok : HOk X.prog X.w H' s.heap) : L2.Inv X pins σ H' s := by
  have no : ∀ b, H b = none → H' b = none := fun b z => by
    rw [hb b (fun e => ha (by rw [← e]; exact z))]
    exact z
  refine ⟨I.ok, I.os, I.bare, ⟨I.base.keep, I.base.slot, fun b o e n hx => no b (I.base.free b o e n hx), I.base.there, fun b xs e => ?_, fun b o u e => ?_, fun b q p e => ?_⟩, I.loc, I.cell, no _ I.free, fun x c e => no _ (I.freeC x c e), fun p hp => ?_, hok, I.len⟩
  · rw [hb b (fun z => hn.1 xs (by rw [← z]; exact e))]
    exact I.base.tups b xs e
  · rw [hb b (fun z => hn.2.1 o u (by rw [← z]; exact e))]
    exact I.base.frzs b o u e
  · rw [hb b (fun z => hn.2.2 q p (by rw [← z]; exact e))]
    exact I.base.tbls b q p e
  · obtain ⟨h1, h2, h3⟩ := I.pin p hp
    exact ⟨h1, no _ h2, h3⟩
theorem inv_frz (I : L2.Inv X pins σ H s) (h : H a = some (.dK kvs)) (ho : s.heap.get? a = some o) : L2.Inv X pins σ (upd H a (.frz o (.dK kvs))) s := by
  have mu : Mut (H a) := by rw [h]; exact True.intro
  refine inv_re I (loos_of I h) (by rw [h]; simp) (fun b hb => upd_ne hb) (I.hok.write mu (.inl rfl) (fun _ _ _ q => q) ⟨o, ho⟩ ⟨ho, ?_⟩)
  exact (I.hok a _ h).stay (fun _ _ _ q => q) (fun b q => by rw [upd_ne (ne_of q h (by intro z; cases z))]; exact q) (fun b xs q => by rw [upd_ne (ne_of q h (by intro z; cases z))]; exact q)
theorem inv_thaw (I : L2.Inv X pins σ H s) (hn : Loos X a) (h : H a = some (.frz o (.dK kvs))) : L2.Inv X pins σ (upd H a (.dK kvs)) s := by
  have st : ∀ b u, ObjOk X.prog X.w H s.heap b u → ObjOk X.prog X.w (upd H a (.dK kvs)) s.heap b u := fun b u z =>
    z.stay (fun _ _ _ q => q) (fun c q => by rw [upd_ne (ne_of q h (by intro z; cases z))]; exact q) (fun c xs q => by rw [upd_ne (ne_of q h (by intro z; cases z))]; exact q)
  refine inv_re I hn (by rw [h]; simp) (fun b hb => upd_ne hb) fun b u e => ?_
  by_cases hb : b = a
  · subst hb
    rw [upd_same] at e
    cases e
    exact st _ _ (I.hok b _ h).2
  · rw [upd_ne hb] at e
    exact st b u (I.hok b u e)
end
def Itk (o : Obj) (a : Addr) (kvs : List (Key × V)) : It :=
  ⟨fun i H => H a = some (.frz o (.dK kvs)) ∧ i < kvs.length, fun i H x H' => H' = H ∧ ∃ k v, kvs[i]? = some (k, v) ∧ x = kV k, fun i H => H a = some (.frz o (.dK kvs)) ∧ kvs.length ≤ i⟩
theorem frz_at {X : Cx} {pins : List (Addr × Obj)} {σ : L2.St} {H : Hp} {s : Shared} {a : Addr} {kvs : List (Key × V)} {o : Obj} {es : Array DictEntry} {ep : Nat} (I : L2.Inv X pins σ H s) (h : H a = some (.frz o (.dK kvs))) (hd : o.data = .dict es ep) :
    ∃ vs, KV kvs vs ∧ s.heap.DictAt (mixKind X.prog X.w) a vs ep := by
  obtain ⟨ho, _, _, vs, rel, o', es', ep', e', c1, c2, c3⟩ := I.hok a _ h
  rw [ho] at e'
  cases e'
  rw [hd] at c2
  cases c2
  exact ⟨vs, rel, o, es, ho, c1, hd, c3⟩
theorem kV_rel {P : Program} {w : World} {k : Key} {v : Value} (h : (mixKind P w).is k v = true) : RelV (kV k) v := by
  rw [mixKind_is] at h
  rcases keyIs_shape h with ⟨i, t, rfl, rfl⟩ | ⟨x, t, rfl, rfl⟩
  · exact ⟨t, rfl⟩
  · exact ⟨t, rfl⟩
theorem turn_dic {P : Program} {w : World} {K : PySem.W.Frag} {tg : Expr} (o : Obj) (a it : Addr) (kvs : List (Key × V)) {es : Array DictEntry} {ep : Nat} (hd : o.data = .dict es ep) : Turn P w K tg (Itk o a kvs) [it] it (fun i h => h.IsKeyIter it a i kvs.length ep) where
  mem := by simp
  obj := fun i h st b hb => by
    have e : b = it := by simpa using hb
    subst e
    obtain ⟨o, e, c, d⟩ := st
    exact ⟨o, e, fun v z => by rw [d] at z; cases z⟩
  keep := fun i h h' st k => by
    obtain ⟨o, e, r⟩ := st
    exact ⟨o, k it (by simp) o e, r⟩
  item := by
    intro X hP hw hK hc i pins s σ H E I hf st hg
    subst hP hw hK
    obtain ⟨hq, hi⟩ := hg
    obtain ⟨vs, rel, dat⟩ := frz_at I hq hd
    have ln := rel.length
    rw [ln] at hi
    obtain ⟨f0, f1, f2, f3, f4, f5⟩ := hf it (by simp)
    obtain ⟨⟨k, x⟩, hx⟩ : ∃ p, vs[i]? = some p := ⟨vs[i], by simp [hi]⟩
    have hk : ∃ v, kvs[i]? = some (k, v) := by
      have e1 : (vs.map (·.1))[i]? = some k := by rw [List.getElem?_map, hx]; rfl
      rw [← rel.keys, List.getElem?_map] at e1
      cases e2 : kvs[i]? with
      | none => rw [e2] at e1; cases e1
      | some p =>
        rw [e2] at e1
        obtain ⟨k', v⟩ := p
        have : k' = k := by simpa using e1
        subst this
        exact ⟨v, rfl⟩
    obtain ⟨v, hk⟩ := hk
    rw [ln] at st
    refine wpAny_pyNext_dict_item st dat hx fun key h' hkey hit' hs' => ?_
    have I1 : L2.Inv X pins σ H { s with heap := h' } := I.turned (t' := s.toks) (fun b o hb e => (hs'.2 b hb).trans e) f0 f1 f3 f4 f5
    obtain ⟨oi, e, c, d⟩ := id hit'
    exact ⟨key, rfl, go_of (s := { s with heap := h' }) e c d (by decide) ⟨kV k, H, I1, kV_rel hkey, ⟨rfl, k, v, hk, rfl⟩, by rw [ln]; exact hit', fun b hb => (hf b hb).1⟩⟩
  done := by
    intro X hP hw hK hc i pins s σ H E I hf st hg
    subst hP hw hK
    obtain ⟨hq, hi⟩ := hg
    obtain ⟨vs, rel, dat⟩ := frz_at I hq hd
    have ln := rel.length
    rw [ln] at st hi
    obtain ⟨f0, f1, f2, f3, f4, f5⟩ := hf it (by simp)
    exact wpAny_pyNext_dict_end (I.ok.hd hc) st dat (List.getElem?_eq_none hi) fun h' eb => ⟨rfl, I.turned (t' := s.toks) (fun b o hb e => eb b o hb e) f0 f1 f3 f4 f5⟩
  self := fun _ _ _ _ _ st h => wpAny_pyIter_keyiter st h
def iDic (X : Cx) (tl : TE) : TI := fun σ H R => tl σ H fun x H1 => ∃ a kvs, x = .ref a ∧ ((H1 a = some (.dK kvs) ∧ ∀ o, Loos X a → R (Itk o a kvs) (upd H1 a (.frz o (.dK kvs)))) ∨ ∃ o, H1 a = some (.frz o (.dK kvs)) ∧ R (Itk o a kvs) H1)
theorem pi_dic {X : Cx} {tg l : Expr} {tl : TE} (hl : PE X l tl) : PI X tg l (iDic X tl) := by
  intro pins s σ H R I h
  refine thn (hl pins s σ H _ I h) fun v s1 ⟨x, H1, I1, r1, q1⟩ => ?_
  obtain ⟨a, kvs, e, q⟩ := q1
  subst e
  cases r1
  have rd : L2.Rd H1 a (.dK kvs) := q.elim (fun z => .inl z.1) (fun ⟨o, z, _⟩ => .inr ⟨o, z⟩)
  obtain ⟨_, lo, vs, rel, ob, es, ep, eo, c1, hd, c3⟩ := dk_rd I1.hok rd
  have dat : s1.heap.DictAt (mixKind X.prog X.w) a vs ep := ⟨ob, es, eo, c1, hd, c3⟩
  refine wpAny_pyIter_dict lo dat ?_
  have Ip : L2.Inv X pins σ H1 { s1 with heap := s1.heap.push { cls := .type "dict_keyiterator", data := .fields #[.ref a, .int 0 0, .int vs.length 0, .int ep 0] } } := I1.kept (t' := s1.toks) fun b o e => Heap.get?_push_of_some _ e
  have st : (s1.heap.push { cls := .type "dict_keyiterator", data := .fields #[.ref a, .int 0 0, .int vs.length 0, .int ep 0] }).IsKeyIter s1.heap.objs.size a 0 kvs.length ep := ⟨_, Heap.get?_push_size _ rfl, rfl, by rw [rel.length]; rfl⟩
  have fr : H1 s1.heap.objs.size = none := I1.hok.fresh (Nat.le_refl _)
  rcases q with ⟨hq, q⟩ | ⟨o, hq, q⟩
  · refine ⟨s1.heap.objs.size, [s1.heap.objs.size], _, _, _, rfl, inv_frz Ip hq (Heap.get?_push_of_some _ eo), turn_dic ob a _ kvs hd, st, fun b hb => ?_, q ob (loos_of I1 hq)⟩
    have e : b = s1.heap.objs.size := by simpa using hb
    subst e
    refine I1.fpOk (Nat.le_refl _) ?_
    rw [upd_ne (fun z => by rw [z, hq] at fr; cases fr)]
    exact fr
  · have eq : ob = o := by
      have := (I1.hok a _ hq).1
      rw [eo] at this
      exact Option.some.inj this
    subst eq
    refine ⟨s1.heap.objs.size, [s1.heap.objs.size], _, _, _, rfl, Ip, turn_dic ob a _ kvs hd, st, fun b hb => ?_, q⟩
    have e : b = s1.heap.objs.size := by simpa using hb
    subst e
    exact I1.fpOk (Nat.le_refl _) fr
section
variable {K : PySem.W.Frag} {H : Hp} {a : Addr} {kvs : List (Key × V)} {o : Obj}
theorem dh0_frz {kvs : List (D × D)} {o : Obj} {u : HO} (h : dh0 kvs = .frz o u) : False := by
  rcases dh0_or kvs with ⟨ks, z⟩ | ⟨ks, z⟩ <;> (rw [z] at h; cases h)
mutual
theorem ra_frz {ok : Ok} (h : H a = some (.dK kvs)) : ∀ {v : V} {d : D}, RA K ok true H v d → RA K ok true (upd H a (.frz o (.dK kvs))) v d
  | _, _, .non => .non
  | _, _, .bl b => .bl b
  | _, _, .int i => .int i
  | _, _, .str x => .str x
  | _, _, .lst e k q => .lst (by rw [upd_ne (ne_of e h (by intro z; cases z))]; exact e) k (ras_frz h q)
  | _, _, .lsk e k q => .lsk (by
      rcases e with ⟨o', e⟩ | e
      · exact .inl ⟨o', by rw [upd_ne (ne_of e h (by intro z; cases z))]; exact e⟩
      · exact .inr e) k (ras_frz h q)
  | _, _, .tup e q => .tup (by unfold SqT0; rw [upd_ne (ne_of e h (by intro z; cases z))]; exact e) (ras_frz h q)
  | _, _, .dic (a := b) e k => by
    by_cases hb : b = a
    · subst hb
      rw [h] at e
      exact .dik (by rw [upd_same]; injection e with e; rw [e]) rfl
    · exact .dic (by rw [upd_ne hb]; exact e) k
  | _, _, .dik e k => .dik (by rw [upd_ne (ne_of e h (by intro z; cases z))]; exact e) k
theorem ras_frz {ok : Ok} (h : H a = some (.dK kvs)) : ∀ {v : List V} {d : List D}, RAs K ok true H v d → RAs K ok true (upd H a (.frz o (.dK kvs))) v d
  | _, _, .nil => .nil
  | _, _, .cons e q => .cons (ra_frz h e) (ras_frz h q)
end
mutual
theorem ra_thaw {ok : Ok} (h : H a = some (.frz o (.dK kvs))) : ∀ {v : V} {d : D}, RA K ok false H v d → RA K ok false (upd H a (.dK kvs)) v d
  | _, _, .non => .non
  | _, _, .bl b => .bl b
  | _, _, .int i => .int i
  | _, _, .str x => .str x
  | _, _, .lst e k q => .lst (by rw [upd_ne (ne_of e h (by intro z; cases z))]; exact e) k (ras_thaw h q)
  | _, _, .lsk e k q => by cases k
  | _, _, .tup e q => .tup (by unfold SqT0; rw [upd_ne (ne_of e h (by intro z; cases z))]; exact e) (ras_thaw h q)
  | _, _, .dic e k => .dic (by rw [upd_ne (ne_of e h (by intro z; exact dh0_frz z))]; exact e) k
  | _, _, .dik e k => by cases k
theorem ras_thaw {ok : Ok} (h : H a = some (.frz o (.dK kvs))) : ∀ {v : List V} {d : List D}, RAs K ok false H v d → RAs K ok false (upd H a (.dK kvs)) v d
  | _, _, .nil => .nil
  | _, _, .cons e q => .cons (ra_thaw h e) (ras_thaw h q)
end
end
section
variable {X : Cx} {fl fl' : List Fl} {e b c elt tg iter : Expr} {es ifs : List Expr} {k : Kd} {f fa fb fc fx : FE} {ft gt : FT} {pos : Pos} {scope : Scope} {ix L TT : List Nat} {fi : FA} {g : FG}
theorem comp_run {σ : L2.St} {H1 : Hp} {Q : VK} {t : Nat} {δ : DS} {l r : List D} {J : It} {Dl : Addr} {tb : Tb H1} (htg : ∀ j ∈ TT, j < t) (R : Rel X.K fl' ⟨H1, H1, fun _ => none, fun _ => [], tb⟩ ow0 (capσ t ix σ) H1 (capD t ix δ))
    (hl : l.length ≤ 100000) (e3 : compD g ft f (capD t ix δ) l = some r) (hD : H1 Dl = none)
    (wk : ∀ H2, Same H1 H2 → ∀ i : Nat, (∀ d, l[i]? = some d → J.go i H2 ∧ ∀ x H3, J.yld i H2 x H3 → Same H2 H3 ∧ RA X.K ok1 true H3 x d) ∧ (l.length ≤ i → J.stop i H2))
    (q : ∀ H2 xs, Same H1 H2 → H2 Dl = some (.lst xs) → RAs X.K (fun b => okN H1 b ∧ b ≠ Dl) false H2 xs r → Q (.ref Dl) H2) :
    ∃ W : Nat → Nat → List V → Hp → Prop, (∃ m, W 0 m [] (upd H1 Dl (.lst []))) ∧
      ∀ i m xs H2, W i m xs H2 → H2 Dl = some (.lst xs) ∧ ((J.stop i H2 ∧ Q (.ref Dl) H2) ∨ (J.go i H2 ∧ xs.length < sizeLine ∧ ∀ x H3, J.yld i H2 x H3 → tDG X.K fl' TT g x (capσ t ix σ) H3 fun σ4 H4 => σ4.drop t = (capσ t ix σ).drop t ∧
        tDT X.K fl' ft σ4 H4 fun b H5 => if b = true then tD X.K fl' .C f σ4 H5 fun v H6 => H6 Dl = some (.lst xs) ∧ ∃ m', m' < m ∧ W (i + 1) m' (xs ++ [v]) (upd H6 Dl (.lst (xs ++ [v]))) else ∃ m', m' < m ∧ W (i + 1) m' xs H5)) := by
  let okD : Ok := fun b => okN H1 b ∧ b ≠ Dl
  refine ⟨fun i m xs H2 => m = l.length - i ∧ H2 Dl = some (.lst xs) ∧ Same H1 H2 ∧ xs.length ≤ i ∧ i ≤ l.length ∧ ∃ ds rest, RAs X.K okD false H2 xs ds ∧ compD g ft f (capD t ix δ) (l.drop i) = some rest ∧ r = ds ++ rest,
    ⟨_, rfl, upd_same, same_new hD _, Nat.le_refl _, Nat.zero_le _, [], r, .nil, by simpa using e3, rfl⟩, ?_⟩
  rintro i m xs H2 ⟨rfl, hDl, s2, hxl, hil, ds, rest, hr, hc, rfl⟩
  refine ⟨hDl, ?_⟩
  obtain ⟨w1, w2⟩ := wk H2 s2 i
  by_cases hlt : i < l.length
  · have hdrop : l.drop i = l[i] :: l.drop (i + 1) := List.drop_eq_getElem_cons hlt
    rw [hdrop, compD] at hc
    obtain ⟨δ1, e5, hc⟩ := bind1 hc
    obtain ⟨bb, e6, hc⟩ := bind1 hc
    obtain ⟨go, yl⟩ := w1 l[i] (List.getElem?_eq_getElem hlt)
    refine .inr ⟨go, Nat.lt_of_le_of_lt (Nat.le_trans hxl (Nat.le_trans hil hl)) (by decide), fun x H3 hy => ?_⟩
    obtain ⟨s3, r3⟩ := yl x H3 hy
    have s13 := s2.trans s3
    have Rb := R.grow s13
    refine ⟨_, _, _, _, δ1, Rb, r3.imp (fun _ _ => ⟨fun i z => (by cases z), fun i z => (by cases z)⟩) (fun z => z), e5, fun σ4 R4 keep4 => ⟨?_, ?_⟩⟩
    · apply List.ext_getElem?
      intro n
      rw [List.getElem?_drop, List.getElem?_drop]
      exact keep4 (t + n) fun z => absurd (htg _ z) (by omega)
    · refine ⟨_, _, δ1, bb, R4, e6, fun H5 s5 => ?_⟩
      cases bb with
      | false =>
        rw [if_neg Bool.false_ne_true] at hc ⊢
        have s35 := s3.trans s5
        exact ⟨l.length - (i + 1), by omega, rfl, s35 _ _ hDl, s2.trans s35, by omega, hlt, ds, rest, hr.same s35, hc, rfl⟩
      | true =>
        rw [if_pos rfl] at hc ⊢
        obtain ⟨y, e7, hc⟩ := bind1 hc
        obtain ⟨l', e8, hc⟩ := bind1 hc
        cases hc
        refine ⟨_, _, δ1, y, R4.grow s5, e7, fun v H6 s6 r6 => ?_⟩
        have s35 := s3.trans s5
        have s36 := s35.trans s6
        refine ⟨s36 _ _ hDl, l.length - (i + 1), by omega, rfl, upd_same, ?_, by rw [List.length_append, List.length_singleton]; omega, hlt, ds ++ [y], l', ?_, e8, by simp⟩
        · intro b o hb
          rw [upd_ne (fun z => by subst z; rw [hD] at hb; cases hb)]
          exact (s2.trans s36) b o hb
        · have nd : ¬ okD Dl := fun z => z.2 rfl
          have s05 : Same H1 H5 := s2.trans s35
          have ry : RA X.K okD false H6 v y := RA.imp (fun b z => ⟨s05.free z, fun e => by subst e; rw [okN, s35 _ _ hDl] at z; cases z⟩) (fun z => z) r6
          exact ((hr.same s36).append (.cons ry .nil)).upd (s36 _ _ hDl) nd
  · have ed : l.drop i = [] := List.drop_eq_nil_of_le (by omega)
    rw [ed, compD] at hc
    cases hc
    refine .inl ⟨w2 (by omega), ?_⟩
    rw [List.append_nil] at q
    exact q H2 xs s2 hDl hr
theorem walk_k {K : PySem.W.Frag} {H1 : Hp} {a : Addr} {o : Obj} {qs : List (Int × Int)} (h : H1 a = some (.frz o (.dK (dkI qs)))) : ∀ H2, Same H1 H2 → ∀ i : Nat, (∀ d, (qs.map fun q => (.int q.1 : D))[i]? = some d → (Itk o a (dkI qs)).go i H2 ∧ ∀ x H3, (Itk o a (dkI qs)).yld i H2 x H3 → Same H2 H3 ∧ RA K ok1 true H3 x d) ∧ ((qs.map fun q => (.int q.1 : D)).length ≤ i → (Itk o a (dkI qs)).stop i H2) := by
  intro H2 s2 i
  refine ⟨fun d hd => ?_, fun hi => ⟨s2 _ _ h, by simpa using hi⟩⟩
  rw [List.getElem?_map] at hd
  cases e : qs[i]? with
  | none => rw [e] at hd; cases hd
  | some p =>
    rw [e] at hd
    cases hd
    have hi : i < qs.length := by
      rcases Nat.lt_or_ge i qs.length with z | z
      · exact z
      · rw [List.getElem?_eq_none z] at e; cases e
    refine ⟨⟨s2 _ _ h, by simpa using hi⟩, fun x H3 hy => ?_⟩
    obtain ⟨rfl, k, v, hk, rfl⟩ := hy
    rw [List.getElem?_map, e] at hk
    cases hk
    exact ⟨Same.refl _, .int _⟩
def thawQ (X : Cx) (Q : VK) : VK := fun v H2 => Q v H2 ∨ ∃ a o kvs, Loos X a ∧ H2 a = some (.frz o (.dK kvs)) ∧ Q v (upd H2 a (.dK kvs))
theorem bridgeK {σ : L2.St} {H : Hp} {Q : VK} {T : List Str} (hfl : ∀ i, i < T.length + ix.length → fl'[i]? = some .A) (htg : ∀ j ∈ TT, j < T.length) (h : tD X.K fl .FC (dComp (fKeys fx) g ft f T.length ix) σ H Q) :
    tComp (iDic X (tD X.K fl .P fx)) (tDG X.K fl' TT g) (tDT X.K fl' ft) (tD X.K fl' .C f) T.length (capσ T.length ix) σ H (thawQ X Q) := by
  obtain ⟨G, ow, δ, d, R, hf, q⟩ := h
  obtain ⟨l, e1, e2⟩ := bind1 hf
  by_cases hl : l.length ≤ 100000
  case neg => rw [if_neg hl] at e2; cases e2
  rw [if_pos hl] at e2
  obtain ⟨r, e3, e4⟩ := bind1 e2
  cases e4
  obtain ⟨x, e5, e6⟩ := bind1 e1
  cases e7 : asDic x with
  | none => rw [e7] at e6; cases e6
  | some qs =>
  rw [e7] at e6
  cases e6
  refine ⟨G, ow, δ, x, R, e5, fun v H1 s1 r1 => ?_⟩
  have R1 := R.grow s1
  have C1 := cap_rel (fl' := fl') T.length ix hfl R1 (Same.refl H1)
  obtain ⟨a, rfl, hr⟩ := asDic_ra e7 r1
  refine ⟨a, dkI qs, rfl, ?_⟩
  rcases hr with hr | ⟨o, hr⟩
  · refine .inl ⟨hr, fun o lo Dl hD => ?_⟩
    have hDa : Dl ≠ a := fun z => by rw [z, upd_same] at hD; cases hD
    have tb2 : Tb (upd H1 a (.frz o (.dK (dkI qs)))) := fun t ht => by rw [upd_ne (ne_of (C1.tb t ht) hr (by simp))]; exact C1.tb t ht
    have C2 : Rel X.K fl' ⟨upd H1 a (.frz o (.dK (dkI qs))), upd H1 a (.frz o (.dK (dkI qs))), fun _ => none, fun _ => [], tb2⟩ ow0 (capσ T.length ix σ) (upd H1 a (.frz o (.dK (dkI qs)))) (capD T.length ix δ) := by
      refine ⟨Same.refl _, Same.refl _, C1.len, fun i b h => (by cases h), fun i j b h => (by cases h), fun i h => rfl, fun i d h1 hn h2 => ?_, C1.oo, fun i b h => (by cases h), fun i j b h => (by cases h), fun i j b h => (by cases h), fun i h => rfl, fun i d hn h1 => ?_⟩
      · obtain ⟨v, h3, h4⟩ := C1.dat i d h1 hn h2
        exact ⟨v, h3, ra_frz hr h4⟩
      · have hi : i < T.length + ix.length := by
          have h2 : i < (capD T.length ix δ).length := by
            rcases Nat.lt_or_ge i (capD T.length ix δ).length with z | z
            · exact z
            · rw [List.getElem?_eq_none z] at h1; cases h1
          unfold capD at h2
          simpa using h2
        rw [hfl i hi] at hn
        cases hn
    refine comp_run (Q := thawQ X Q) htg C2 hl e3 hD (walk_k upd_same) fun H2 xs s2 hDl rs => Or.inr ⟨a, o, dkI qs, lo, s2 _ _ upd_same, ?_⟩
    have sm : Same H (upd H2 a (.dK (dkI qs))) := fun b u hb => by
      by_cases z : b = a
      · subst z
        have := s1 _ _ hb
        rw [hr] at this
        rw [upd_same]
        exact this
      · rw [upd_ne z]
        exact s2 b u (by rw [upd_ne z]; exact s1 b u hb)
    refine q _ _ sm (.inr ⟨Dl, xs, r, rfl, rfl, s1.free (by rw [upd_ne hDa] at hD; exact hD), by rw [upd_ne hDa]; exact hDl, ?_⟩)
    refine (ras_thaw (s2 _ _ upd_same) rs).imp (fun b z => ⟨?_, z.2⟩) (fun z => z)
    have z1 := z.1
    unfold okN at z1 ⊢
    have hb : b ≠ a := fun w => by rw [w, upd_same] at z1; cases z1
    rw [upd_ne hb] at z1
    exact s1.free z1
  · refine .inr ⟨o, hr, fun Dl hD => ?_⟩
    have C2 : Rel X.K fl' ⟨H1, H1, fun _ => none, fun _ => [], C1.tb⟩ ow0 (capσ T.length ix σ) H1 (capD T.length ix δ) := C1
    refine comp_run (Q := thawQ X Q) htg C2 hl e3 hD (walk_k hr) fun H2 xs s2 hDl rs => Or.inl (q _ _ (s1.trans s2) (.inr ⟨Dl, xs, r, rfl, rfl, s1.free hD, hDl, rs.imp (fun b z => ⟨s1.free z.1, z.2⟩) (fun z => z)⟩))
theorem de_compK (hc : X.calm = true) (T Vn : List Str) (ix : List Nat) (hi : DE X fl .P iter fx)
    (hg : ∀ cl C s3 H3 fp, DG (blk X (T ++ Vn) scope cl C s3 H3 fp) fl' TT tg g) (ht : ∀ cl C s3 H3 fp, PTs (blk X (T ++ Vn) scope cl C s3 H3 fp) ifs (tDT X.K fl' ft)) (he : ∀ cl C s3 H3 fp, DE (blk X (T ++ Vn) scope cl C s3 H3 fp) fl' .C elt f)
    (hfl : ∀ i, i < T.length + ix.length → fl'[i]? = some .A := by decide) (htg : ∀ j ∈ TT, j < T.length := by decide)
    (hB : capB X.N X.env.scope.names scope.names Vn ix = true := by rfl) (hk : scope.kind = .function := by rfl) (hcell : ∀ y ∈ scope.names, y.2 ≠ .cell := by decide +kernel)
    (hnames : ∀ x ∈ scope.names, x.2 = .local → scope.names.lookup x.1 = some .local := by decide +kernel)
    (hfr : ∀ x ∈ scope.names, x.2 = .free → x.1 ∈ Vn := by decide +kernel) (hs : ∀ x, foldedSetIterable iter X.env x = pure x := by intro _; rfl) :
    DE X fl .FC (.ListComp elt [⟨tg, iter, ifs, 0⟩] scope pos) (dComp (fKeys fx) g ft f T.length ix) := by
  intro pins s σ H Q I h
  have run := pe_comp (g := tDG X.K fl' TT g) (tt := tDT X.K fl' ft) (te := tD X.K fl' .C f) (pos := pos) hc T Vn ix (pi_dic hi) hg ht he hB hk hcell hnames hfr hs pins s σ H (thawQ X Q) I (bridgeK hfl htg h)
  refine thn run fun v s' ⟨x, H2, I2, rx, hq⟩ => ?_
  rcases hq with hq | ⟨a, o, kvs, lo, ha, hq⟩
  · exact ⟨x, H2, I2, rx, hq⟩
  · exact ⟨x, _, inv_thaw I2 lo ha, rx, hq⟩
end
end XK
namespace XK
open PySem PyProof.Rows
theorem wpAny_alive {M : Model} {A : Around} {E : Value → Shared → Prop} {s : Shared} {a : Addr} {Q : Option Obj → Shared → Prop} (h : Q (s.heap.get? a) s) : wpAny M A (loadIfAlive a) Q E s := fun _ _ _ => h
abbrev IsZ1 (h : Heap) (z a0 TI TO : Addr) (b : Bool) : Prop :=
  h.get? z = some { cls := .type "zip", dict := none, data := .fields #[rawInt a0, .bool b, .bool false, .ref TI, .ref TO], slots := #[] }
section
variable {prog : Program} {w : World} {A : Around} {E : Value → Shared → Prop} {s : Shared}
theorem owned_kept {z a0 TI TO : Addr} {b : Bool} {o0 : Obj} {Q : Bool → Shared → Prop} (hz : IsZ1 s.heap z a0 TI TO b) (h0 : s.heap.get? a0 = some o0) (hQ : ∀ h', IsZ1 h' z a0 TI TO true → Heap.SameBut z s.heap h' → Q false { s with heap := h' }) :
    wpAny (model prog w) A (Builtin.SmallTypes.ownedTupleIsFree (.ref z)) Q E s := by
  unfold Builtin.SmallTypes.ownedTupleIsFree
  refine wpAny_bind (wpAny_field hz rfl (x := rawInt a0) rfl ?_)
  show wpAny _ _ (loadIfAlive ((a0 : Int)).toNat >>= _) _ _ _
  refine wpAny_bind (wpAny_alive ?_)
  rw [Int.toNat_natCast, h0]
  show wpAny _ _ (field (.ref z) 1 >>= _) _ _ _
  refine wpAny_bind (wpAny_field hz rfl (x := .bool b) rfl ?_)
  cases b with
  | true =>
    show wpAny _ _ (pure false) _ _ _
    exact wpAny_pure (hQ s.heap hz ⟨rfl, fun _ _ => rfl⟩)
  | false =>
    show wpAny _ _ (setField (.ref z) 1 (.bool true) >>= _) _ _ _
    refine wpAny_bind (wpAny_setField_rec hz (by simp) fun h₁ hz₁ hs₁ => wpAny_pure (hQ h₁ hz₁ hs₁))
theorem zip_more {z a0 TI TO i1 i2 l1 l2 : Addr} {k1 k2 : Nat} {xs ys : Array Value} {x y : Value} {b : Bool} {o0 : Obj} {Q : Value → Shared → Prop} (D : ZipApart z TI TO i1 i2 l1 l2)
    (hz : IsZ1 s.heap z a0 TI TO b) (h0 : s.heap.get? a0 = some o0) (hTI : IsPair s.heap TI (.ref i1) (.ref i2))
    (h1 : s.heap.IsListIter i1 l1 k1) (h2 : s.heap.IsListIter i2 l2 k2) (hl1 : s.heap.IsList l1 xs) (hl2 : s.heap.IsList l2 ys) (hx : xs[k1]? = some x) (hy : ys[k2]? = some y)
    (hQ : ∀ h', IsZ1 h' z a0 TI TO true → h'.IsListIter i1 l1 (k1 + 1) → h'.IsListIter i2 l2 (k2 + 1) → IsPair h' s.heap.objs.size x y →
      (∀ c o, c ≠ z → c ≠ i1 → c ≠ i2 → s.heap.get? c = some o → h'.get? c = some o) → Q (.ref s.heap.objs.size) { s with heap := h' }) :
    wpAny (model prog w) A (Builtin.«zip.__next__» ⟨[.ref z], []⟩) (fun fin s' => ∃ v, fin = .done (.ret v) ∧ Q v s') E s := by
  show wpAny _ _ (field (.ref z) 2 >>= _) _ _ _
  refine wpAny_bind (wpAny_field hz rfl (x := .bool false) rfl ?_)
  show wpAny _ _ (field (.ref z) 3 >>= _) _ _ _
  refine wpAny_bind (wpAny_field hz rfl (x := .ref TI) rfl ?_)
  refine wpAny_bind (wpAny_seqItems hTI rfl ?_)
  show wpAny _ _ (Builtin.SmallTypes.ownedTupleIsFree (.ref z) >>= _) _ _ _
  refine wpAny_bind (owned_kept hz h0 fun h₁ hz₁ hs₁ => ?_)
  simp only [Bool.false_eq_true, if_false]
  refine wpAny_bind ?_
  simp only [← Array.forIn_toList, List.forIn_cons, List.forIn_nil]
  refine wpAny_bind (wpAny_bind (wpAny_holding ?_))
  show wpAny _ _ (Builtin.SmallTypes.nextOf (.ref i1) >>= _) _ _ _
  refine wpAny_bind (wpAny_nextOf_list_item (h1.extBut hs₁.extBut D.i1z) (hl1.extBut hs₁.extBut D.l1z) hx fun h₂ h1₂ hs₂ => wpAny_pure (wpAny_pure ?_))
  refine wpAny_bind (wpAny_bind (wpAny_holding ?_))
  show wpAny _ _ (Builtin.SmallTypes.nextOf (.ref i2) >>= _) _ _ _
  refine wpAny_bind (wpAny_nextOf_list_item ((h2.extBut hs₁.extBut D.i2z).extBut hs₂.extBut D.i12.symm) ((hl2.extBut hs₁.extBut D.l2z).extBut hs₂.extBut D.l2i1) hy fun h₃ h2₃ hs₃ => wpAny_pure (wpAny_pure (wpAny_pure ?_)))
  show wpAny _ _ (newTuple [x, y] >>= _) _ _ _
  refine wpAny_bind (wpAny_newTuple (wpAny_pure ⟨_, rfl, ?_⟩))
  have hsz : h₃.objs.size = s.heap.objs.size := by rw [hs₃.1, hs₂.1, hs₁.1]
  show Q (.ref h₃.objs.size) _
  have k3 : ∀ c o, c ≠ z → c ≠ i1 → c ≠ i2 → s.heap.get? c = some o → h₃.get? c = some o := fun c o c1 c3 c4 e => hs₃.extBut _ _ c4 (hs₂.extBut _ _ c3 (hs₁.extBut _ _ c1 e))
  have hz₃ : IsZ1 h₃ z a0 TI TO true := hs₃.extBut _ _ D.i2z.symm (hs₂.extBut _ _ D.i1z.symm hz₁)
  have up : ∀ c o, h₃.get? c = some o → (h₃.push { cls := .type "tuple", data := .seq #[x, y] }).get? c = some o := fun c o e => Heap.get?_push_of_some _ e
  rw [hsz]
  refine hQ _ (up _ _ hz₃) (((h1₂.extBut hs₃.extBut D.i12)).at fun o e => up _ o e) (h2₃.at fun o e => up _ o e) ?_ fun c o c1 c3 c4 e => up c o (k3 c o c1 c3 c4 e)
  rw [← hsz]
  exact Heap.get?_push_size _ rfl
theorem zip_over {z a0 TI TO i1 i2 l1 l2 : Addr} {k1 k2 : Nat} {xs ys : Array Value} {b : Bool} {o0 : Obj} {Q : Fin → Shared → Prop} (hh : A.handled = none) (D : ZipApart z TI TO i1 i2 l1 l2)
    (hz : IsZ1 s.heap z a0 TI TO b) (h0 : s.heap.get? a0 = some o0) (hTI : IsPair s.heap TI (.ref i1) (.ref i2))
    (h1 : s.heap.IsListIter i1 l1 k1) (h2 : s.heap.IsListIter i2 l2 k2) (hl1 : s.heap.IsList l1 xs) (hl2 : s.heap.IsList l2 ys) (hend : xs[k1]? = none ∨ ys[k2]? = none)
    (hE : ∀ h' e, (∀ c o, c ≠ z → c ≠ i1 → c ≠ i2 → s.heap.get? c = some o → h'.get? c = some o) → (∃ o, h'.get? e = some o ∧ o.cls = .type "StopIteration") → E (.ref e) { s with heap := h' }) :
    wpAny (model prog w) A (Builtin.«zip.__next__» ⟨[.ref z], []⟩) Q E s := by
  show wpAny _ _ (field (.ref z) 2 >>= _) _ _ _
  refine wpAny_bind (wpAny_field hz rfl (x := .bool false) rfl ?_)
  show wpAny _ _ (field (.ref z) 3 >>= _) _ _ _
  refine wpAny_bind (wpAny_field hz rfl (x := .ref TI) rfl ?_)
  refine wpAny_bind (wpAny_seqItems hTI rfl ?_)
  show wpAny _ _ (Builtin.SmallTypes.ownedTupleIsFree (.ref z) >>= _) _ _ _
  refine wpAny_bind (owned_kept hz h0 fun h₁ hz₁ hs₁ => ?_)
  simp only [Bool.false_eq_true, if_false]
  refine wpAny_bind ?_
  simp only [← Array.forIn_toList, List.forIn_cons, List.forIn_nil]
  refine wpAny_bind (wpAny_bind (wpAny_holding ?_))
  show wpAny _ _ (Builtin.SmallTypes.nextOf (.ref i1) >>= _) _ _ _
  cases hx : xs[k1]? with
  | none =>
    refine wpAny_bind (wpAny_nextOf_list_end hh (h1.extBut hs₁.extBut D.i1z) (hl1.extBut hs₁.extBut D.l1z) hx fun h₂ e hs₂ he => ?_)
    exact hE h₂ e (fun c o c1 c3 _ x => hs₂ _ _ c3 (hs₁.extBut _ _ c1 x)) he
  | some x =>
    have hy : ys[k2]? = none := by rcases hend with h | h; rw [hx] at h; cases h; exact h
    refine wpAny_bind (wpAny_nextOf_list_item (h1.extBut hs₁.extBut D.i1z) (hl1.extBut hs₁.extBut D.l1z) hx fun h₂ h1₂ hs₂ => wpAny_pure (wpAny_pure ?_))
    refine wpAny_bind (wpAny_bind (wpAny_holding ?_))
    show wpAny _ _ (Builtin.SmallTypes.nextOf (.ref i2) >>= _) _ _ _
    refine wpAny_bind (wpAny_nextOf_list_end hh ((h2.extBut hs₁.extBut D.i2z).extBut hs₂.extBut D.i12.symm) ((hl2.extBut hs₁.extBut D.l2z).extBut hs₂.extBut D.l2i1) hy fun h₄ e hs₄ he => ?_)
    exact hE h₄ e (fun c o c1 c3 c4 x => hs₄ _ _ c4 (hs₂.extBut _ _ c3 (hs₁.extBut _ _ c1 x))) he
theorem next_more {z a0 TI TO i1 i2 l1 l2 : Addr} {k1 k2 : Nat} {xs ys : Array Value} {x y : Value} {b : Bool} {o0 : Obj} {Q : Option Value → Shared → Prop} (D : ZipApart z TI TO i1 i2 l1 l2)
    (hz : IsZ1 s.heap z a0 TI TO b) (h0 : s.heap.get? a0 = some o0) (hTI : IsPair s.heap TI (.ref i1) (.ref i2))
    (h1 : s.heap.IsListIter i1 l1 k1) (h2 : s.heap.IsListIter i2 l2 k2) (hl1 : s.heap.IsList l1 xs) (hl2 : s.heap.IsList l2 ys) (hx : xs[k1]? = some x) (hy : ys[k2]? = some y)
    (hQ : ∀ h', IsZ1 h' z a0 TI TO true → h'.IsListIter i1 l1 (k1 + 1) → h'.IsListIter i2 l2 (k2 + 1) → IsPair h' s.heap.objs.size x y →
      (∀ c o, c ≠ z → c ≠ i1 → c ≠ i2 → s.heap.get? c = some o → h'.get? c = some o) → Q (some (.ref s.heap.objs.size)) { s with heap := h' }) :
    wpAny (model prog w) A (pyNext (.ref z)) Q E s := by
  have hT : s.TypeIs (.ref z) "zip" := ⟨_, hz, rfl⟩
  unfold pyNext
  exact wpAny_bind (wpAny_attempt (wpAny_callSpecial?_slot (name := Str.ofString "__next__") hT F.slot_zip_next
    (wpAny_call_entry F.slot_zip_next hT F.entry_zip_next (zip_more D hz h0 hTI h1 h2 hl1 hl2 hx hy fun h' a1 a2 a3 a4 a5 => wpAny_pure (hQ h' a1 a2 a3 a4 a5)) (F.args_zip_next_1 _))))
theorem next_over {z a0 TI TO i1 i2 l1 l2 : Addr} {k1 k2 : Nat} {xs ys : Array Value} {b : Bool} {o0 : Obj} {Q : Option Value → Shared → Prop} (hh : A.handled = none) (D : ZipApart z TI TO i1 i2 l1 l2)
    (hz : IsZ1 s.heap z a0 TI TO b) (h0 : s.heap.get? a0 = some o0) (hTI : IsPair s.heap TI (.ref i1) (.ref i2))
    (h1 : s.heap.IsListIter i1 l1 k1) (h2 : s.heap.IsListIter i2 l2 k2) (hl1 : s.heap.IsList l1 xs) (hl2 : s.heap.IsList l2 ys) (hend : xs[k1]? = none ∨ ys[k2]? = none)
    (hQ : ∀ h', (∀ c o, c ≠ z → c ≠ i1 → c ≠ i2 → s.heap.get? c = some o → h'.get? c = some o) → Q none { s with heap := h' }) : wpAny (model prog w) A (pyNext (.ref z)) Q E s := by
  have hT : s.TypeIs (.ref z) "zip" := ⟨_, hz, rfl⟩
  unfold pyNext
  refine wpAny_bind (wpAny_attempt (wpAny_callSpecial?_slot (name := Str.ofString "__next__") hT F.slot_zip_next
    (wpAny_call_entry F.slot_zip_next hT F.entry_zip_next (zip_over hh D hz h0 hTI h1 h2 hl1 hl2 hend fun h' e hk he => ?_) (F.args_zip_next_1 _))))
  obtain ⟨o, ho, hc⟩ := he
  refine wpAny_bind (wpAny_isInstance (T := "StopIteration") (b := true) ⟨o, ho, hc⟩ isSubtype_stop ?_)
  exact wpAny_pure (hQ _ hk)
end
end XK
namespace XK
open PySem PyProof.Rows
structure LZ (h : Heap) (base : Nat) (z TI TO i1 i2 l1 l2 S : Addr) (xs ys : Array Value) (i : Nat) (acc : Array Value) : Prop where
  ti : IsPair h TI (.ref i1) (.ref i2)
  j1 : h.IsListIter i1 l1 i
  j2 : h.IsListIter i2 l2 i
  q1 : h.IsList l1 xs
  q2 : h.IsList l2 ys
  zz : (i = 0 ∧ IsZip h z TI TO .none ∧ ∃ a b, IsPair h TO a b) ∨ ∃ a0 b o0, base ≤ a0 ∧ IsZ1 h z a0 TI TO b ∧ h.get? a0 = some o0
  sz : base ≤ h.objs.size
  al : acc.size = i
  ac : ∀ j, j < i → ∃ a x y, acc[j]? = some (.ref a) ∧ base ≤ a ∧ xs[j]? = some x ∧ ys[j]? = some y ∧ IsPair h a x y
  inj : ∀ (j j' : Nat) (a : Addr), acc[j]? = some (.ref a) → acc[j']? = some (.ref a) → j = j'
  ss : ∃ c, h.get? S = some { cls := .type "list", dict := none, data := .seq acc c, slots := #[] }
section
variable {prog : Program} {w : World} {A : Around} {R : Result → Shared → Prop} {z TI TO i1 i2 l1 l2 S : Addr} {xs ys : Array Value} {base : Nat}
theorem lz_loop (hh : A.in1.handled = none) (D : ZipApart z TI TO i1 i2 l1 l2) (res : Value) (hb : ∀ c, c ∈ [z, TI, TO, i1, i2, l1, l2, S] → c < base) (hS : S ∉ [z, TI, TO, i1, i2, l1, l2]) (hn : xs.size ≤ sizeLine) :
    ∀ (k i : Nat) (s : Shared) (acc : Array Value), min xs.size ys.size - i = k → i ≤ min xs.size ys.size → LZ s.heap base z TI TO i1 i2 l1 l2 S xs ys i acc →
    (∀ h' acc', (∀ c o, c ∉ [z, TO, i1, i2, S] → s.heap.get? c = some o → h'.get? c = some o) → acc'.size = min xs.size ys.size →
      (∀ j, j < min xs.size ys.size → ∃ a x y, acc'[j]? = some (.ref a) ∧ base ≤ a ∧ xs[j]? = some x ∧ ys[j]? = some y ∧ IsPair h' a x y) → (∀ (j j' : Nat) (a : Addr), acc'[j]? = some (.ref a) → acc'[j']? = some (.ref a) → j = j') →
      (∃ c, h'.get? S = some { cls := .type "list", dict := none, data := .seq acc' c, slots := #[] }) → R (.ok (.ret res)) { s with heap := h' }) →
    codeAny (model prog w) A (.builtin "list.extend.loop" ⟨[.ref S, .ref z, res], []⟩) R s := by
  have hSz : S ≠ z := fun e => hS (by simp [e])
  have hST : S ≠ TI := fun e => hS (by simp [e])
  have hSO : S ≠ TO := fun e => hS (by simp [e])
  have hS1 : S ≠ i1 := fun e => hS (by simp [e])
  have hS2 : S ≠ i2 := fun e => hS (by simp [e])
  have hSl : S ≠ l1 := fun e => hS (by simp [e])
  have hSm : S ≠ l2 := fun e => hS (by simp [e])
  have ne : ∀ c, c ∈ [z, TI, TO, i1, i2, l1, l2, S] → ∀ a : Addr, base ≤ a → a ≠ c := fun c hc a ha q => Nat.not_lt.mpr ha (by rw [q]; exact hb c hc)
  intro k
  induction k with
  | zero =>
    intro i s acc hk hi L hR
    have hin : i = min xs.size ys.size := by omega
    have hend : xs[i]? = none ∨ ys[i]? = none := by
      rcases Nat.le_total xs.size ys.size with z | z
      · exact .inl (Array.getElem?_eq_none (by omega))
      · exact .inr (Array.getElem?_eq_none (by omega))
    refine codeAny_builtin F.entry_extend_loop ?_
    rw [Around.under_plainId F.plain_extend_loop _]
    show wpAny _ A.in1 (pyNext (.ref z) >>= _) _ _ s
    have fin : ∀ h', (∀ c o, c ≠ z → c ≠ TO → c ≠ i1 → c ≠ i2 → s.heap.get? c = some o → h'.get? c = some o) → R (.ok (.ret res)) { s with heap := h' } := fun h' hk' => by
      have up : ∀ a o, base ≤ a → s.heap.get? a = some o → h'.get? a = some o := fun a o ha e => hk' a o (ne z (by simp) _ ha) (ne TO (by simp) _ ha) (ne i1 (by simp) _ ha) (ne i2 (by simp) _ ha) e
      obtain ⟨c, hc⟩ := L.ss
      have hc' := hk' S _ hSz hSO hS1 hS2 hc
      refine hR h' acc (fun c o hc e => hk' c o (fun q => hc (by simp [q])) (fun q => hc (by simp [q])) (fun q => hc (by simp [q])) (fun q => hc (by simp [q])) e) (by rw [L.al]; exact hin) (fun j hj => ?_) L.inj ⟨c, hc'⟩
      · obtain ⟨a, x, y, h1, h2, h3, h4, h5⟩ := L.ac j (by omega)
        exact ⟨a, x, y, h1, h2, h3, h4, up a _ h2 h5⟩
    rcases L.zz with ⟨h0, hz, a, b, hTO⟩ | ⟨a0, b, o0, _, hz, h0⟩
    · exact wpAny_bind (wpAny_pyNext_zip_end hh D hz L.ti hTO L.j1 L.j2 L.q1 L.q2 hend fun h' hk' => wpAny_pure (fin h' hk'))
    · exact wpAny_bind (next_over hh D hz h0 L.ti L.j1 L.j2 L.q1 L.q2 hend fun h' hk' => wpAny_pure (fin h' fun c o c1 _ c3 c4 e => hk' c o c1 c3 c4 e))
  | succ k ih =>
    intro i s acc hk hi L hR
    have hlt : i < min xs.size ys.size := by omega
    obtain ⟨x, hx⟩ : ∃ x, xs[i]? = some x := ⟨_, Array.getElem?_eq_getElem (by omega)⟩
    obtain ⟨y, hy⟩ : ∃ y, ys[i]? = some y := ⟨_, Array.getElem?_eq_getElem (by omega)⟩
    refine codeAny_builtin F.entry_extend_loop ?_
    rw [Around.under_plainId F.plain_extend_loop _]
    show wpAny _ A.in1 (pyNext (.ref z) >>= _) _ _ s
    have step : ∀ (h' : Heap), (∃ a0 b o0, base ≤ a0 ∧ IsZ1 h' z a0 TI TO b ∧ h'.get? a0 = some o0) → h'.IsListIter i1 l1 (i + 1) → h'.IsListIter i2 l2 (i + 1) → IsPair h' s.heap.objs.size x y →
        (∀ c o, c ≠ z → c ≠ TO → c ≠ i1 → c ≠ i2 → s.heap.get? c = some o → h'.get? c = some o) →
        wpAny (model prog w) A.in1 (updateSeq S (·.push (.ref s.heap.objs.size)) >>= fun _ => again (.builtin "list.extend.loop" ⟨[.ref S, .ref z, res], []⟩)) (fun fin s' => match fin with | .done f => R (.ok f) s' | .again c' => c'.quiet = true ∧ codeAny (model prog w) A c' R s') (fun e s' => R (.error e) s') { s with heap := h' } := fun h' g1 g3 g4 g5 g7 => by
      obtain ⟨c, hc⟩ := L.ss
      have hc' := g7 S _ hSz hSO hS1 hS2 hc
      have up : ∀ a o, base ≤ a → s.heap.get? a = some o → h'.get? a = some o := fun a o ha e => g7 a o (ne z (by simp) _ ha) (ne TO (by simp) _ ha) (ne i1 (by simp) _ ha) (ne i2 (by simp) _ ha) e
      have oth : ∀ b o, b ≠ S → h'.get? b = some o → (h'.update S (Obj.mapSeq (·.push (.ref s.heap.objs.size)))).get? b = some o := fun b o hb e => (Heap.get?_update_other _ _ (Ne.symm hb)).trans e
      refine wpAny_bind ?_
      refine wpAny_updateSeq hc' rfl (wpAny_pure ⟨plainId_quiet F.plain_extend_loop _, ih (i + 1) _ (acc.push (.ref s.heap.objs.size)) (by omega) (by omega) ⟨?_, ?_, ?_, ?_, ?_, ?_, ?_, ?_, ?_, ?_, ?_⟩ fun h'' acc' hk'' e2 e3 e4 e5 => ?_⟩)
        (by rw [L.al]; omega) (by show (acc.push _).size ≤ sizeLine + 1; rw [Array.size_push, L.al]; omega)
      · exact oth _ _ (Ne.symm hST) (g7 _ _ D.TIz D.TITO D.TIi1 D.TIi2 L.ti)
      · exact g3.at fun o e => oth _ o (Ne.symm hS1) e
      · exact g4.at fun o e => oth _ o (Ne.symm hS2) e
      · obtain ⟨o, ho, r⟩ := L.q1
        exact ⟨o, oth _ _ (Ne.symm hSl) (g7 _ _ D.l1z D.l1TO D.l1i1 D.l1i2 ho), r⟩
      · obtain ⟨o, ho, r⟩ := L.q2
        exact ⟨o, oth _ _ (Ne.symm hSm) (g7 _ _ D.l2z D.l2TO D.l2i1 D.l2i2 ho), r⟩
      · obtain ⟨a0, b, o0, k1, k2, k3⟩ := g1
        exact .inr ⟨a0, b, o0, k1, oth _ _ (Ne.symm hSz) k2, oth _ _ (ne S (by simp) _ k1) k3⟩
      · show base ≤ (h'.update S _).objs.size
        rw [Heap.size_update]
        exact Nat.le_trans L.sz (Nat.le_of_lt (Heap.lt_size g5))
      · rw [Array.size_push, L.al]
      · intro j hj
        by_cases q : j = i
        · subst q
          exact ⟨_, x, y, by rw [← L.al]; simp, L.sz, hx, hy, oth _ _ (ne S (by simp) _ L.sz) g5⟩
        · obtain ⟨a, x', y', k1, k2, k3, k4, k5⟩ := L.ac j (by omega)
          refine ⟨a, x', y', ?_, k2, k3, k4, oth _ _ (ne S (by simp) _ k2) (up a _ k2 k5)⟩
          rw [Array.getElem?_push_lt (by rw [L.al]; omega)]
          rw [Array.getElem?_eq_getElem (by rw [L.al]; omega)] at k1
          exact k1
      · have lt : ∀ (j : Nat) (a : Addr), acc[j]? = some (.ref a) → a < s.heap.objs.size ∧ j < i := fun j a e => by
          have hj : j < i := by
            rcases Nat.lt_or_ge j acc.size with q | q
            · rw [L.al] at q; exact q
            · rw [Array.getElem?_eq_none q] at e; cases e
          obtain ⟨a', x', y', k1, k2, k3, k4, k5⟩ := L.ac j hj
          rw [e] at k1
          cases k1
          exact ⟨Heap.lt_size k5, hj⟩
        have cs : ∀ (j : Nat) (a : Addr), (acc.push (.ref s.heap.objs.size))[j]? = some (.ref a) → (acc[j]? = some (.ref a)) ∨ (j = i ∧ a = s.heap.objs.size) := fun j a e => by
          rw [Array.getElem?_push] at e
          by_cases q : j = acc.size
          · rw [if_pos q] at e
            cases e
            exact .inr ⟨by rw [q, L.al], rfl⟩
          · rw [if_neg q] at e
            exact .inl e
        intro j j' a e e'
        rcases cs j a e with q | ⟨q, r⟩ <;> rcases cs j' a e' with q' | ⟨q', r'⟩
        · exact L.inj j j' a q q'
        · exact absurd (lt j a q).1 (by rw [r']; exact Nat.lt_irrefl _)
        · exact absurd (lt j' a q').1 (by rw [r]; exact Nat.lt_irrefl _)
        · rw [q, q']
      · exact ⟨_, Heap.get?_update_self _ hc' rfl⟩
      · exact hR h'' acc' (fun c o hc e => hk'' c o hc (oth c o (fun q => hc (by simp [q])) (g7 c o (fun q => hc (by simp [q])) (fun q => hc (by simp [q])) (fun q => hc (by simp [q])) (fun q => hc (by simp [q])) e))) e2 e3 e4 e5
    rcases L.zz with ⟨h0, hz, a, b, hTO⟩ | ⟨a0, b, o0, hb0, hz, h0⟩
    · refine wpAny_bind (wpAny_pyNext_zip_item D hz L.ti hTO L.j1 L.j2 L.q1 L.q2 hx hy fun h' g1 g2 g3 g4 g5 g6 g7 => ?_)
      exact step h' ⟨s.heap.objs.size, false, _, L.sz, g1, g5⟩ g3 g4 g5 g7
    · refine wpAny_bind (next_more D hz h0 L.ti L.j1 L.j2 L.q1 L.q2 hx hy fun h' g1 g3 g4 g5 g7 => ?_)
      exact step h' ⟨a0, true, o0, hb0, g1, g7 a0 o0 (ne z (by simp) _ hb0) (ne i1 (by simp) _ hb0) (ne i2 (by simp) _ hb0) h0⟩ g3 g4 g5 fun c o c1 _ c3 c4 e => g7 c o c1 c3 c4 e
end
end XK
namespace XK
open PySem PyProof.Rows
theorem zip_no_len : typeLookup (.type "zip") "__len__" = pure none := by rw [typeLookup_type, builtinLookup_eq_fast]; kernel_rfl
theorem zip_no_hint : typeLookup (.type "zip") "__length_hint__" = pure none := by rw [typeLookup_type, builtinLookup_eq_fast]; kernel_rfl
section
variable {prog : Program} {w : World} {A : Around} {E : Value → Shared → Prop} {s : Shared}
theorem hint_zip {z : Addr} {Q : Bool → Shared → Prop} (hT : s.TypeIs (.ref z) "zip") (h : Q true s) : wpAny (model prog w) A (Builtin.List.listLengthHint (.ref z)) Q E s := by
  unfold Builtin.List.listLengthHint
  refine wpAny_bind (wpAny_specialOf hT zip_no_len ?_)
  show wpAny _ A (specialOf (Value.ref z) (Str.ofString "__length_hint__") >>= _) _ _ _
  exact wpAny_bind (wpAny_specialOf hT zip_no_hint (wpAny_pure h))
theorem list_zip {z TI TO i1 i2 l1 l2 : Addr} {xs ys : Array Value} {a b : Value} {Q : Value → Shared → Prop} (hh : A.handled = none) (D : ZipApart z TI TO i1 i2 l1 l2) (hz : IsZip s.heap z TI TO .none) (hTI : IsPair s.heap TI (.ref i1) (.ref i2)) (hTO : IsPair s.heap TO a b)
    (h1 : s.heap.IsListIter i1 l1 0) (h2 : s.heap.IsListIter i2 l2 0) (hl1 : s.heap.IsList l1 xs) (hl2 : s.heap.IsList l2 ys) (hn : xs.size ≤ sizeLine)
    (hQ : ∀ h' acc c, (∀ c o, c ∉ [z, TO, i1, i2] → s.heap.get? c = some o → h'.get? c = some o) → acc.size = min xs.size ys.size →
      (∀ j, j < min xs.size ys.size → ∃ a x y, acc[j]? = some (.ref a) ∧ s.heap.objs.size < a ∧ xs[j]? = some x ∧ ys[j]? = some y ∧ IsPair h' a x y) → (∀ (j j' : Nat) (a : Addr), acc[j]? = some (.ref a) → acc[j']? = some (.ref a) → j = j') →
      h'.get? s.heap.objs.size = some { cls := .type "list", dict := none, data := .seq acc c, slots := #[] } → Q (.ref s.heap.objs.size) { s with heap := h' }) :
    wpAny (model prog w) A (call (.type "list") [.ref z]) Q E s := by
  refine callType_codes (Q₁ := fun obj s₁ => obj = .ref s.heap.objs.size ∧ s₁ = { s with heap := s.heap.push { cls := .type "list", data := .seq #[] } }) PySem.F.called_list (PySem.F.typeCall_list_1 _) PySem.F.entry_list_init (code_list_new _ ⟨rfl, rfl⟩) fun obj s₁ g => ?_
  obtain ⟨rfl, rfl⟩ := g
  have hS : (s.heap.push { cls := .type "list", data := .seq #[] }).get? s.heap.objs.size = some { cls := .type "list", data := .seq #[] } := Heap.get?_push_size _ rfl
  refine ⟨⟨_, hS, rfl⟩, PySem.F.args_list_init_2 _ _, ?_⟩
  show wpAny _ _ (do let old ← Builtin.List.listItems (.ref s.heap.objs.size); Builtin.List.listUpdate (.ref s.heap.objs.size) (fun _ => #[]); letGo old.toList.reverse; Builtin.List.listExtendWith (.ref s.heap.objs.size) (.ref z) .none) _ _ _
  refine wpAny_bind ?_
  unfold Builtin.List.listItems
  refine wpAny_bind (wpAny_seqItems hS rfl (wpAny_pure ?_))
  show wpAny _ _ (updateSeq s.heap.objs.size (fun _ => #[]) >>= fun _ => letGo (#[] : Array Value).toList.reverse >>= fun _ => Builtin.List.listExtendWith (.ref s.heap.objs.size) (.ref z) .none) _ _ _
  refine wpAny_bind (wpAny_updateSeq hS rfl ?_)
  have hS2 := Heap.get?_update_self (Obj.mapSeq (fun _ => (#[] : Array Value))) hS rfl
  refine wpAny_bind (wpAny_letGo ?_)
  have old : ∀ c o, s.heap.get? c = some o → c ≠ s.heap.objs.size := fun c o e => Nat.ne_of_lt (Heap.lt_size e)
  have k2 : ∀ c o, s.heap.get? c = some o → ((s.heap.push { cls := .type "list", data := .seq #[] }).update s.heap.objs.size (Obj.mapSeq (fun _ => (#[] : Array Value)))).get? c = some o := fun c o e =>
    (Heap.get?_update_other _ _ (Ne.symm (old c o e))).trans (Heap.get?_push_of_some _ e)
  have hsz2 : ((s.heap.push { cls := .type "list", data := .seq #[] }).update s.heap.objs.size (Obj.mapSeq (fun _ => (#[] : Array Value)))).objs.size = s.heap.objs.size + 1 := by rw [Heap.size_update, Heap.size_push]
  generalize (s.heap.push { cls := .type "list", data := .seq #[] }).update s.heap.objs.size (Obj.mapSeq (fun _ => (#[] : Array Value))) = hp at hS2 k2 hsz2
  unfold Builtin.List.listExtendWith
  refine wpAny_bind (wpAny_typeOf (T := "zip") ⟨_, k2 _ _ hz, rfl⟩ ?_)
  have e1 : Builtin.List.listSameRef (.ref s.heap.objs.size) (.ref z) = false := by simp [Builtin.List.listSameRef, Ne.symm (old z _ hz)]
  have e2 : (Value.type "zip" == Value.type "list") = false := by decide
  have e3 : (Value.type "zip" == Value.type "tuple") = false := by decide
  simp only [e1, e2, e3, Bool.or_false, Bool.false_eq_true, if_false]
  refine wpAny_bind (wpAny_pyIter_zip (k2 _ _ hz) ?_)
  refine wpAny_bind (wpAny_holding (hint_zip ⟨_, k2 _ _ hz, rfl⟩ ?_))
  rw [if_pos (Bool.true_or _)]
  refine wpAny_bind (wpAny_rule ?_)
  refine wpAny_bind ?_
  show wpAny _ _ (updateSeq s.heap.objs.size (·.push .none) >>= fun _ => updateSeq s.heap.objs.size (·.pop)) _ _ _
  refine wpAny_bind (wpAny_updateSeq hS2 rfl ?_)
  have hS3 := Heap.get?_update_self (Obj.mapSeq (·.push Value.none)) hS2 rfl
  refine wpAny_updateSeq (hz := by seq_fits) hS3 rfl ?_
  have hS4 := Heap.get?_update_self (Obj.mapSeq (·.pop)) hS3 rfl
  have k4 : ∀ c o, s.heap.get? c = some o → ((hp.update s.heap.objs.size (Obj.mapSeq (·.push Value.none))).update s.heap.objs.size (Obj.mapSeq (·.pop))).get? c = some o := fun c o e =>
    (Heap.get?_update_other _ _ (Ne.symm (old c o e))).trans ((Heap.get?_update_other _ _ (Ne.symm (old c o e))).trans (k2 c o e))
  have hsz4 : ((hp.update s.heap.objs.size (Obj.mapSeq (·.push Value.none))).update s.heap.objs.size (Obj.mapSeq (·.pop))).objs.size = s.heap.objs.size + 1 := by rw [Heap.size_update, Heap.size_update, hsz2]
  generalize (hp.update s.heap.objs.size (Obj.mapSeq (·.push Value.none))).update s.heap.objs.size (Obj.mapSeq (·.pop)) = hq at hS4 k4 hsz4
  have lt : ∀ c ∈ [z, TI, TO, i1, i2, l1, l2], c < s.heap.objs.size := fun c hc => by
    simp only [List.mem_cons, List.mem_singleton, List.not_mem_nil, or_false] at hc
    rcases hc with rfl | rfl | rfl | rfl | rfl | rfl | rfl
    · exact Heap.lt_size hz
    · exact Heap.lt_size hTI
    · exact Heap.lt_size hTO
    · obtain ⟨o, e, _⟩ := h1; exact Heap.lt_size e
    · obtain ⟨o, e, _⟩ := h2; exact Heap.lt_size e
    · obtain ⟨o, e, _⟩ := hl1; exact Heap.lt_size e
    · obtain ⟨o, e, _⟩ := hl2; exact Heap.lt_size e
  refine wpAny_pure ⟨plainId_quiet PySem.F.plain_extend_loop _, lz_loop (base := s.heap.objs.size + 1) (A := A.in1) (xs := xs) (ys := ys) hh D .none (fun c hc => ?_) (fun hc => Nat.lt_irrefl _ (lt _ hc)) hn _ 0 _ #[] rfl (Nat.zero_le _) ⟨k4 _ _ hTI, h1.at fun o e => k4 _ o e, h2.at fun o e => k4 _ o e, ?_, ?_, .inl ⟨rfl, k4 _ _ hz, a, b, k4 _ _ hTO⟩, by rw [hsz4]; exact Nat.le_refl _, rfl, fun j hj => absurd hj (Nat.not_lt_zero _), fun j j' c e => by simp at e, ⟨_, hS4⟩⟩ fun h' acc' kk f1 f2 f3 f4 => ?_⟩
  · have hc' : c ∈ [z, TI, TO, i1, i2, l1, l2] ∨ c = s.heap.objs.size := by
      simp only [List.mem_cons, List.mem_singleton, List.not_mem_nil, or_false] at hc ⊢
      rcases hc with h | h | h | h | h | h | h | h <;> simp [h]
    rcases hc' with h | h
    · exact Nat.lt_succ_of_lt (lt c h)
    · rw [h]; exact Nat.lt_succ_self _
  · obtain ⟨o, ho, r⟩ := hl1
    exact ⟨o, k4 _ _ ho, r⟩
  · obtain ⟨o, ho, r⟩ := hl2
    exact ⟨o, k4 _ _ ho, r⟩
  · obtain ⟨c, f4⟩ := f4
    refine ⟨rfl, hQ h' acc' c (fun d o hd e => kk d o (fun q => ?_) (k4 d o e)) f1 f2 f3 f4⟩
    simp only [List.mem_cons, List.mem_singleton, List.not_mem_nil, or_false] at q hd
    rcases q with q | q | q | q | q
    · exact hd (.inl q)
    · exact hd (.inr (.inl q))
    · exact hd (.inr (.inr (.inl q)))
    · exact hd (.inr (.inr (.inr q)))
    · exact old d o e q
end
end XK
namespace XK
open PySem PySem.Spec PyProof.Rows L2 My D3
theorem inv_many {X : Cx} {pins : List (Addr × Obj)} {σ : L2.St} {H H' : Hp} {s : Shared} {h' : Heap} {t' : Nat} (I : L2.Inv X pins σ H s) (k : ∀ b u, s.heap.get? b = some u → h'.get? b = some u) (hb : ∀ b, b < s.heap.objs.size → H' b = H b) (hok : HOk X.prog X.w H' h') :
    L2.Inv X pins σ H' { s with heap := h', toks := t' } := I.un
  { keep := fun b u q _ _ _ => k b u q
    slot := fun b u q _ _ _ => ⟨u.slots, k b u q⟩
    free := fun b u q n _ => by rw [hb b (Heap.lt_size q)]; exact n
    there := fun b u q _ => ⟨u, k b u q⟩
    tups := fun b xs q => by rw [hb b (I.hok.lt q)]; exact q
    frzs := fun b u xs q => by rw [hb b (I.hok.lt q)]; exact q
    tbls := fun b q p e => by rw [hb b (I.hok.lt e)]; exact e } hok
theorem pick3 {P : Nat → Addr → Int → Int → Prop} : ∀ n, (∀ j, j < n → ∃ a i k, P j a i k) → ∃ ts : List (Addr × Int × Int), ts.length = n ∧ ∀ j t, ts[j]? = some t → P j t.1 t.2.1 t.2.2
  | 0, _ => ⟨[], rfl, fun j t h => by simp at h⟩
  | n + 1, h => by
    obtain ⟨ts, h1, h2⟩ := pick3 n fun j hj => h j (by omega)
    obtain ⟨a, i, k, hp⟩ := h n (by omega)
    refine ⟨ts ++ [(a, i, k)], by simp [h1], fun j t e => ?_⟩
    by_cases hj : j < ts.length
    · rw [List.getElem?_append_left hj] at e
      exact h2 j t e
    · rw [List.getElem?_append_right (by omega)] at e
      have hj' : j - ts.length = 0 := by
        rcases Nat.eq_zero_or_pos (j - ts.length) with z | z
        · exact z
        · rw [List.getElem?_eq_none (by simp; omega)] at e; cases e
      rw [hj'] at e
      cases e
      rw [show j = n by omega]
      exact hp
def addT (H : Hp) (S : Addr) (vs : List V) (ts : List (Addr × Int × Int)) : Hp := fun b => if b = S then some (.lst vs) else match ts.find? (fun t => decide (t.1 = b)) with
  | some t => some (.tup [.int t.2.1, .int t.2.2])
  | none => H b
theorem addT_S {H : Hp} {S : Addr} {vs : List V} {ts : List (Addr × Int × Int)} : addT H S vs ts S = some (.lst vs) := by unfold addT; rw [if_pos rfl]
theorem addT_t {H : Hp} {S : Addr} {vs : List V} {ts : List (Addr × Int × Int)} (hi : ∀ (j j' : Nat) (t t' : Addr × Int × Int), ts[j]? = some t → ts[j']? = some t' → t.1 = t'.1 → j = j') {t : Addr × Int × Int} (ht : t ∈ ts) (hS : t.1 ≠ S) : addT H S vs ts t.1 = some (.tup [.int t.2.1, .int t.2.2]) := by
  unfold addT
  rw [if_neg hS]
  cases e : ts.find? (fun u => decide (u.1 = t.1)) with
  | none =>
    have := List.find?_eq_none.mp e t ht
    simp at this
  | some t' =>
    have h1 := List.mem_of_find?_eq_some e
    have h2 : t'.1 = t.1 := of_decide_eq_true (List.find?_some (p := fun u : Addr × Int × Int => decide (u.1 = t.1)) e)
    obtain ⟨j, hj⟩ := List.getElem?_of_mem ht
    obtain ⟨j', hj'⟩ := List.getElem?_of_mem h1
    have := hi j j' t t' hj hj' h2.symm
    subst this
    rw [hj] at hj'
    cases hj'
    rfl
theorem addT_o {H : Hp} {S : Addr} {vs : List V} {ts : List (Addr × Int × Int)} {b : Addr} (h1 : b ≠ S) (h2 : ∀ t ∈ ts, t.1 ≠ b) : addT H S vs ts b = H b := by
  unfold addT
  rw [if_neg h1, List.find?_eq_none.mpr fun t ht => by simp [h2 t ht]]
theorem intsD_eq : ∀ {l : List D} {ns : List Int}, intsD l = some ns → l = ns.map .int
  | [], _, e => by cases e; rfl
  | d :: r, ns, e => by
    cases d <;> first | (cases e; done) | skip
    rename_i i
    unfold intsD at e
    cases e2 : intsD r with
    | none => rw [e2] at e; cases e
    | some m =>
      rw [e2] at e
      cases e
      rw [List.map_cons, intsD_eq e2]
theorem ras_map {α : Type} {K : PySem.W.Frag} {ok : Ok} {pl : Bool} {H : Hp} (f : α → V) (g : α → D) : ∀ l : List α, (∀ a ∈ l, RA K ok pl H (f a) (g a)) → RAs K ok pl H (l.map f) (l.map g)
  | [], _ => .nil
  | a :: l, h => .cons (h a List.mem_cons_self) (ras_map f g l fun b hb => h b (List.mem_cons_of_mem _ hb))
section
variable {X : Cx} {fl : List Fl} {a b : Expr} {f g : FE} {p p2 pos pos2 : Pos}
theorem de_lzip (ha : DE X fl .P a f) (hb : DE X fl .P b g) (hc : X.calm = true) (hg : Gl X "list") (hm : X.mg "list" = none) (hg2 : Gl X "zip") (hm2 : X.mg "zip" = none)
    (he : starEach [a, b] X.env = (false, eval a X.env) :: starEach [b] X.env := by rfl) (heb : starEach [b] X.env = (false, eval b X.env) :: starEach [] X.env := by rfl) (hpl : (backTo pos2 (starEach [b] X.env)).any (·.1) = false := by rfl)
    (he2 : starEach [.Call (.Name "zip" p2) [a, b] [] pos2] X.env = (false, eval (.Call (.Name "zip" p2) [a, b] [] pos2) X.env) :: starEach [] X.env := by rfl) (hpl2 : (backTo pos (starEach [] X.env)).any (·.1) = false := by rfl) :
    DE X fl .FC (.Call (.Name "list" p) [.Call (.Name "zip" p2) [a, b] [] pos2] [] pos) (dOp gLzip f g) := by
  intro pins s σ H Q I hq
  obtain ⟨G, ow, δ, d, R, hf, q⟩ := hq
  obtain ⟨x, y, e1, e2, e3⟩ := bind2 hf
  unfold gLzip at e3
  split at e3
  case h_2 => cases e3
  next l m =>
  obtain ⟨ns, e4, e5⟩ := bind1 e3
  obtain ⟨ms, e6, e7⟩ := bind1 e5
  by_cases hl : ns.length ≤ 1000
  case neg => rw [if_neg hl] at e7; cases e7
  rw [if_pos hl] at e7
  cases e7
  refine wpAny_Call_Name_kw (ld_blt I hg hm boot_list (PyProof.Rows.callWith_type1 ?_ he2 hpl2))
  rw [he2]
  show wpAny _ _ (spliced ((false, eval (.Call (.Name "zip" p2) [a, b] [] pos2) X.env) :: backTo pos (starEach [] X.env))) _ _ s
  refine Calls.spliced_cons ?_
  refine wpAny_Call_Name_kw (ld_blt I hg2 hm2 D3.boot_zip (PyProof.Rows.callWith_type1 (thn ((pa_cons ha (pa_cons hb pa_nil heb) he) pos2 pins s σ H (fun vs H1 => ∃ v u, vs = [v, u] ∧ Same H H1 ∧ RA X.K ok1 true H1 v (.list l) ∧ RA X.K ok1 true H1 u (.list m)) I
    ⟨G, ow, δ, _, R, e1, fun v H1 s1 r1 => ⟨G, ow, δ, _, R.grow s1, e2, fun u H2 s2 r2 => ⟨v, u, rfl, s1.trans s2, RA.same s2 r1, r2⟩⟩⟩) fun us s1 ⟨vs, H1, I1, r1, v, u, ev, s01, rv, ru⟩ => ?_) he hpl))
  subst ev
  obtain ⟨l1, xs, rfl, hx, hr⟩ := rv.lstE
  obtain ⟨l2, ys, rfl, hy, hr'⟩ := ru.lstE
  obtain rfl := intsD_ra e4 hr
  obtain rfl := intsD_ra e6 hr'
  cases r1 with
  | cons ra rb =>
  cases rb with
  | cons rb rc =>
  cases rc
  cases ra
  cases rb
  obtain ⟨its, rvs, pl, hz⟩ := I1.list hx
  obtain ⟨its', rvs', pl', hz'⟩ := I1.list hy
  have il : its.length = ns.length := by rw [← rvs.length, List.length_map]
  have il' : its'.length = ms.length := by rw [← rvs'.length, List.length_map]
  refine call_zip_2 pl.isList pl'.isList fun h' g1 g2 g3 g4 g5 g6 hk => ?_
  refine Calls.spliced_nil ?_
  have q1 : h'.IsList l1 its.toArray := by
    obtain ⟨o, ho, r⟩ := pl.isList
    exact ⟨o, hk _ _ ho, r⟩
  have q2 : h'.IsList l2 its'.toArray := by
    obtain ⟨o, ho, r⟩ := pl'.isList
    exact ⟨o, hk _ _ ho, r⟩
  have Dz := zip_apart g1 g2 g3 g4 g5 q1 q2 (Nat.ne_of_lt (Nat.lt_succ_self _)) (Nat.ne_of_lt (Nat.lt_succ_self _))
  refine list_zip (s := { s1 with heap := h' }) (I1.ok.hd hc) Dz g1 g2 g3 g4 g5 q1 q2 (by rw [List.size_toArray, il]; exact Nat.le_trans hl (by decide)) fun h'' acc c kk f1 f2 f3 f4 => ?_
  replace kk : ∀ c o, c ∉ [s1.heap.objs.size + 4, s1.heap.objs.size + 3, s1.heap.objs.size, s1.heap.objs.size + 1] → h'.get? c = some o → h''.get? c = some o := kk
  replace f4 : h''.get? h'.objs.size = some { cls := .type "list", dict := none, data := .seq acc c, slots := #[] } := f4
  replace f2 : ∀ j, j < min its.toArray.size its'.toArray.size → ∃ a x y, acc[j]? = some (.ref a) ∧ h'.objs.size < a ∧ its.toArray[j]? = some x ∧ its'.toArray[j]? = some y ∧ IsPair h'' a x y := f2
  have fr : ∀ c, s1.heap.objs.size ≤ c → H1 c = none := fun c hc => I1.hok.fresh hc
  have kept : ∀ b u, s1.heap.get? b = some u → h''.get? b = some u := fun b u e => kk b u (fun z => by
    have hlt := Heap.lt_size e
    simp only [List.mem_cons, List.mem_singleton, List.not_mem_nil, or_false] at z
    rcases z with z | z | z | z <;> rw [z] at hlt
    · exact Nat.not_lt.mpr (Nat.le_add_right _ _) hlt
    · exact Nat.not_lt.mpr (Nat.le_add_right _ _) hlt
    · exact Nat.lt_irrefl _ hlt
    · exact Nat.not_lt.mpr (Nat.le_add_right _ _) hlt) (hk b u e)
  have sS : s1.heap.objs.size ≤ h'.objs.size := by rw [g6]; omega
  simp only [List.size_toArray, il, il'] at f1 f2
  obtain ⟨ts, tl, tp⟩ := pick3 (P := fun j a i k => acc[j]? = some (.ref a) ∧ h'.objs.size < a ∧ ns[j]? = some i ∧ ms[j]? = some k ∧ ∃ t u, IsPair h'' a (.int i t) (.int k u)) (min ns.length ms.length) (fun j hj => by
    obtain ⟨a, x, y, k1, k2, k3, k4, k5⟩ := f2 j hj
    have hn1 : j < ns.length := by omega
    have hn2 : j < ms.length := by omega
    have n1 : (ns.map V.int)[j]? = some (.int ns[j]) := by rw [List.getElem?_map, List.getElem?_eq_getElem hn1]; rfl
    have n2 : (ms.map V.int)[j]? = some (.int ms[j]) := by rw [List.getElem?_map, List.getElem?_eq_getElem hn2]; rfl
    obtain ⟨u1, w1, r1⟩ := rvs.get n1
    obtain ⟨u2, w2, r2⟩ := rvs'.get n2
    obtain ⟨t1, rfl⟩ := (show ∃ t, u1 = Value.int ns[j] t from r1)
    obtain ⟨t2, rfl⟩ := (show ∃ t, u2 = Value.int ms[j] t from r2)
    have ex : x = .int ns[j] t1 := by
      have : its[j]? = some x := by simpa using k3
      rw [w1] at this
      exact (Option.some.inj this).symm
    have ey : y = .int ms[j] t2 := by
      have : its'[j]? = some y := by simpa using k4
      rw [w2] at this
      exact (Option.some.inj this).symm
    subst ex ey
    exact ⟨a, ns[j], ms[j], k1, k2, List.getElem?_eq_getElem hn1, List.getElem?_eq_getElem hn2, t1, t2, k5⟩)
  have inj : ∀ (j j' : Nat) (t t' : Addr × Int × Int), ts[j]? = some t → ts[j']? = some t' → t.1 = t'.1 → j = j' := fun j j' t t' h1 h2 h3 => by
    have a1 := (tp j t h1).1
    have a2 := (tp j' t' h2).1
    rw [← h3] at a2
    exact f3 j j' t.1 a1 a2
  have tgt : ∀ t ∈ ts, h'.objs.size < t.1 ∧ ∃ u v, IsPair h'' t.1 (.int t.2.1 u) (.int t.2.2 v) := fun t ht => by
    obtain ⟨j, hj⟩ := List.getElem?_of_mem ht
    obtain ⟨_, k2, _, _, k5⟩ := tp j t hj
    exact ⟨k2, k5⟩
  have accL : acc.toList = ts.map fun t => Value.ref t.1 := by
    apply List.ext_getElem?
    intro j
    rw [Array.getElem?_toList, List.getElem?_map]
    by_cases hj : j < ts.length
    · rw [List.getElem?_eq_getElem hj]
      exact (tp j _ (List.getElem?_eq_getElem hj)).1
    · rw [List.getElem?_eq_none (by omega), Array.getElem?_eq_none (by omega)]
      rfl
  have tn : ∀ t ∈ ts, t.1 ≠ h'.objs.size := fun t ht => Nat.ne_of_gt (tgt t ht).1
  have low : ∀ b, b < s1.heap.objs.size → addT H1 h'.objs.size (ts.map fun t => V.ref t.1) ts b = H1 b := fun b hb => addT_o (fun z => by rw [z] at hb; exact Nat.not_lt.mpr sS hb) fun t ht z => by
    have := (tgt t ht).1
    rw [z] at this
    exact Nat.not_lt.mpr sS (Nat.lt_trans this hb)
  have hok : HOk X.prog X.w (addT H1 h'.objs.size (ts.map fun t => V.ref t.1) ts) h'' := fun b u e => by
    by_cases hbS : b = h'.objs.size
    · subst hbS
      rw [addT_S] at e
      cases e
      refine ⟨by rw [List.length_map, tl]; exact Nat.le_trans (Nat.le_trans (Nat.min_le_left _ _) hl) (by decide), acc.toList, c, ?_, by simpa using f4⟩
      rw [accL]
      clear tp tl inj tgt accL tn low
      induction ts with
      | nil => exact .nil
      | cons t ts ih => exact .cons rfl ih
    · by_cases hbt : ∃ t ∈ ts, t.1 = b
      · obtain ⟨t, ht, rfl⟩ := hbt
        rw [addT_t inj ht (tn t ht)] at e
        cases e
        obtain ⟨_, v1, v2, k5⟩ := tgt t ht
        exact ⟨show 2 ≤ sizeLine by decide, [.int t.2.1 v1, .int t.2.2 v2], .cons ⟨v1, rfl⟩ (.cons ⟨v2, rfl⟩ .nil), ⟨_, k5, rfl, _, rfl⟩⟩
      · rw [addT_o hbS fun t ht z => hbt ⟨t, ht, z⟩] at e
        exact (I1.hok b u e).stay (fun c v _ r => kept c v r) (fun c r => by rw [low c (I1.hok.lt r)]; exact r) fun c xs r => by rw [low c (I1.hok.lt r)]; exact r
  have sm : Same H1 (addT H1 h'.objs.size (ts.map fun t => V.ref t.1) ts) := fun b u e => by rw [low b (I1.hok.lt e)]; exact e
  have I2 := inv_many (t' := s1.toks) I1 kept low hok
  have zl : zipD l m = ts.map fun t => (.tuple [.int t.2.1, .int t.2.2] : D) := by
    have el : l = ns.map .int := intsD_eq e4
    have em : m = ms.map .int := intsD_eq e6
    apply List.ext_getElem?
    intro j
    rw [zipD_get, el, em, List.getElem?_map, List.getElem?_map, List.getElem?_map]
    by_cases hj : j < ts.length
    · obtain ⟨_, _, k3, k4, _⟩ := tp j _ (List.getElem?_eq_getElem hj)
      rw [k3, k4, List.getElem?_eq_getElem hj]
      rfl
    · rw [List.getElem?_eq_none (by omega : ts.length ≤ j)]
      rcases Nat.le_total ns.length ms.length with z | z
      · rw [List.getElem?_eq_none (by omega : ns.length ≤ j)]
        rfl
      · rw [List.getElem?_eq_none (by omega : ms.length ≤ j)]
        cases ns[j]? <;> rfl
  refine ⟨.ref h'.objs.size, _, I2, rfl, q _ _ (s01.trans sm) (.inr ⟨h'.objs.size, _, _, rfl, rfl, s01.free (fr _ sS), addT_S, ?_⟩)⟩
  rw [zl]
  refine ras_map _ _ ts fun t ht => .tup (addT_t inj ht (tn t ht)) (.cons (.int _) (.cons (.int _) .nil))
end
end XK
namespace XK
open PySem PyProof.Rows
theorem args_minD (a v : Value) : argsOk "min" ⟨[a], [(Str.ofString "default", v)]⟩ := by unfold argsOk; kernel_rfl
section
variable {prog : Program} {w : World} {A : Around} {R : Result → Shared → Prop} {I : Addr} {fp wr : List Addr} {n : Nat} {P : Nat → Value → Prop} {St : Nat → Heap → Prop} {kw : List (Str × Value)}
theorem minK_loop (W : Walks prog w A.in1 I fp wr n P St) (bt : Nat → Nat → Bool) (hcmp : CmpOf prog w A.in1 .Lt P bt) (S : Addr) (hSf : S ∉ fp) :
    ∀ (k j : Nat) (s : Shared) (vb : Value) (c : Nat), n - (j + 1) = k → j + 1 ≤ n → St (j + 1) s.heap → P (argBest bt j) vb →
    s.heap.get? S = some { cls := .type "list", dict := none, data := .seq #[vb, vb] c, slots := #[] } →
    (∀ v h' tk, P (argBest bt (n - 1)) v → (∀ b o, b ∉ wr → b ≠ S → s.heap.get? b = some o → h'.get? b = some o) → R (.ok (.ret v)) { s with heap := h', toks := tk }) →
    codeAny (model prog w) A (.builtin "min.loop" ⟨[.ref I, .none, .ref S], kw⟩) R s := by
  have hSw : S ∉ wr := fun h => hSf (W.sub _ h)
  have hname : (toString "min" ++ toString ".loop" : String) = "min.loop" := by decide
  intro k
  induction k with
  | zero =>
    intro j s vb c hk hj hst hPb hS hR
    have hin : j + 1 = n := by omega
    refine codeAny_builtin PySem.F.entry_min_loop ?_
    rw [Around.under_plainId PySem.F.plain_min_loop _]
    show wpAny _ A.in1 (seqItems? (.ref S) >>= _) _ _ s
    refine wpAny_bind (wpAny_seqItems hS rfl ?_)
    show wpAny _ A.in1 (tryCatch (pyNext (.ref I)) _ >>= _) _ _ s
    refine wpAny_bind (wpAny_tryCatch (W.done s _ _ (hin ▸ hst) fun h' tk hk' => ?_))
    have hS' := hk' S _ hSw hS
    show wpAny _ A.in1 (updateSeq S (fun _ => #[]) >>= _) _ _ _
    refine wpAny_bind ?_
    refine wpAny_updateSeq hS' rfl (wpAny_bind (wpAny_letGo (wpAny_pure ?_)))
    refine hR vb _ tk (by rw [← hin]; exact hPb) fun b o hbw hbS e => (Heap.get?_update_other _ _ (Ne.symm hbS)).trans (hk' b o hbw e)
  | succ k ih =>
    intro j s vb c hk hj hst hPb hS hR
    have hlt : j + 1 < n := by omega
    refine codeAny_builtin PySem.F.entry_min_loop ?_
    rw [Around.under_plainId PySem.F.plain_min_loop _]
    show wpAny _ A.in1 (seqItems? (.ref S) >>= _) _ _ s
    refine wpAny_bind (wpAny_seqItems hS rfl ?_)
    show wpAny _ A.in1 (tryCatch (pyNext (.ref I)) _ >>= _) _ _ s
    refine wpAny_bind (wpAny_tryCatch (W.item (j + 1) s _ _ hlt hst fun v h' tk hP hst' hk' => ?_))
    have hS' := hk' S _ hSw hS
    show wpAny _ A.in1 (tryCatch (holding [v, v] (richCompare .Lt v vb >>= _)) _ >>= _) _ _ _
    refine wpAny_bind (wpAny_tryCatch (wpAny_holding (wpAny_bind (hcmp (j + 1) (argBest bt j) v vb _ _ _ hP hPb ?_))))
    refine wpAny_bind (wpAny_holding (wpAny_truthy_bool ?_))
    refine wpAny_bind (wpAny_letGo (wpAny_pure ?_))
    cases hb : bt (j + 1) (argBest bt j) with
    | true =>
      simp only [if_true]
      refine wpAny_bind ?_
      refine wpAny_updateSeq hS' rfl (wpAny_bind (wpAny_letGo ?_))
      rw [hname]
      refine wpAny_pure ⟨plainId_quiet PySem.F.plain_min_loop _, ih (j + 1) _ v _ (by omega) hlt (W.frame _ _ _ hst' fun b hbf o e => ?_) (by simp only [argBest, hb, if_true]; exact hP) (Heap.get?_update_self _ hS' rfl)
        fun v' h'' tk'' hP' hk'' => ?_⟩
      · exact (Heap.get?_update_other _ _ (fun h : S = b => hSf (by rw [h]; exact hbf))).trans e
      · exact hR v' h'' tk'' hP' fun b o hbw hbS e => hk'' b o hbw hbS ((Heap.get?_update_other _ _ (Ne.symm hbS)).trans (hk' b o hbw e))
    | false =>
      simp only [Bool.false_eq_true, if_false]
      refine wpAny_bind (wpAny_letGo ?_)
      rw [hname]
      refine wpAny_pure ⟨plainId_quiet PySem.F.plain_min_loop _, ih (j + 1) _ vb c (by omega) hlt hst' (by simp only [argBest, hb, Bool.false_eq_true, if_false]; exact hPb) hS' fun v' h'' tk'' hP' hk'' => ?_⟩
      exact hR v' h'' tk'' hP' fun b o hbw hbS e => hk'' b o hbw hbS (hk' b o hbw e)
theorem minK_first (W : Walks prog w A.in1 I fp wr n P St) (bt : Nat → Nat → Bool) (hcmp : CmpOf prog w A.in1 .Lt P bt) (S : Addr) (hSf : S ∉ fp) (hn : 0 < n) {s : Shared} {c : Nat} (hst : St 0 s.heap)
    (hS : s.heap.get? S = some { cls := .type "list", dict := none, data := .seq #[] c, slots := #[] })
    (hR : ∀ v h' tk, P (argBest bt (n - 1)) v → (∀ b o, b ∉ wr → b ≠ S → s.heap.get? b = some o → h'.get? b = some o) → R (.ok (.ret v)) { s with heap := h', toks := tk }) :
    codeAny (model prog w) A (.builtin "min.loop" ⟨[.ref I, .none, .ref S], kw⟩) R s := by
  have hSw : S ∉ wr := fun h => hSf (W.sub _ h)
  have hname : (toString "min" ++ toString ".loop" : String) = "min.loop" := by decide
  refine codeAny_builtin PySem.F.entry_min_loop ?_
  rw [Around.under_plainId PySem.F.plain_min_loop _]
  show wpAny _ A.in1 (seqItems? (.ref S) >>= _) _ _ s
  refine wpAny_bind (wpAny_seqItems hS rfl ?_)
  show wpAny _ A.in1 (tryCatch (pyNext (.ref I)) _ >>= _) _ _ s
  refine wpAny_bind (wpAny_tryCatch (W.item 0 s _ _ hn hst fun v h' tk hP hst' hk' => ?_))
  have hS' := hk' S _ hSw hS
  show wpAny _ A.in1 (updateSeq S (fun _ => #[v, v]) >>= _) _ _ _
  refine wpAny_bind ?_
  refine wpAny_updateSeq hS' rfl ?_
  rw [hname]
  refine wpAny_pure ⟨plainId_quiet PySem.F.plain_min_loop _, minK_loop W bt hcmp S hSf _ 0 _ v _ rfl hn (W.frame _ _ _ hst' fun b hbf o e => ?_) hP (Heap.get?_update_self _ hS' rfl) fun v' h'' tk'' hP' hk'' => ?_⟩
  · exact (Heap.get?_update_other _ _ (fun h : S = b => hSf (by rw [h]; exact hbf))).trans e
  · exact hR v' h'' tk'' hP' fun b o hbw hbS e => hk'' b o hbw hbS ((Heap.get?_update_other _ _ (Ne.symm hbS)).trans (hk' b o hbw e))
theorem minK_none {d : Value} {nm : Str} (W : Walks prog w A.in1 I fp wr 0 P St) (S : Addr) (hSf : S ∉ fp) {s : Shared} {c : Nat} (hst : St 0 s.heap)
    (hS : s.heap.get? S = some { cls := .type "list", dict := none, data := .seq #[] c, slots := #[] })
    (hR : ∀ h' tk, (∀ b o, b ∉ wr → b ≠ S → s.heap.get? b = some o → h'.get? b = some o) → R (.ok (.ret d)) { s with heap := h', toks := tk }) :
    codeAny (model prog w) A (.builtin "min.loop" ⟨[.ref I, .none, .ref S], [(nm, d)]⟩) R s := by
  refine codeAny_builtin PySem.F.entry_min_loop ?_
  rw [Around.under_plainId PySem.F.plain_min_loop _]
  show wpAny _ A.in1 (seqItems? (.ref S) >>= _) _ _ s
  refine wpAny_bind (wpAny_seqItems hS rfl ?_)
  show wpAny _ A.in1 (tryCatch (pyNext (.ref I)) _ >>= _) _ _ s
  refine wpAny_bind (wpAny_tryCatch (W.done s _ _ hst fun h' tk hk' => ?_))
  show wpAny _ A.in1 (rule _ >>= fun _ => ret d) _ _ _
  exact wpAny_bind (wpAny_rule (wpAny_pure (hR h' tk fun b o hbw hbS e => hk' b o hbw e)))
end
section
variable {prog : Program} {w : World} {A : Around} {E : Value → Shared → Prop} {s : Shared}
theorem call_minK {x d : Value} {Q : Value → Shared → Prop}
    (h : wpAny (model prog w) A.in1 (pyIter x) (fun it s₂ => ∃ I fp wr n P St bt, it = .ref I ∧ Walks prog w A.in1 I fp wr n P St ∧ St 0 s₂.heap ∧ (∀ b ∈ fp, b < s₂.heap.objs.size) ∧ CmpOf prog w A.in1 .Lt P bt ∧
      (0 < n → ∀ v h' tk, P (argBest bt (n - 1)) v → (∀ b o, b ∉ wr → s₂.heap.get? b = some o → h'.get? b = some o) → Q v { s₂ with heap := h', toks := tk }) ∧
      (n = 0 → ∀ h' tk, (∀ b o, b ∉ wr → s₂.heap.get? b = some o → h'.get? b = some o) → Q d { s₂ with heap := h', toks := tk })) E s) :
    wpAny (model prog w) A (call (.builtin "min") [x] [(Str.ofString "default", d)]) Q E s := by
  have hname : (toString "min" ++ toString ".loop" : String) = "min.loop" := by decide
  refine PyProof.Rows.kmb_tree PySem.F.kind_min PySem.F.plain_min PySem.F.entry_min (args_minD _ _) ?_
  show wpAny _ A.in1 (Builtin.Builtins.bindParams "min" ["key", "default"] 0 ⟨[], [(Str.ofString "default", d)]⟩ >>= _) _ _ s
  refine wpAny_bind (wpAny_of_eq (show Builtin.Builtins.bindParams "min" ["key", "default"] 0 ⟨[], [(Str.ofString "default", d)]⟩ = pure [none, some d] from rfl) ?_)
  refine wpAny_bind (wpAny_pure ?_)
  refine wpAny_bind (wpAny_mono h (fun it s₂ h₂ => ?_) fun _ _ e => e)
  obtain ⟨I, fp, wr, n, P, St, bt, rfl, W, hst, hfp, hcmp, hQ, hQ0⟩ := h₂
  refine wpAny_bind (wpAny_newObj_type ?_)
  have hSf : s₂.heap.objs.size ∉ fp := fun hm => Nat.lt_irrefl _ (hfp _ hm)
  rw [hname]
  rcases Nat.eq_zero_or_pos n with hn | hn
  · subst hn
    refine wpAny_pure ⟨plainId_quiet PySem.F.plain_min_loop _, minK_none W s₂.heap.objs.size hSf (W.frame _ _ _ hst fun b _ o e => Heap.get?_push_of_some _ e) (Heap.get?_push_size _ rfl) fun h' tk hk => ?_⟩
    exact hQ0 rfl h' tk fun b o hbw e => hk b o hbw (Nat.ne_of_lt (Heap.lt_size e)) (Heap.get?_push_of_some _ e)
  · refine wpAny_pure ⟨plainId_quiet PySem.F.plain_min_loop _, minK_first W bt hcmp s₂.heap.objs.size hSf hn (W.frame _ _ _ hst fun b _ o e => Heap.get?_push_of_some _ e) (Heap.get?_push_size _ rfl) fun v h' tk hP hk => ?_⟩
    exact hQ hn v h' tk hP fun b o hbw e => hk b o hbw (Nat.ne_of_lt (Heap.lt_size e)) (Heap.get?_push_of_some _ e)
end
end XK
namespace XK
open PySem PySem.Spec PyProof.Rows L2 My D3
theorem rd_sq {K : PySem.W.Frag} {H H' : Hp} {a : Addr} {xs : List V} (e : Same H H') (h : SqL K H a xs) : SqL K H' a xs := by
  rcases h with (h | ⟨o, h⟩) | h
  · exact .inl (.inl (e _ _ h))
  · exact .inl (.inr ⟨o, e _ _ h⟩)
  · exact .inr h
section
variable {X : Cx} {fl : List Fl} {e z : Expr} {fa : FA} {fz : FE} {p pos kpos : Pos}
theorem minD_at (hc : X.calm = true) {pins : List (Addr × Obj)} {s : Shared} {σ : L2.St} {H : Hp} (I : L2.Inv X pins σ H s) {q : Addr} {ns : List Int} (hx : SqL X.K H q (ns.map V.int)) {u : Value} {Q : VK} {zv : V} (rz : RelV zv u) (h1 : ∀ i r, ns = i :: r → Q (.int (mnI i r)) H) (h0 : ns = [] → Q zv H) :
    wpAny (model X.prog X.w) X.A (PySem.call (.builtin "min") [.ref q] [(Str.ofString "default", u)]) (EP X pins σ Q) X.xe s := by
  obtain ⟨its, rvs, pl, hz⟩ := I.list hx
  have hi := ints_are rvs
  obtain ⟨xs, e⟩ := hi.allInts.items
  have hns : ns = xs.toList.map (·.1) := by rw [← hi.numsOf, ← nums_intItems, ← e]
  have hln : ns.length = xs.size := by rw [hns, List.length_map, Array.length_toList]
  have hl : s.heap.IsList q (intItems xs) := e ▸ pl.isList
  refine call_minK (iter_intList hl fun s₂ e2 st hfp hlI => ?_)
  subst e2
  refine ⟨_, _, _, _, _, _, _, rfl, Walks.list (A := X.A.in1) (I.ok.hd hc) _ q hlI (intItems xs), st, hfp, CmpOf.ints_lt (numAt xs) (fun _ _ => intItems_at), fun hn v h' tk hP hk => ?_, fun hn h' tk hk => ?_⟩
  · have hsz : 0 < xs.size := by simpa [intItems] using hn
    obtain ⟨i, r0, hir⟩ : ∃ i r, ns = i :: r := by
      cases ns with
      | nil => simp at hln; omega
      | cons i r => exact ⟨i, r, rfl⟩
    have hv : (intItems xs)[argBest (fun i j => decide (numAt xs i < numAt xs j)) (xs.size - 1)]? = some v := by simpa [intItems] using hP
    obtain ⟨t, rfl⟩ := intItems_at hv
    obtain ⟨g1, g2⟩ := argBest_lt (numAt xs) (xs.size - 1)
    rw [hir] at hns
    have m1 : numAt xs (argBest (fun i j => decide (numAt xs i < numAt xs j)) (xs.size - 1)) ∈ i :: r0 := by
      rw [hns, numAt_eq]; exact getD_mem (by rw [List.length_map, Array.length_toList]; omega)
    have m2 : ∀ a ∈ i :: r0, numAt xs (argBest (fun i j => decide (numAt xs i < numAt xs j)) (xs.size - 1)) ≤ a := fun a ha => by
      rw [hns] at ha
      obtain ⟨j, hj, rfl⟩ := mem_getD ha
      rw [List.length_map, Array.length_toList] at hj
      rw [← numAt_eq]; exact g2 j (by omega)
    have sp := mnI_spec r0 i
    have eq : numAt xs (argBest (fun i j => decide (numAt xs i < numAt xs j)) (xs.size - 1)) = mnI i r0 := Int.le_antisymm (m2 _ sp.1) (sp.2 _ m1)
    rw [eq]
    exact ⟨.int _, H, I.kept (old_kept hk), ⟨_, rfl⟩, h1 i r0 hir⟩
  · have hsz : xs.size = 0 := by simpa [intItems] using hn
    exact ⟨zv, H, I.kept (old_kept hk), rz, h0 (List.eq_nil_of_length_eq_zero (by rw [hln, hsz]))⟩
theorem de_minD (hc : X.calm = true) (ha : DB X fl .P [e] fa) (hz : DE X fl .P z fz) (hg : Gl X "min") (hm : X.mg "min" = none)
    (he : backTo pos (starEach [e] X.env) = (false, eval e X.env) :: backTo pos (starEach [] X.env) := by rfl) (hpl : (backTo pos (starEach [e] X.env)).any (·.1) = false := by rfl)
    (hall : (backToKw pos (keywordEach [⟨some (Str.ofString "default"), z, kpos⟩] X.env)).all (·.1.isSome) = true := by rfl) (hkw : (backToKw pos (keywordEach [⟨some (Str.ofString "default"), z, kpos⟩] X.env)).any (·.1.isNone) = false := by rfl)
    (hks : (backToKw pos (keywordEach [⟨some (Str.ofString "default"), z, kpos⟩] X.env)).filterMap (·.1) = [Str.ofString "default"] := by rfl) :
    DE X fl .FC (.Call (.Name "min" p) [e] [⟨some (Str.ofString "default"), z, kpos⟩] pos) (dMinD fa fz) := by
  intro pins s σ H Q I hq
  obtain ⟨G, ow, δ, d, R, hf, q⟩ := hq
  obtain ⟨l, e1, hf1⟩ := bind1 hf
  obtain ⟨zd, e2, hf2⟩ := bind1 hf1
  refine wpAny_Call_Name_kw (ld_blt I hg hm PyProof.Rows.boot_min ?_)
  refine PyProof.Rows.callWith_kw ?_ he hpl hall hkw
  refine thn (ha pos pins s σ H (fun vs H1 => Same H H1 ∧ RAs X.K ok1 true H1 vs l) I ⟨G, ow, δ, _, R, e1, fun vs H' s' r' => ⟨s', r'⟩⟩) fun us s1 ⟨vs, H1, I1, r1, sm1, ra⟩ => ?_
  refine thn ((pk_cons hz pk_nil) pos pins s1 σ H1 (fun ws H2 => ∃ w, ws = [w] ∧ Same H1 H2 ∧ RA X.K ok1 true H2 w zd) I1 ⟨G, ow, δ, _, R.grow sm1, e2, fun w H2 s2 r2 => ⟨w, rfl, s2, r2⟩⟩) fun kvs s2 ⟨ws, H2, I2, r2, w, ew, sm2, rw2⟩ => ?_
  subst ew
  rw [hks]
  obtain ⟨kv, rfl, rw'⟩ := vals1 r2
  show wpAny _ _ (PySem.call (.builtin "min") us [(Str.ofString "default", kv)]) _ _ _
  obtain ⟨m, rfl⟩ : ∃ m, l = [.list m] := by
    match l, hf2 with
    | [.list m], _ => exact ⟨m, rfl⟩
  dsimp only at hf2
  cases ra with
  | cons ra1 ra2 =>
  cases ra2
  obtain ⟨a, ys, rfl, hx, hr⟩ := ra1.lstE
  cases r1 with
  | cons c1 c2 =>
  cases c2
  cases c1
  cases e3 : intsD m with
  | none => rw [e3] at hf2; cases hf2
  | some ns =>
  obtain rfl := intsD_ra e3 hr
  refine minD_at hc I2 (rd_sq sm2 hx) rw' (fun i r hir => ?_) fun hir => ?_
  · subst hir
    rw [e3] at hf2
    dsimp only at hf2
    unfold gMinL at hf2
    dsimp only at hf2
    rw [e3] at hf2
    cases hf2
    exact q _ H2 (sm1.trans sm2) (.inl ⟨rfl, .int _⟩)
  · subst hir
    rw [e3] at hf2
    dsimp only at hf2
    by_cases hfz : flat zd = true
    · rw [if_pos hfz] at hf2
      cases hf2
      exact q _ H2 (sm1.trans sm2) (.inl ⟨hfz, RA.flat hfz rw2⟩)
    · rw [if_neg hfz] at hf2; cases hf2
variable {a : Expr} {f : FE} {ta : TE}
end
end XK
namespace XK
open PySem PySem.Spec PyProof.Rows L2 My D3
section
variable {K : PySem.W.Frag} {H : Hp}
end
section
variable {X : Cx} {fl : List Fl} {e k1 k2 : Expr} {f f1 f2 : FE} {pos : Pos}
end
end XK
namespace XK
open PySem PySem.Spec PyProof.Rows L2 My D3
section
variable {X : Cx}
end
end XK
namespace XT
open PySem PySem.Spec PyProof.Rows L2 My D3 XK
def dtI (S : List (List Int)) : List (List Key × V) := S.map fun k => (k.map .inl, .bl true)
theorem tkK_ints : ∀ {l : List D} {k : List Int}, intsD l = some k → tkK l = some (k.map .inl)
  | [], k, h => by cases h; rfl
  | d :: l, k, h => by
    cases d with
    | int i =>
      unfold intsD at h
      cases e : intsD l with
      | none => rw [e] at h; cases h
      | some r =>
        rw [e] at h
        cases h
        rw [tkK, tkK_ints e]
        rfl
    | _ => unfold intsD at h; cases h
theorem tkD_ts : ∀ {kvs : List (D × D)} {S : List (List Int)}, tsD kvs = some S → tkD kvs = some (dtI S)
  | [], S, h => by cases h; rfl
  | (a, b) :: r, S, h => by
    unfold tsD at h
    split at h
    · next e => cases e
    · next l r' e =>
      cases e
      obtain ⟨k, e1, e2⟩ := bind1 h
      cases e3 : tsD r with
      | none => rw [e3] at e2; cases e2
      | some S' =>
        rw [e3] at e2
        cases e2
        rw [tkD, tkK_ints e1, tkD_ts e3]
        rfl
    · cases h
theorem ts_nil {kvs : List (D × D)} {S : List (List Int)} (h : tsD kvs = some S) (hS : S ≠ []) : kvs ≠ [] := fun z => by
  subst z
  cases h
  exact hS rfl
theorem dh0_ts {kvs : List (D × D)} {S : List (List Int)} (h : tsD kvs = some S) (hS : S ≠ []) : dh0 kvs = .dT (dtI S) := by
  have := ts_nil h hS
  cases kvs with
  | nil => exact absurd rfl this
  | cons q r =>
    unfold dh0
    dsimp only
    rw [tkD_ts h]
theorem tuple_ints {K : PySem.W.Frag} {ok : Ok} {pl : Bool} {H : Hp} : ∀ {xs : List V} {l : List D} {k : List Int}, RAs K ok pl H xs l → intsD l = some k → xs = (k.map Sum.inl).map kV
  | _, _, k, .nil, h => by cases h; rfl
  | _, _, k, .cons (d := d) a q, h => by
    cases d with
    | int i =>
      unfold intsD at h
      cases e : intsD _ with
      | none => rw [e] at h; cases h
      | some r =>
        rw [e] at h
        cases h
        rw [a.intE, tuple_ints q e]
        rfl
    | _ => unfold intsD at h; cases h
theorem asTk_ra {K : PySem.W.Frag} {ok : Ok} {pl : Bool} {H : Hp} {v : V} {y : D} {k : List Int} (e : asTk y = some k) (r : RA K ok pl H v y) : ∃ b, v = .ref b ∧ H b = some (.tup ((k.map Sum.inl).map kV)) := by
  cases y with
  | tuple l =>
    obtain ⟨b, xs, rfl, h1, h2⟩ := r.tupE0
    rw [← tuple_ints h2 e]
    exact ⟨b, rfl, h1⟩
  | _ => cases e
theorem asTs_ra {K : PySem.W.Frag} {ok : Ok} {pl : Bool} {H : Hp} {v : V} {x : D} {S : List (List Int)} (e : asTs x = some S) (hS : S ≠ []) (r : RA K ok pl H v x) : ∃ a, v = .ref a ∧ L2.Rd H a (.dT (dtI S)) := by
  cases x with
  | dict kvs =>
    obtain ⟨a, rfl, h⟩ := r.dicE
    rw [dh0_ts e hS] at h
    exact ⟨a, rfl, h⟩
  | _ => cases e
theorem inl_inj : ∀ {k k' : List Int}, k.map (Sum.inl : Int → Key) = k'.map Sum.inl → k = k'
  | [], [], _ => rfl
  | [], _ :: _, h => by cases h
  | _ :: _, [], h => by cases h
  | a :: k, b :: k', h => by
    rw [List.map_cons, List.map_cons] at h
    injection h with h1 h2
    injection h1 with h1
    rw [h1, inl_inj h2]
theorem val_ts : ∀ (S : List (List Int)) (k : List Int), (valV (dtI S) (k.map Sum.inl)).isSome = decide (k ∈ S)
  | [], k => rfl
  | q :: S, k => by
    unfold dtI
    rw [List.map_cons]
    by_cases h : q = k
    · subst h
      rw [valV_pos rfl]
      simp
    · rw [valV_neg (fun z => h (inl_inj z))]
      have := val_ts S k
      unfold dtI at this
      rw [this]
      have h2 : ¬ k = q := fun z => h z.symm
      simp [h2]
theorem put_ts (S : List (List Int)) (k : List Int) : putK (dtI S) (k.map Sum.inl) (.bl true) = dtI (putT S k) := by
  unfold putK putT dtI
  have e : ((S.map fun k => ((k.map Sum.inl, V.bl true) : List Key × V)).any fun q => decide (q.1 = k.map Sum.inl)) = decide (k ∈ S) := by
    induction S with
    | nil => rfl
    | cons q S ih =>
      rw [List.map_cons, List.any_cons, ih]
      by_cases h : q = k
      · subst h; simp
      · have h2 : ¬ k = q := fun z => h z.symm
        have h3 : ¬ q.map (Sum.inl : Int → Key) = k.map Sum.inl := fun z => h (inl_inj z)
        simp [h2, h3]
  rw [e]
  by_cases h : k ∈ S
  · rw [decide_eq_true h, if_pos rfl, if_pos h, List.map_map]
    refine List.map_congr_left fun q _ => ?_
    show (if q.map Sum.inl = k.map Sum.inl then (q.map Sum.inl, V.bl true) else (q.map Sum.inl, V.bl true)) = _
    split <;> rfl
  · rw [decide_eq_false h, if_neg Bool.false_ne_true, if_neg h, List.map_append]
    rfl
theorem b_notinT {K : PySem.W.Frag} : BrO K rKNotin gTNotin := by
  intro H x y dx dy d Q rx ry e q
  obtain ⟨S, e4, e5⟩ := bind1 e
  obtain ⟨k, e6, e7⟩ := bind1 e5
  by_cases hS : S = []
  · rw [if_pos hS] at e7; cases e7
  rw [if_neg hS] at e7
  cases e7
  obtain ⟨b, rfl, hb⟩ := asTk_ra e6 rx
  obtain ⟨p, rfl, hp⟩ := asTs_ra e4 hS ry
  refine ⟨p, valV (dtI S) (k.map Sum.inl), rfl, .inr ⟨_, _, b, hp, rfl, hb, rfl⟩, ?_⟩
  rw [val_ts]
  exact q _ rfl (.bl _)
section
variable {K : PySem.W.Frag} {fl : List Fl}
theorem own_dicT {G : Gh} {ow : Ow} {σ : L2.St} {H : Hp} {δ : DS} {i : Nat} {x : D} {S : List (List Int)} (R : Rel K fl G ow σ H δ) (hfl : fl[i]? = some .N) (hx : dVar i δ = some x) (hq : asTs x = some S) (hS : S ≠ []) :
    ∃ a, σ[i]? = some (some (.ref a)) ∧ H a = some (.dT (dtI S)) ∧ ∀ H', Same H H' → ∀ S', S' ≠ [] → ∃ ow', Rel K fl G ow' σ (upd H' a (.dT (dtI S'))) (δ.set i (some (.d (dsT S')))) := by
  have e := dVar_eq hx
  have hi : i < δ.length := by
    rcases Nat.lt_or_ge i δ.length with z | z
    · exact z
    · rw [List.getElem?_eq_none z] at e; cases e
  obtain ⟨v, h1, h2, h3⟩ := R.nr i x (by rw [hfl]; rfl) e
  generalize hN : ow.n i = as at h2 h3
  cases h2 with
  | dic ha =>
    rename_i a kvs
    have ha' := ha
    rw [dh0_ts hq hS] at ha'
    refine ⟨a, h1, ha', fun H' s S' hS' => ?_⟩
    refine (R.grow s).mutN (as := [a]) hfl hi (by rw [hN]; exact List.mem_singleton_self _) (s _ _ ha) h1 ?_ (fun b hb => by rw [hN]; exact hb) (List.nodup_cons.mpr ⟨List.not_mem_nil, .nil⟩)
    refine .dic ?_
    rw [dh0_ts (ts_ds S') hS']
    exact upd_same
  | non => cases hq
  | bl _ => cases hq
  | int _ => cases hq
  | str _ => cases hq
  | lst _ _ => cases hq
  | tup _ _ => cases hq
end
def rSetT : V → V → V → Hp → (Hp → Prop) → Prop := fun o i v H Q => ∃ p kvs k b, o = .ref p ∧ i = .ref b ∧ H p = some (.dT kvs) ∧ H b = some (.tup (List.map kV k)) ∧ kvs.length < sizeLine ∧ Q (upd H p (.dT (putK kvs k v)))
section
variable {X : Cx} {fl : List Fl} {e a b c ke : Expr} {f fa fb fc fk : FE} {pos : Pos}
theorem set_dicT (hu : X.A.units + 1 < cLine) : PSet X rSetT := by
  intro pins s σ H o i v ov iv u Q I ro ri rv h
  obtain ⟨p, kvs, k, b, rfl, rfl, hp, hb, hl, q⟩ := h
  cases ro
  exact d_setItem hu I (DPut.t hp hb hl) ri rv fun s' I' => ⟨_, I', q⟩
theorem ds_tput (hu : X.A.units + 1 < cLine) {i : Nat} {x : Str} {vpos spos : Pos} (hfl : fl[i]? = some .N) (he : PE X e (tC (.bl true))) (hk : DE X fl .P ke fk) (hN : X.N[i]? = some x) (hv : Vis X.env.scope x := by first | exact Or.inl rfl | exact Or.inr (Or.inl rfl) | exact Or.inr (Or.inr rfl)) (hd : (x == ("__debug__" : Str)) = false := by decide)
    (hcd : (x == ("__classdict__" : Str)) = false := by decide) (ha : ∀ v, assign (.Subscript (.Name x vpos) ke spos) X.env v = (do
      let ov ← holding [v] (eval (.Name x vpos) X.env)
      let iv ← holding [v, ov] (eval ke X.env)
      standAt spos
      holding [v, ov, iv] (setItem ov iv v)
      release [v, ov, iv] []) := by intro _; rfl)
    (hs : swapsWithSole [.Subscript (.Name x vpos) ke spos] e pos.line X.env = pure false := by rfl) (hw : swappedStores [.Subscript (.Name x vpos) ke spos] e X.env = pure none := by rfl)
    (h1 : (assignEach [.Subscript (.Name x vpos) ke spos] X.env).map (·.2) = [assign (.Subscript (.Name x vpos) ke spos) X.env] := by rfl) :
    DS1 X fl (.Assign [.Subscript (.Name x vpos) ke spos] e pos) (sTPut i fk) :=
  PS.imp (ps_asg he (pg_sub (pe_var hN hv hd hcd) hk (set_dicT hu) ha) hs hw h1) fun Dn σ H h => by
  obtain ⟨G, ow, δ, o, R, hf, q⟩ := h
  obtain ⟨y, e1, hf⟩ := bind1 hf
  obtain ⟨z, e2, hf⟩ := bind1 hf
  obtain ⟨S, e3, hf⟩ := bind1 hf
  obtain ⟨k, e4, hf⟩ := bind1 hf
  by_cases hc : S ≠ [] ∧ S.length < 1000000
  case neg => rw [if_neg hc] at hf; cases hf
  rw [if_pos hc] at hf
  cases hf
  obtain ⟨p, h1, h2, h3⟩ := own_dicT R hfl e1 e3 hc.1
  refine ⟨_, h1, G, ow, δ, _, R, e2, fun u H2 s2 r2 => ?_⟩
  obtain ⟨b, rfl, hb⟩ := asTk_ra e4 r2
  have hS' : putT S k ≠ [] := by
    unfold putT
    split
    · exact hc.1
    · simp
  obtain ⟨ow', R'⟩ := h3 H2 s2 (putT S k) hS'
  refine ⟨p, dtI S, k.map Sum.inl, b, rfl, rfl, s2 _ _ h2, hb, by unfold dtI; rw [List.length_map]; exact Nat.lt_trans hc.2 (by decide), ?_⟩
  rw [put_ts]
  exact q ow' σ _ R'
def tDicT (tk : TE) : TE := fun σ H Q => ∀ p, H p = none → tk σ (upd H p (.dT [])) fun x H1 => H1 p = some (.dT []) ∧ ∃ b k, x = .ref b ∧ H1 b = some (.tup (List.map kV k)) ∧ Q (.ref p) (upd H1 p (.dT [(k, .bl true)]))
theorem pe_dicT {tk : TE} {ve : Expr} (hu : X.A.units + 1 < cLine) (hk : PE X ke tk) (hv : PE X ve (tC (.bl true))) : PE X (.Dict [some ke] [ve] pos) (tDicT tk) := by
  intro pins s σ H Q I q
  have hu0 : (tupleKind (mixKind X.prog X.w)).room X.A := (show X.A.units < cLine by omega)
  have hn := I.hok.fresh (Nat.le_refl s.heap.objs.size)
  have I1 := I.laid (a := s.heap.objs.size) (o := .dT []) (h' := s.heap.push { cls := .type "dict", data := .dict #[] }) (t' := s.toks) (fun _ _ q => Heap.get?_push_of_some _ q) (Nat.le_refl _) (dt_empty s.heap I.big)
  rw [arm_eval_Dict, zip_pairTrees [some ke] [ve] X.env pos rfl rfl, dictDisplay_pairs _ (by intro z; cases z) (by rw [pairTrees_length [some ke] [ve] X.env pos rfl rfl]; exact (show 1 < 17 by decide))]
  refine wpAny_bind (wpAny_standAt (wpAny_bind ?_))
  unfold subDict
  refine wpAny_bind (wpAny_alloc ?_)
  refine wpAny_bind (wpAny_holding ?_)
  rw [if_pos (by rw [pairTrees_length [some ke] [ve] X.env pos rfl rfl]; exact (show 1 ≤ 15 by decide))]
  refine wpAny_bind (pairTrees_cons_walk (thn (hk pins _ σ _ _ I1 (q _ hn)) fun u s1 ⟨x, H1, I2, rx, e, b, k, ex, eb, q1⟩ => thn (hv pins s1 σ H1 (fun v H2 => v = .bl true ∧ H2 = H1) I2 ⟨rfl, rfl⟩) fun w2 s2 ⟨y, H2, I3, ry, ey, eH⟩ => pairTrees_nil_walk ?_))
  subst ex ey eH
  cases (show u = Value.ref b from rx)
  obtain rfl : w2 = Value.bool true := ry
  obtain ⟨z, hd, xs, rel, dd⟩ := dt_of I3.hok e
  cases rel
  refine wpAny_holding ?_
  rw [List.forIn_cons]
  refine wpAny_bind (wpAny_bind (wpAny_bind (wpAny_dictSet_heap (hsz := Nat.zero_le _) hu0 (key_of I3.hok eb) dd fun h' dd' hs => wpAny_pure ?_)))
  dsimp only
  rw [List.forIn_nil]
  refine wpAny_pure (wpAny_pure (wpAny_pure (wpAny_pure ⟨.ref s.heap.objs.size, _, ?_, rfl, q1⟩)))
  obtain ⟨o, es, ep, hq, h2, h3, h4, _, h5⟩ := dd'
  refine d_write I3 (by rw [e]; exact True.intro) hs ⟨o, hq⟩ ⟨(show 1 ≤ sizeLine by decide), hd, _, (KT.keeps (KT.put .nil k eb rfl) fun c ys ec => ?_), o, es, ep, hq, h2, h3, h4, h5⟩
  rw [upd_ne (ne_of ec e (fun z => nomatch z))]
  exact ec
end
end XT
namespace XT
open PySem PySem.Spec PyProof.Rows L2 My D3 XK
theorem de_dicT {X : Cx} {fl : List Fl} {ke ve : Expr} {fk : FE} {pos : Pos} (hu : X.A.units + 1 < cLine) (hk : DE X fl .P ke fk) (hv : PE X ve (tC (.bl true))) : DE X fl .T (.Dict [some ke] [ve] pos) (dTNew fk) := PE.imp (pe_dicT hu hk hv) fun σ H Q h => by
  obtain ⟨G, ow, δ, d, R, hf, q⟩ := h
  obtain ⟨y, e1, e2⟩ := bind1 hf
  cases e3 : asTk y with
  | none => rw [e3] at e2; cases e2
  | some k =>
    rw [e3] at e2
    cases e2
    intro p hp
    refine ⟨G, ow, δ, y, R.grow (same_new hp _), e1, fun v H1 s1 r1 => ?_⟩
    obtain ⟨b, rfl, hb⟩ := asTk_ra e3 r1
    refine ⟨s1 _ _ upd_same, b, k.map Sum.inl, rfl, hb, q _ _ (fun b0 o e => ?_) ⟨[p], .dic ?_, List.nodup_cons.mpr ⟨List.not_mem_nil, .nil⟩, fun x hx => by rw [List.mem_singleton.mp hx]; exact hp⟩⟩
    · have ne : b0 ≠ p := ne_of_none e hp
      rw [upd_ne ne]
      exact s1 _ _ (by rw [upd_ne ne]; exact e)
    · rw [dh0_ts (ts_ds [k]) (by simp)]
      exact upd_same
end XT
namespace XV
open PySem PySem.Spec PyProof.Rows L2 My D3
section
variable {K : PySem.W.Frag} {fl : List Fl}
theorem none_get {δ : DS} {j k : Nat} {d : D} (h : (δ.set j none)[k]? = some (some (.d d))) : k ≠ j ∧ δ[k]? = some (some (.d d)) := by
  by_cases z : k = j
  · subst z
    rw [List.getElem?_set] at h
    rw [if_pos rfl] at h
    split at h <;> cases h
  · rw [List.getElem?_set_ne (Ne.symm z)] at h
    exact ⟨z, h⟩
theorem give {G : Gh} {ow : Ow} {σ : L2.St} {H : Hp} {δ : DS} {j : Nat} {d : D} (R : Rel K fl G ow σ H δ) (hfl : fl[j]? = some .O) (hd : dVar j δ = some d) :
    Rel K fl G (owSet ow j none) σ H (δ.set j none) ∧ ∃ v, σ[j]? = some (some v) ∧ RA K (okA (owSet ow j none)) true H v d := by
  have e := dVar_eq hd
  have sub : ∀ b, okA ow b → okA (owSet ow j none) b := fun b z => ⟨fun k q => by
    by_cases hk : k = j
    · subst hk; rw [owSet_eq] at q; cases q
    · rw [owSet_ne hk] at q; exact z.1 k q, z.2⟩
  have own' : ∀ k a, owSet ow j none k = some a → k ≠ j ∧ ow k = some a := fun k a q => by
    by_cases hk : k = j
    · subst hk; rw [owSet_eq] at q; cases q
    · rw [owSet_ne hk] at q; exact ⟨hk, q⟩
  have none' : ∀ k, owSet ow j none k = none → k ≠ j → ow k = none := fun k q hk => by rw [owSet_ne hk] at q; exact q
  refine ⟨⟨R.s0, R.s1, by rw [List.length_set]; exact R.len, fun k a h => ?_, fun k l a h1 h2 => R.inj k l a (own' k a h1).2 (own' l a h2).2, fun k h => ?_, fun k d' h hn h2 => ?_, fun k d' h hn h2 h3 => ?_, R.nt, R.nd, fun k l a h1 h2 => R.ns k l a h1 (own' l a h2).2, R.np, fun k d' hn h => ?_⟩, ?_⟩
  · obtain ⟨hk, h⟩ := own' k a h
    obtain ⟨h0, hf, xs, ds, h1, h2, h3, h4⟩ := R.own k a h
    exact ⟨h0, hf, xs, ds, h1, h2, h3.imp sub (fun z => z), by rw [List.getElem?_set_ne (Ne.symm hk)]; exact h4⟩
  · have hk : k ≠ j := fun z => by rw [z, hfl] at h; cases h
    rw [owSet_ne hk]
    exact R.pin k h
  · obtain ⟨hk, h⟩ := none_get h
    obtain ⟨v, h3, h4⟩ := R.dat k d' h hn (none' k h2 hk)
    exact ⟨v, h3, h4.imp sub (fun z => z)⟩
  · obtain ⟨hk, h⟩ := none_get h
    exact R.oo k d' h hn h2 (none' k h3 hk)
  · obtain ⟨hk, h⟩ := none_get h
    exact R.nr k d' hn h
  · cases ho : ow j with
    | none =>
      obtain ⟨v, h1, h2⟩ := R.dat j d e (by rw [hfl]; rfl) ho
      exact ⟨v, h1, h2.imp sub (fun z => z)⟩
    | some a =>
      obtain ⟨h0, hf, xs, ds, h1, h2, h3, h4⟩ := R.own j a ho
      rw [e] at h4
      cases h4
      refine ⟨_, h1, .lst h2 ⟨fun k q => ?_, fun k q => R.ns k j a q ho⟩ (h3.imp sub (fun z => z))⟩
      obtain ⟨hk, q⟩ := own' k a q
      exact hk (R.inj k j a q ho)
end
theorem ds_mov {X : Cx} {fl : List Fl} {pos : Pos} {i j : Nat} {x y : Str} {px py : Pos} (hfl : fl[i]? = some .A) (hfj : fl[j]? = some .O) (hN : X.N.Nodup) (hi : X.N[i]? = some x) (hv : X.env.scope.names.lookup x = some .local ∨ X.env.scope.names.lookup x = some .cell)
    (hj : X.N[j]? = some y := by rfl) (hvj : Vis X.env.scope y := by first | exact Or.inl rfl | exact Or.inr (Or.inl rfl) | exact Or.inr (Or.inr rfl)) (hd : (y == ("__debug__" : Str)) = false := by decide) (hcd : (y == ("__classdict__" : Str)) = false := by decide)
    (hs : swapsWith (.Name y py) (some (.Name x px)) pos.line X.env = pure false := by rfl) (hfn : X.fn x = true ∨ X.env.scope.names.lookup x = some .local := by first | exact .inl rfl | exact .inr rfl) :
    DS1 X fl (.Assign [.Name x px] (.Name y py) pos) (sMov i j) := PS.imp (ps_set (i := i) hN hi hv (pe_var hj hvj hd hcd) hs hfn) fun Dn σ H h => by
  obtain ⟨G, ow, δ, o, R, hf, q⟩ := h
  unfold sMov at hf
  by_cases hl : i < δ.length
  · rw [if_pos hl] at hf
    obtain ⟨d, e1, e2⟩ := bind1 hf
    cases e2
    obtain ⟨R', v, h1, h2⟩ := give R hfj e1
    exact ⟨v, h1, q _ _ H (R'.setA hfl (slot_lt R hl) h2)⟩
  · rw [if_neg hl] at hf; cases hf
end XV
namespace D3
open PySem
def qS (o : Option Oc) (b : FS) : Option Oc := match o with
  | some (.nx δ) => b δ
  | some o => some o
  | none => none
def qI (o : Option Bool) (a b : FS) (δ : DS) : Option Oc := match o with
  | some true => a δ
  | some false => b δ
  | none => none
def qO (g : D → D → Option D) (a b : Option D) : Option D := match a, b with
  | some x, some y => g x y
  | _, _ => none
def qU (g : D → Option D) (a : Option D) : Option D := match a with
  | some x => g x
  | none => none
def qC (a : Option D) (r : Option (List D)) : Option (List D) := match a, r with
  | some x, some l => some (x :: l)
  | _, _ => none
def qF (F : List D → Option D) (l : Option (List D)) : Option D := match l with
  | some l => F l
  | none => none
def qR (a : Option D) : Option Oc := match a with
  | some d => some (.rt d)
  | none => none
def qSet (i : Nat) (a : Option D) (δ : DS) : Option Oc := match a with
  | some d => if i < δ.length then some (.nx (δ.set i (some (.d d)))) else none
  | none => none
def qAnd (a : Option D) (fb : FE) (δ : DS) : Option D := match a with
  | some (.bool true) => fb δ
  | some (.bool false) => some (.bool false)
  | _ => none
def qOr (a : Option D) (fb : FE) (δ : DS) : Option D := match a with
  | some (.bool true) => some (.bool true)
  | some (.bool false) => fb δ
  | _ => none
def qN (a : Option D) : Option D := match a with
  | some (.bool b) => some (.bool (!b))
  | _ => none
def qB (a : Option D) : Option Bool := match a with
  | some (.bool b) => some b
  | _ => none
def qTA (a : Option Bool) (b : FT) (δ : DS) : Option Bool := match a with
  | some true => b δ
  | some false => some false
  | none => none
def qTO (a : Option Bool) (b : FT) (δ : DS) : Option Bool := match a with
  | some true => some true
  | some false => b δ
  | none => none
def qTN (a : Option Bool) : Option Bool := match a with
  | some b => some (!b)
  | none => none
def qE (a : Option Bool) (fa fb : FE) (δ : DS) : Option D := match a with
  | some true => fa δ
  | some false => fb δ
  | none => none
def qL (a : Option D) : Option (List D) := match a with
  | some (.list l) => some l
  | _ => none
def qFor (a : Option (List D)) (g : FG) (b : FS) (δ : DS) : Option Oc := match a with
  | some l => forD g b l δ
  | none => none
def qD (a : Option DS) : Option Oc := match a with
  | some δ => some (.nx δ)
  | none => none
def qG (a : Option D) (g : FG) (δ : DS) : Option DS := match a with
  | some d => g d δ
  | none => none
def qGs (a : Option DS) (r : List D → DS → Option DS) (l : List D) : Option DS := match a with
  | some δ => r l δ
  | none => none
def qT (a : Option (List D)) : Option D := match a with
  | some l => if l.length ≤ sizeLine then some (.tuple l) else none
  | none => none
def qK (a : Option (List D)) : Option D := match a with
  | some l => if l.length ≤ sizeLine then some (.list l) else none
  | none => none
def qFl (p : D → Bool) (a : Option D) : Option D := match a with
  | some d => if p d = true then some d else none
  | none => none
def qA (i : Nat) (x a : Option D) (δ : DS) : Option Oc := match x, a with
  | some (.list l), some d => if l.length < 1000000 then some (.nx (δ.set i (some (.d (.list (l ++ [d])))))) else none
  | _, _ => none
def qP (i : Nat) (a x k : Option D) (δ : DS) : Option Oc := match a, x, k with
  | some d, some (.list l), some (.int j) => (pIx l.length j).bind fun n => some (.nx (δ.set i (some (.d (.list (l.set n d))))))
  | _, _, _ => none
def qCh (g' : D → D → Option D) (z : Option D) (y : Option D) (fc : FE) (δ : DS) : Option D := match z with
  | some (.bool true) => qO g' y (fc δ)
  | some (.bool false) => some (.bool false)
  | _ => none
def qFn (o : Option Oc) : Option D := match o with
  | some (.rt d) => some d
  | some (.nx _) => some .none
  | _ => none
def qCo (a : Option (List D)) (g : FG) (c : FT) (e : FE) (t : Nat) (ix : List Nat) (δ : DS) : Option D := match a with
  | some l => if l.length ≤ 100000 then (match compD g c e (capD t ix δ) l with | some r => some (.list r) | none => none) else none
  | none => none
section
variable {a b : FS} {c c' : FT} {fa fb fc : FE} {fr : FA} {δ : DS} {g : D → D → Option D} {h : D → Option D} {F : List D → Option D} {i : Nat} {G : FG} {d : D}
theorem v_seq : sSeq a b δ = qS (a δ) b := by
  unfold sSeq qS
  cases a δ with
  | none => rfl
  | some o => cases o <;> rfl
theorem v_seq_nx {δ' : DS} : qS (some (.nx δ')) b = b δ' := rfl
theorem v_seq_rt : qS (some (.rt d)) b = some (.rt d) := rfl
theorem v_seq_bk {δ' : DS} : qS (some (.bk δ')) b = some (.bk δ') := rfl
theorem v_seq_ct {δ' : DS} : qS (some (.ct δ')) b = some (.ct δ') := rfl
theorem v_nil : sNil δ = some (.nx δ) := rfl
theorem v_bk : sBk δ = some (.bk δ) := rfl
theorem v_ct : sCt δ = some (.ct δ) := rfl
theorem v_if : sIf c a b δ = qI (c δ) a b δ := by
  unfold sIf qI
  cases c δ with
  | none => rfl
  | some t => cases t <;> rfl
theorem v_if_t : qI (some true) a b δ = a δ := rfl
theorem v_if_f : qI (some false) a b δ = b δ := rfl
theorem v_op : dOp g fa fb δ = qO g (fa δ) (fb δ) := by
  unfold dOp qO
  cases fa δ <;> cases fb δ <;> rfl
theorem v_op_s {x y : D} : qO g (some x) (some y) = g x y := rfl
theorem v_un : dUn h fa δ = qU h (fa δ) := by
  unfold dUn qU
  cases fa δ <;> rfl
theorem v_un_s {x : D} : qU h (some x) = h x := rfl
theorem v_lnil : dNil δ = some [] := rfl
theorem v_lcons : dCons fa fr δ = qC (fa δ) (fr δ) := by
  unfold dCons qC
  cases fa δ <;> cases fr δ <;> rfl
theorem v_lcons_s {x : D} {l : List D} : qC (some x) (some l) = some (x :: l) := rfl
theorem v_call : dCall F fr δ = qF F (fr δ) := by
  unfold dCall qF
  cases fr δ <;> rfl
theorem v_call_s {l : List D} : qF F (some l) = F l := rfl
theorem v_ret : sRet fa δ = qR (fa δ) := by
  unfold sRet qR
  cases fa δ <;> rfl
theorem v_ret_s : qR (some d) = some (.rt d) := rfl
theorem v_retN : sRetN δ = some (.rt .none) := rfl
theorem v_set : sSetl i fa δ = qSet i (fa δ) δ := by
  unfold sSetl sSet qSet
  cases fa δ with
  | none => simp
  | some d => rfl
theorem v_set_s : qSet i (some d) δ = if i < δ.length then some (.nx (δ.set i (some (.d d)))) else none := rfl
theorem v_c : dC d δ = some d := rfl
theorem v_and : dAnd fa fb δ = qAnd (fa δ) fb δ := by
  unfold dAnd qAnd
  cases fa δ with
  | none => rfl
  | some x =>
    cases x <;> try rfl
    next b => cases b <;> rfl
theorem v_and_t : qAnd (some (.bool true)) fb δ = fb δ := rfl
theorem v_and_f : qAnd (some (.bool false)) fb δ = some (.bool false) := rfl
theorem v_or : dOr fa fb δ = qOr (fa δ) fb δ := by
  unfold dOr qOr
  cases fa δ with
  | none => rfl
  | some x =>
    cases x <;> try rfl
    next b => cases b <;> rfl
theorem v_or_t : qOr (some (.bool true)) fb δ = some (.bool true) := rfl
theorem v_or_f : qOr (some (.bool false)) fb δ = fb δ := rfl
theorem v_not : dNot fa δ = qN (fa δ) := by
  unfold dNot qN
  cases fa δ with
  | none => rfl
  | some x => cases x <;> rfl
theorem v_not_s {b : Bool} : qN (some (.bool b)) = some (.bool (!b)) := rfl
theorem v_tb : tBool fa δ = qB (fa δ) := by
  unfold tBool qB
  cases fa δ with
  | none => rfl
  | some x => cases x <;> rfl
theorem v_tb_s {b : Bool} : qB (some (.bool b)) = some b := rfl
theorem v_tand : D3.tAnd c c' δ = qTA (c δ) c' δ := by
  unfold D3.tAnd qTA
  cases c δ with
  | none => rfl
  | some t => cases t <;> rfl
theorem v_tand_t : qTA (some true) c δ = c δ := rfl
theorem v_tand_f : qTA (some false) c δ = some false := rfl
theorem v_tor : D3.tOr c c' δ = qTO (c δ) c' δ := by
  unfold D3.tOr qTO
  cases c δ with
  | none => rfl
  | some t => cases t <;> rfl
theorem v_tor_t : qTO (some true) c δ = some true := rfl
theorem v_tor_f : qTO (some false) c δ = c δ := rfl
theorem v_tnot : D3.tNot c δ = qTN (c δ) := by
  unfold D3.tNot qTN
  cases c δ <;> rfl
theorem v_tnot_s {b : Bool} : qTN (some b) = some (!b) := rfl
theorem v_ite : dIf c fa fb δ = qE (c δ) fa fb δ := by
  unfold dIf qE
  cases c δ with
  | none => rfl
  | some t => cases t <;> rfl
theorem v_ite_t : qE (some true) fa fb δ = fa δ := rfl
theorem v_ite_f : qE (some false) fa fb δ = fb δ := rfl
theorem v_lst : fLst fa δ = qL (fa δ) := by
  unfold fLst qL asList
  cases fa δ with
  | none => rfl
  | some x => cases x <;> rfl
theorem v_lst_s {l : List D} : qL (some (.list l)) = some l := rfl
theorem v_for : sFor fr G b δ = qFor (fr δ) G b δ := by
  unfold sFor qFor
  cases fr δ <;> rfl
theorem v_for_s {l : List D} : qFor (some l) G b δ = forD G b l δ := rfl
theorem v_for_nil : forD G b [] δ = some (.nx δ) := rfl
theorem v_asg : sAsg fa G δ = qD (qG (fa δ) G δ) := by
  unfold sAsg qG qD
  cases fa δ with
  | none => rfl
  | some d =>
    dsimp only [Option.bind_some]
    cases G d δ <;> rfl
theorem v_asg_s : qG (some d) G δ = G d δ := rfl
theorem v_asg_d {δ' : DS} : qD (some δ') = some (.nx δ') := rfl
theorem v_gn : gNl i d δ = if i < δ.length then some (δ.set i (some (.d d))) else none := rfl
theorem v_gt {n : Nat} {gs : List D → DS → Option DS} {l : List D} : gTn n gs (.tuple l) δ = if l.length = n then gs l δ else none := rfl
theorem v_gsn : gsNil [] δ = some δ := rfl
theorem v_gsc {gs : List D → DS → Option DS} {l : List D} : gsCons G gs (d :: l) δ = qGs (G d δ) gs l := by
  show (G d δ).bind (fun δ' => gs l δ') = qGs (G d δ) gs l
  cases G d δ <;> rfl
theorem v_gsc_s {gs : List D → DS → Option DS} {l : List D} {δ' : DS} : qGs (some δ') gs l = gs l δ' := rfl
theorem v_tup : dTup fr δ = qT (fr δ) := by
  unfold dTup qT
  cases fr δ <;> rfl
theorem v_tup_s {l : List D} : qT (some l) = if l.length ≤ sizeLine then some (.tuple l) else none := rfl
theorem v_dl : dLst fr δ = qK (fr δ) := by
  unfold dLst qK
  cases fr δ <;> rfl
theorem v_dl_s {l : List D} : qK (some l) = if l.length ≤ sizeLine then some (.list l) else none := rfl
theorem v_flat : dFlat fa δ = qFl flat (fa δ) := by
  unfold dFlat qFl
  cases fa δ <;> rfl
theorem v_fl1 : dFl1 fa δ = qFl fl1 (fa δ) := by
  unfold dFl1 qFl
  cases fa δ <;> rfl
theorem v_fl_s {p : D → Bool} : qFl p (some d) = if p d = true then some d else none := rfl
theorem v_app : sApp i fa δ = qA i (dVar i δ) (fa δ) δ := by
  unfold sApp qA
  cases dVar i δ with
  | none => rfl
  | some x =>
    cases fa δ with
    | none => cases x <;> rfl
    | some d => cases x <;> rfl
theorem v_app_s {l : List D} : qA i (some (.list l)) (some d) δ = if l.length < 1000000 then some (.nx (δ.set i (some (.d (.list (l ++ [d])))))) else none := rfl
theorem v_put {fk : FE} : sPut i fk fa δ = qP i (fa δ) (dVar i δ) (fk δ) δ := by
  unfold sPut qP
  cases fa δ with
  | none => rfl
  | some d =>
    cases dVar i δ with
    | none => rfl
    | some x =>
      cases fk δ with
      | none => cases x <;> rfl
      | some k => cases x <;> cases k <;> rfl
theorem v_put_s {l : List D} {j : Int} : qP i (some d) (some (.list l)) (some (.int j)) δ = (pIx l.length j).bind fun n => some (.nx (δ.set i (some (.d (.list (l.set n d)))))) := rfl
theorem v_chain {g' : D → D → Option D} : dChain g g' fa fb fc δ = qCh g' (qO g (fa δ) (fb δ)) (fb δ) fc δ := by
  unfold dChain qCh qO
  cases fa δ with
  | none => rfl
  | some x =>
    cases fb δ with
    | none => rfl
    | some y =>
      dsimp only [Option.bind_some]
      cases g x y with
      | none => rfl
      | some z =>
        cases z <;> try rfl
        next b =>
        cases b with
        | false => rfl
        | true => dsimp only [Option.bind_some]; cases fc δ <;> rfl
theorem v_chain_t {g' : D → D → Option D} {y : Option D} : qCh g' (some (.bool true)) y fc δ = qO g' y (fc δ) := rfl
theorem v_chain_f {g' : D → D → Option D} {y : Option D} : qCh g' (some (.bool false)) y fc δ = some (.bool false) := rfl
theorem v_fn {p q : Nat} {ds : List D} : fnD p q b ds = if ds.length = p then qFn (b (ds.map (fun d => some (.d d)) ++ List.replicate q none)) else none := by
  unfold fnD qFn
  rfl
theorem v_fn_rt : qFn (some (.rt d)) = some d := rfl
theorem v_fn_nx {δ' : DS} : qFn (some (.nx δ')) = some .none := rfl
theorem v_comp {t : Nat} {ix : List Nat} : dComp fr G c fa t ix δ = qCo (fr δ) G c fa t ix δ := by
  unfold dComp qCo
  cases fr δ with
  | none => rfl
  | some l =>
    dsimp only [Option.bind_some]
    by_cases z : l.length ≤ 100000
    · rw [if_pos z, if_pos z]
      cases compD G c fa (capD t ix δ) l <;> rfl
    · rw [if_neg z, if_neg z]
theorem v_comp_s {t : Nat} {ix : List Nat} {l : List D} : qCo (some l) G c fa t ix δ = if l.length ≤ 100000 then (match compD G c fa (capD t ix δ) l with | some r => some (.list r) | none => none) else none := rfl
theorem v_yes : D3.tYes δ = some true := rfl
theorem v_var0 {r : DS} {x : D} : dVar 0 (some (.d x) :: r) = some x := rfl
theorem v_varS {r : DS} {y : Option U} : dVar (i + 1) (y :: r) = dVar i r := rfl
end
section
variable {i j : Int} {l m : List D} {d : D}
theorem n_add : gAdd (.int i) (.int j) = some (.int (i + j)) := rfl
theorem n_sub : gSub (.int i) (.int j) = some (.int (i - j)) := rfl
theorem n_lt : gLt (.int i) (.int j) = some (.bool (decide (i < j))) := rfl
theorem n_le : gLe (.int i) (.int j) = some (.bool (decide (i ≤ j))) := rfl
theorem n_gt : gGt (.int i) (.int j) = some (.bool (decide (j < i))) := rfl
theorem n_ge : gGe (.int i) (.int j) = some (.bool (decide (j ≤ i))) := rfl
theorem n_eqI : gEq (.int i) (.int j) = some (.bool (decide (i = j))) := rfl
theorem n_neI : gNe (.int i) (.int j) = some (.bool (!decide (i = j))) := rfl
theorem n_len : gLen [.list l] = some (.int l.length) := rfl
theorem n_lenT : gLen [.tuple l] = some (.int l.length) := rfl
theorem intsD_map : ∀ ns : List Int, intsD (ns.map .int) = some ns
  | [] => rfl
  | n :: r => by rw [List.map_cons, intsD, intsD_map r]; rfl
theorem n_abs : gAbs [.int i] = some (.int (if i < 0 then -i else i)) := rfl
theorem n_max : gMax2 [.int i, .int j] = some (.int (if j > i then j else i)) := rfl
theorem n_min : gMin2 [.int i, .int j] = some (.int (if j < i then j else i)) := rfl
theorem n_neg : gNeg (.int i) = some (.int (-i)) := rfl
theorem n_ix : gIx (.list l) (.int i) = pAt l i := rfl
theorem n_ixT : gIx (.tuple l) (.int i) = pAt l i := rfl
theorem n_cat : gCat (.list l) (.list m) = if l.length + m.length ≤ 1000000 then some (.list (l ++ m)) else none := rfl
theorem n_list : gList (.list l) = some (.list l) := rfl
theorem n_listT : gList (.tuple l) = some (.list l) := rfl
theorem n_at0 : pAt (d :: l) 0 = some d := by
  unfold pAt pIx
  rw [if_pos (by decide), if_pos (by simp)]
  rfl
end
def qPar (i j : Nat) (a : Option (List D)) (δ : DS) : Option Oc := match a with
  | some l => match l with
    | [x, y] => if i < δ.length ∧ j < δ.length then some (.nx ((δ.set i (some (.d x))).set j (some (.d y)))) else none
    | _ => none
  | none => none
def qRng1 (a : Option (List D)) : Option (List D) := match a with
  | some l => match l with
    | [.int j] => if rngG j = true then some (rngD 0 j) else none
    | _ => none
  | none => none
def qRng2 (a : Option (List D)) : Option (List D) := match a with
  | some l => match l with
    | [.int i, .int j] => if (rngG i && rngG j) = true then some (rngD i j) else none
    | _ => none
  | none => none
def qSl (x : Option D) (a b : Option (Option Int)) : Option D := match x, a, b with
  | some (.list l), some a, some b => some (.list (cutD l a b))
  | _, _, _ => none
def qOP (x : Option D) : Option (Option Int) := match x with
  | some (.int i) => some (some i)
  | _ => none
def qEn (x : Option D) : Option (List D) := match x with
  | some (.list l) => some (enumD l)
  | _ => none
section
variable {a b : FS} {fa : FE} {fr : FA} {δ : DS} {i j : Nat} {g : FG}
theorem v_par : sPar i j fr δ = qPar i j (fr δ) δ := by
  unfold sPar qPar
  cases fr δ with
  | none => rfl
  | some l => rfl
theorem v_par_s {x y : D} : qPar i j (some [x, y]) δ = if i < δ.length ∧ j < δ.length then some (.nx ((δ.set i (some (.d x))).set j (some (.d y)))) else none := rfl
theorem v_rng1 : fRng1 fr δ = qRng1 (fr δ) := by
  unfold fRng1 qRng1
  cases fr δ with
  | none => rfl
  | some l => rfl
theorem rng1 {k : Int} (h : -(2 ^ 62) ≤ k) (h2 : k < 2 ^ 62) : qRng1 (some [.int k]) = some (rngD 0 k) := by
  show (if rngG k = true then some (rngD 0 k) else none) = _
  rw [if_pos]
  unfold rngG
  rw [decide_eq_true h, decide_eq_true h2]
  rfl
theorem v_rng2 : fRng2 fr δ = qRng2 (fr δ) := by
  unfold fRng2 qRng2
  cases fr δ with
  | none => rfl
  | some l => rfl
theorem rng2 {i k : Int} (h : -(2 ^ 62) ≤ k) (h2 : k < 2 ^ 62) (h3 : -(2 ^ 62) ≤ i) (h4 : i < 2 ^ 62) : qRng2 (some [.int i, .int k]) = some (rngD i k) := by
  show (if (rngG i && rngG k) = true then some (rngD i k) else none) = _
  rw [if_pos]
  unfold rngG
  rw [decide_eq_true h, decide_eq_true h2, decide_eq_true h3, decide_eq_true h4]
  rfl
theorem v_sl {lo hi : FO} : dSl fa lo hi δ = qSl (fa δ) (lo δ) (hi δ) := by
  unfold dSl qSl
  cases fa δ with
  | none => rfl
  | some x =>
    dsimp only [Option.bind_some]
    cases lo δ with
    | none => cases x <;> rfl
    | some p =>
      dsimp only [Option.bind_some]
      cases hi δ with
      | none => cases x <;> rfl
      | some r => cases x <;> rfl
theorem v_sl_s {l : List D} {p r : Option Int} : qSl (some (.list l)) (some p) (some r) = some (.list (cutD l p r)) := rfl
theorem v_oN : oNone δ = some none := rfl
theorem v_oP : oPart fa δ = qOP (fa δ) := by
  unfold oPart qOP
  cases fa δ with
  | none => rfl
  | some x => cases x <;> rfl
theorem v_oP_s {k : Int} : qOP (some (.int k)) = some (some k) := rfl
theorem v_enum : fEnum fa δ = qEn (fa δ) := by
  unfold fEnum qEn
  cases fa δ with
  | none => rfl
  | some x => cases x <;> rfl
theorem v_enum_s {l : List D} : qEn (some (.list l)) = some (enumD l) := rfl
theorem for_inv (Inv : Nat → DS → Prop) : ∀ (l : List D) (δ : DS), Inv 0 δ → (∀ i d δ, l[i]? = some d → Inv i δ → ∃ δ1 δ', g d δ = some δ1 ∧ (b δ1 = some (.nx δ') ∨ b δ1 = some (.ct δ')) ∧ Inv (i + 1) δ') → ∃ δ', forD g b l δ = some (.nx δ') ∧ Inv l.length δ' := by
  have key : ∀ (l : List D) (k : Nat) (δ : DS), Inv k δ → (∀ i d δ, l[i]? = some d → Inv (k + i) δ → ∃ δ1 δ', g d δ = some δ1 ∧ (b δ1 = some (.nx δ') ∨ b δ1 = some (.ct δ')) ∧ Inv (k + i + 1) δ') → ∃ δ', forD g b l δ = some (.nx δ') ∧ Inv (k + l.length) δ' := by
    intro l
    induction l with
    | nil => exact fun k δ h _ => ⟨δ, rfl, h⟩
    | cons d r ih =>
      intro k δ h hs
      obtain ⟨δ1, δ', e1, e2, e3⟩ := hs 0 d δ rfl h
      obtain ⟨δ2, e4, e5⟩ := ih (k + 1) δ' e3 fun i d' δ'' hd hi => by
        have := hs (i + 1) d' δ'' (by simpa using hd) (by rw [show k + (i + 1) = k + 1 + i by omega]; exact hi)
        rw [show k + (i + 1) + 1 = k + 1 + i + 1 by omega] at this
        exact this
      refine ⟨δ2, ?_, by rw [List.length_cons, show k + (r.length + 1) = k + 1 + r.length by omega]; exact e5⟩
      rw [forD, e1, Option.bind_some]
      rcases e2 with e2 | e2
      · rw [e2]; exact e4
      · rw [e2]; exact e4
  intro l δ h hs
  have := key l 0 δ h fun i d δ hd hi => by
    have := hs i d δ hd (by rw [Nat.zero_add] at hi; exact hi)
    rw [Nat.zero_add]
    exact this
  rw [Nat.zero_add] at this
  exact this
end
def qX (a : Option D) (δ : DS) : Option Oc := match a with
  | some _ => some (.nx δ)
  | none => none
theorem v_expr {fa : FE} {δ : DS} : sExpr fa δ = qX (fa δ) δ := by
  unfold sExpr qX
  cases fa δ <;> rfl
theorem v_expr_s {d : D} {δ : DS} : qX (some d) δ = some (.nx δ) := rfl
theorem v_chain3 {g g' g'' : D → D → Option D} {fa fb fc fd : FE} {δ : DS} : dChain3 g g' g'' fa fb fc fd δ = qAnd (qO g (fa δ) (fb δ)) (dChain g' g'' fb fc fd) δ := by
  unfold dChain3 qAnd dChain qO
  cases fa δ with
  | none => rfl
  | some x =>
    cases fb δ with
    | none => rfl
    | some y =>
      dsimp only [Option.bind_some]
      cases g x y with
      | none => rfl
      | some z =>
        cases z <;> try rfl
        next b => cases b <;> rfl
def qZ (a b : Option D) : Option (List D) := match a, b with
  | some (.list l), some (.list m) => some (zipD l m)
  | _, _ => none
theorem v_zip {f g : FE} {δ : DS} : fZip f g δ = qZ (f δ) (g δ) := by
  unfold fZip qZ
  cases f δ with
  | none => rfl
  | some x =>
    cases g δ with
    | none => cases x <;> rfl
    | some y => cases x <;> cases y <;> rfl
theorem v_zip_s {l m : List D} : qZ (some (.list l)) (some (.list m)) = some (zipD l m) := rfl
theorem v_n1 {fa : FE} {δ : DS} : dN1 fa δ = qFl (fun d => decide (nl d ≤ 1)) (fa δ) := by
  unfold dN1 qFl
  cases fa δ <;> rfl
theorem f_non : flat .none = true := rfl
theorem f_bl {b : Bool} : flat (.bool b) = true := rfl
theorem f_int {i : Int} : flat (.int i) = true := rfl
theorem f_str {x : Str} : flat (.str x) = true := rfl
theorem f_lst {l : List D} : flat (.list l) = false := rfl
theorem f_tup {l : List D} : flat (.tuple l) = flats l := rfl
theorem f_nil : flats [] = true := rfl
theorem f_cons {d : D} {l : List D} : flats (d :: l) = (flat d && flats l) := rfl
theorem f1_non : fl1 .none = true := rfl
theorem f1_bl {b : Bool} : fl1 (.bool b) = true := rfl
theorem f1_int {i : Int} : fl1 (.int i) = true := rfl
theorem f1_str {x : Str} : fl1 (.str x) = true := rfl
theorem f1_lst {l : List D} : fl1 (.list l) = flats l := rfl
theorem f1_tup {l : List D} : fl1 (.tuple l) = flats l := rfl
theorem u_is {c : String} {d : D} : gIs c d = some (.bool (isT c (tyD d))) := rfl
theorem u_isN {d : D} : gIsN d = some (.bool (isNone d)) := rfl
theorem u_notN {d : D} : gNotN d = some (.bool (!isNone d)) := rfl
theorem n_non : isNone .none = true := rfl
theorem n_bl {b : Bool} : isNone (.bool b) = false := rfl
theorem n_int {i : Int} : isNone (.int i) = false := rfl
theorem n_str {x : Str} : isNone (.str x) = false := rfl
theorem n_lst {l : List D} : isNone (.list l) = false := rfl
theorem n_tup {l : List D} : isNone (.tuple l) = false := rfl
theorem n_dic {l : List (D × D)} : isNone (.dict l) = false := rfl
def EVL := And.intro @f_non <| And.intro @f_bl <| And.intro @f_int <| And.intro @f_str <| And.intro @f_lst <| And.intro @f_tup <| And.intro @f_nil <| And.intro @f_cons <| And.intro @f1_non <| And.intro @f1_bl <| And.intro @f1_int <| And.intro @f1_str <| And.intro @f1_lst <| And.intro @f1_tup <| And.intro @u_is <| And.intro @u_isN <| And.intro @u_notN <| And.intro @n_non <| And.intro @n_bl <| And.intro @n_int <| And.intro @n_str <| And.intro @n_lst <| And.intro @n_tup <| And.intro @n_dic <| And.intro @List.length_cons.{0} <| And.intro @List.length_nil.{0} <| And.intro @List.map_cons.{0, 0} <| And.intro @List.map_nil.{0, 0} <| And.intro @List.replicate_succ.{0} <| And.intro @List.replicate_zero.{0} <| And.intro @List.cons_append.{0} <| And.intro @List.nil_append.{0} <| And.intro @List.append_nil.{0} <| And.intro @List.set_cons_zero.{0} <| And.intro @List.set_cons_succ.{0} <| And.intro @Nat.zero_add <| And.intro @if_true.{1} <| And.intro @decide_true <| And.intro @decide_false <| And.intro @Int.cast_ofNat_Int <| And.intro @Bool.not_true <| And.intro @Bool.not_false <| @Bool.and_self
def EV := And.intro EVL <| And.intro @v_n1 <| And.intro @v_zip <| And.intro @v_zip_s <| And.intro @v_expr <| And.intro @v_expr_s <| And.intro @v_chain3 <| And.intro @v_seq (And.intro @v_seq_nx (And.intro @v_seq_rt (And.intro @v_seq_bk (And.intro @v_seq_ct (And.intro @v_nil (And.intro @v_bk (And.intro @v_ct (And.intro @v_if (And.intro @v_if_t (And.intro @v_if_f (And.intro @v_op (And.intro @v_op_s (And.intro @v_un (And.intro @v_un_s (And.intro @v_lnil (And.intro @v_lcons (And.intro @v_lcons_s (And.intro @v_call (And.intro @v_call_s (And.intro @v_ret (And.intro @v_ret_s (And.intro @v_retN (And.intro @v_set (And.intro @v_set_s (And.intro @v_c (And.intro @v_and (And.intro @v_and_t (And.intro @v_and_f (And.intro @v_or (And.intro @v_or_t (And.intro @v_or_f (And.intro @v_not (And.intro @v_not_s (And.intro @v_tb (And.intro @v_tb_s (And.intro @v_tand (And.intro @v_tand_t (And.intro @v_tand_f (And.intro @v_tor (And.intro @v_tor_t (And.intro @v_tor_f (And.intro @v_tnot (And.intro @v_tnot_s (And.intro @v_ite (And.intro @v_ite_t (And.intro @v_ite_f (And.intro @v_lst (And.intro @v_lst_s (And.intro @v_for (And.intro @v_for_s (And.intro @v_for_nil (And.intro @v_asg (And.intro @v_asg_s (And.intro @v_asg_d (And.intro @v_gn (And.intro @v_gt (And.intro @v_gsn (And.intro @v_gsc (And.intro @v_gsc_s (And.intro @v_tup (And.intro @v_tup_s (And.intro @v_dl (And.intro @v_dl_s (And.intro @v_flat (And.intro @v_fl1 (And.intro @v_fl_s (And.intro @v_app (And.intro @v_app_s (And.intro @v_put (And.intro @v_put_s (And.intro @v_chain (And.intro @v_chain_t (And.intro @v_chain_f (And.intro @v_fn (And.intro @v_fn_rt (And.intro @v_fn_nx (And.intro @v_comp (And.intro @v_comp_s (And.intro @v_yes (And.intro @v_var0 (And.intro @v_varS (And.intro @n_add (And.intro @n_sub (And.intro @n_lt (And.intro @n_le (And.intro @n_gt (And.intro @n_ge (And.intro @n_eqI (And.intro @n_neI (And.intro @n_len (And.intro @n_lenT (And.intro @n_abs (And.intro @n_max (And.intro @n_min (And.intro @n_neg (And.intro @n_ix (And.intro @n_ixT (And.intro @n_cat (And.intro @n_list (And.intro @n_listT (And.intro @n_at0 (And.intro @v_par (And.intro @v_par_s (And.intro @v_rng1 (And.intro @v_rng2 (And.intro @v_sl (And.intro @v_sl_s (And.intro @v_oN (And.intro @v_oP (And.intro @v_oP_s (And.intro @v_enum @v_enum_s)))))))))))))))))))))))))))))))))))))))))))))))))))))))))))))))))))))))))))))))))))))))))))))))))))))))))))))))
end D3
namespace My
def cellF (ns : List Int) (i : Int) : Int :=
  if i < (ns.length : Int) then ns.getD i.toNat 0 % 1000000007
  else if ns = [] then 7919 * i + 5000011
  else ns.getD (i * 7 % (ns.length : Int)).toNat 0 % 1000000007 + 7919 * i
def divs (n : Int) : Nat → Int
  | 0 => n
  | k + 1 => divs n k / 1000003
def drawF (c i k m : Int) : Int :=
  (((c + 65537 * i + 3) * (1299709 + 15485863 * k) % 2147483629 * ((c + 65537 * i + 3) * (1299709 + 15485863 * k) % 2147483629) % 1500450271 + 104729) *
    ((c + 65537 * i + 3) * (1299709 + 15485863 * k) % 2147483629 * ((c + 65537 * i + 3) * (1299709 + 15485863 * k) % 2147483629) % 1500450271 + 104729)) % 715827883 / 64 % m
def partF (ns : List Int) (i k m : Int) : Int :=
  if i < (ns.length : Int) ∧ 10 ^ 40 ≤ ns.getD i.toNat 0 ∧ 0 < divs (ns.getD i.toNat 0) k.toNat then divs (ns.getD i.toNat 0) k.toNat % 1000003 % m
  else drawF (cellF ns i) i k m
theorem partF_range (ns : List Int) (i k : Int) {m : Int} (h : 0 < m) : 0 ≤ partF ns i k m ∧ partF ns i k m < m := by
  unfold partF drawF
  split
  · exact ⟨Int.emod_nonneg _ (by omega), Int.emod_lt_of_pos _ h⟩
  · exact ⟨Int.emod_nonneg _ (by omega), Int.emod_lt_of_pos _ h⟩
theorem partF_hit {ns : List Int} {i k m : Int} (h1 : i < (ns.length : Int)) (h2 : 10 ^ 40 ≤ ns.getD i.toNat 0) (h3 : 0 < divs (ns.getD i.toNat 0) k.toNat) :
    partF ns i k m = divs (ns.getD i.toNat 0) k.toNat % 1000003 % m := by
  unfold partF
  rw [if_pos ⟨h1, h2, h3⟩]
theorem partF_miss {ns : List Int} {i k m : Int} (h : ¬ (i < (ns.length : Int) ∧ 10 ^ 40 ≤ ns.getD i.toNat 0 ∧ 0 < divs (ns.getD i.toNat 0) k.toNat)) :
    partF ns i k m = drawF (cellF ns i) i k m := by
  unfold partF
  rw [if_neg h]
end My
namespace Com
open PySem D3
noncomputable def F__law_cell : List D → Option D := fnD 2 0 (sSeq (sIf (tBool (dOp gLt (dVar 1) (dCall gLen (dCons (dVar 0) (dNil))))) (sRet (dOp gMod (dOp gIx (dVar 0) (dVar 1)) (dC (.int 1000000007)))) (sNil))
    (sSeq (sIf (tBool (dOp gEq (dVar 0) (dLst (dNil)))) (sRet (dOp gAdd (dOp gMul (dC (.int 7919)) (dVar 1)) (dC (.int 5000011)))) (sNil))
    (sRet (dOp gAdd (dOp gMod (dOp gIx (dVar 0) (dOp gMod (dOp gMul (dVar 1) (dC (.int 7))) (dCall gLen (dCons (dVar 0) (dNil))))) (dC (.int 1000000007))) (dOp gMul (dC (.int 7919)) (dVar 1))))))
noncomputable def F__law_part : List D → Option D := fnD 4 2 (sSeq (sIf (D3.tAnd (tBool (dOp gLt (dVar 1) (dCall gLen (dCons (dVar 0) (dNil))))) (tBool (dOp gGe (dOp gIx (dVar 0) (dVar 1)) (dOp gPow (dC (.int 10)) (dC (.int 40)))))) (sSeq (sSetl 4 (dOp gIx (dVar 0) (dVar 1)))
    (sSeq (sFor (fRng1 (dCons (dVar 2) (dNil))) (gNl 5) (sSetl 4 (dOp gDiv (dVar 4) (dC (.int 1000003)))))
    (sIf (tBool (dOp gGt (dVar 4) (dC (.int 0)))) (sRet (dOp gMod (dOp gMod (dVar 4) (dC (.int 1000003))) (dVar 3))) (sNil)))) (sNil))
    (sSeq (sSetl 4 (dOp gMod (dOp gMul (dOp gAdd (dOp gAdd (dCall F__law_cell (dCons (dVar 0) (dCons (dVar 1) (dNil)))) (dOp gMul (dC (.int 65537)) (dVar 1))) (dC (.int 3))) (dOp gAdd (dC (.int 1299709)) (dOp gMul (dC (.int 15485863)) (dVar 2)))) (dC (.int 2147483629))))
    (sSeq (sSetl 4 (dOp gAdd (dOp gMod (dOp gMul (dVar 4) (dVar 4)) (dC (.int 1500450271))) (dC (.int 104729))))
    (sRet (dOp gMod (dOp gDiv (dOp gMod (dOp gMul (dVar 4) (dVar 4)) (dC (.int 715827883))) (dC (.int 64))) (dVar 3))))))
noncomputable def F__law_divisor : List D → Option D := fnD 2 0 (sSeq (sWhile (tBool (dOp gGt (dVar 1) (dC (.int 0)))) (sPar 0 1 (dCons (dVar 1) (dCons (dOp gMod (dVar 0) (dVar 1)) (dNil)))))
    (sRet (dFlat (dVar 0))))
noncomputable def F__law_low : List D → Option D := fnD 2 1 (sSeq (sSetl 2 (dCall F__law_divisor (dCons (dVar 0) (dCons (dVar 1) (dNil)))))
    (sRet (dTup (dCons (dOp gDiv (dVar 0) (dVar 2)) (dCons (dOp gDiv (dVar 1) (dVar 2)) (dNil))))))
noncomputable def F__law_next : List D → Option D := fnD 2 7 (sSeq (sAsg (dVar 1) (gTn 2 (gsCons (gNl 2) (gsCons (gNl 3) (gsNil)))))
    (sSeq (sSetl 4 (dLst (dNil)))
    (sSeq (sFor (fRng1 (dCons (dOp gAdd (dCall gLen (dCons (dVar 0) (dNil))) (dVar 2)) (dNil))) (gNl 5) (sSeq (sSetl 6 (dC (.int 0)))
    (sSeq (sSetl 7 (dC (.int 1)))
    (sSeq (sIf (tBool (dOp gLt (dVar 5) (dCall gLen (dCons (dVar 0) (dNil))))) (sSeq (sSetl 6 (dOp gMul (dOp gIx (dOp gIx (dVar 0) (dVar 5)) (dC (.int 0))) (dOp gSub (dOp gIx (dVar 3) (dC (.int 1))) (dOp gIx (dVar 3) (dC (.int 0))))))
    (sSetl 7 (dOp gIx (dOp gIx (dVar 0) (dVar 5)) (dC (.int 1))))) (sNil))
    (sSeq (sIf (tBool (dOp gGe (dVar 5) (dVar 2))) (sSeq (sSetl 8 (dOp gIx (dVar 0) (dOp gSub (dVar 5) (dVar 2))))
    (sSeq (sSetl 6 (dOp gAdd (dOp gMul (dVar 6) (dOp gIx (dVar 8) (dC (.int 1)))) (dOp gMul (dOp gMul (dOp gIx (dVar 8) (dC (.int 0))) (dOp gIx (dVar 3) (dC (.int 0)))) (dVar 7))))
    (sSetl 7 (dOp gMul (dVar 7) (dOp gIx (dVar 8) (dC (.int 1))))))) (sNil))
    (sApp 4 (dCall F__law_low (dCons (dVar 6) (dCons (dOp gMul (dVar 7) (dOp gIx (dVar 3) (dC (.int 1)))) (dNil))))))))))
    (sRet (dFl1 (dVar 4))))))
noncomputable def F__law_rooms : List D → Option D := fnD 3 1 (sSeq (sSetl 3 (dOp gIx (dLst (dCons (dLst (dCons (dC (.int 1)) (dCons (dC (.int 2)) (dCons (dC (.int 3)) (dCons (dC (.int 4)) (dNil)))))) (dCons (dLst (dCons (dC (.int 1)) (dCons (dC (.int 1)) (dCons (dC (.int 2)) (dCons (dC (.int 2)) (dNil)))))) (dCons (dLst (dCons (dC (.int 2)) (dCons (dC (.int 3)) (dCons (dC (.int 3)) (dCons (dC (.int 4)) (dNil)))))) (dCons (dLst (dCons (dC (.int 1)) (dCons (dC (.int 2)) (dCons (dC (.int 2)) (dCons (dC (.int 3)) (dNil)))))) (dNil)))))) (dCall F__law_part (dCons (dVar 0) (dCons (dVar 1) (dCons (dC (.int 1)) (dCons (dC (.int 4)) (dNil))))))))
    (sRet (dComp (fRng1 (dCons (dCall F__law_part (dCons (dVar 0) (dCons (dVar 1) (dCons (dC (.int 0)) (dCons (dOp gAdd (dVar 2) (dC (.int 1))) (dNil)))))) (dNil))) (gNl 0) (tYes) (dFlat (dOp gIx (dVar 1) (dCall F__law_part (dCons (dVar 2) (dCons (dOp gAdd (dVar 3) (dC (.int 1))) (dCons (dVar 0) (dCons (dC (.int 4)) (dNil)))))))) 1 [3, 0, 1])))
noncomputable def F_free_from : List D → Option D := fnD 3 0 (sRet (dComp (fEnum (dVar 0)) (gTn 2 (gsCons (gNl 0) (gsCons (gNl 1) (gsNil)))) (D3.tAnd (tBool (dOp gGe (dVar 1) (dVar 2))) (tBool (dOp gKNotin (dVar 0) (dVar 3)))) (dFlat (dVar 0)) 2 [2, 1]))
noncomputable def F_least_wished : List D → Option D := fnD 3 0 (sRet (dMinD (dCons (dComp (fKeys (dVar 1)) (gNl 0) (tBool (dOp gGe (dOp gIx (dVar 3) (dVar 0)) (dVar 2))) (dOp gKGet (dVar 1) (dVar 0)) 1 [1, 2, 0]) (dNil)) (dVar 2)))
noncomputable def F_falls_of : List D → Option D := fnD 3 2 (sSeq (sSetl 3 (dLst (dCons (dVar 2) (dNil))))
    (sSeq (sWhile (tBool (dOp gEq (dCall F_free_from (dCons (dVar 0) (dCons (dVar 1) (dCons (dOp gIx (dVar 3) (dUn gNeg (dC (.int 1)))) (dNil))))) (dLst (dNil)))) (sSeq (sSetl 4 (dCall F_least_wished (dCons (dVar 0) (dCons (dVar 1) (dCons (dOp gIx (dVar 3) (dUn gNeg (dC (.int 1)))) (dNil))))))
    (sSeq (sIf (tBool (dOp gGe (dVar 4) (dOp gIx (dVar 3) (dUn gNeg (dC (.int 1)))))) (sRet (dC (.none))) (sNil))
    (sApp 3 (dVar 4)))))
    (sRet (dFl1 (dVar 3)))))
noncomputable def F_guest_to_move : List D → Option D := fnD 4 0 (sRet (dFlat (dOp gIx (dComp (fLst (dCall gKSort (dCons (dVar 1) (dNil)))) (gNl 0) (D3.tAnd (tBool (dOp gGe (dOp gIx (dVar 3) (dVar 0)) (dVar 1))) (tBool (dOp gEq (dOp gKGet (dVar 4) (dVar 0)) (dVar 2)))) (dFlat (dVar 0)) 1 [2, 3, 0, 1]) (dC (.int 0)))))
noncomputable def F_moves_by : List D → Option D := fnD 3 5 (sSeq (sSetl 3 (dOp gIx (dCall F_free_from (dCons (dVar 0) (dCons (dVar 1) (dCons (dOp gIx (dVar 2) (dUn gNeg (dC (.int 1)))) (dNil))))) (dC (.int 0))))
    (sSeq (sSetl 4 (dLst (dNil)))
    (sSeq (sFor (fRev (dOp gLzip (dVar 2) (dSl (dVar 2) (oPart (dC (.int 1))) oNone))) (gTn 2 (gsCons (gNl 5) (gsCons (gNl 6) (gsNil)))) (sSeq (sSetl 7 (dCall F_guest_to_move (dCons (dVar 0) (dCons (dVar 1) (dCons (dVar 5) (dCons (dVar 6) (dNil)))))))
    (sSeq (sApp 4 (dTup (dCons (dVar 7) (dCons (dVar 3) (dNil)))))
    (sSetl 3 (dVar 7)))))
    (sRet (dTup (dCons (dFl1 (dVar 4)) (dCons (dFlat (dVar 3)) (dNil))))))))
noncomputable def F_is_level : List D → Option D := fnD 3 0 (sRet (dCall gAll (dCons (dComp (fEnum (dVar 0)) (gTn 2 (gsCons (gNl 0) (gsCons (gNl 1) (gsNil)))) (tBool (dOp gGe (dVar 1) (dVar 2))) (dOp gGe (dKGet2 (dVar 3) (dVar 0) (dC (.int 0))) (dVar 2)) 2 [2, 1]) (dNil))))
noncomputable def F_admitted : List D → Option D := fnD 3 2 (sSeq (sSetl 3 (dFl1 (dCall F_falls_of (dCons (dVar 0) (dCons (dVar 1) (dCons (dVar 2) (dNil)))))))
    (sSeq (sIf (tBool (dUn gIsN (dVar 3))) (sRet (dTup (dCons (dC (.str "full")) (dCons (dCall gMaxL (dCons (dComp (fRng2 (dCons (dC (.int 1)) (dCons (dOp gAdd (dVar 2) (dC (.int 1))) (dNil)))) (gNl 0) (tBool (dCall F_is_level (dCons (dVar 1) (dCons (dVar 2) (dCons (dVar 0) (dNil)))))) (dFlat (dVar 0)) 1 [0, 1]) (dNil))) (dNil))))) (sNil))
    (sSeq (sSetl 4 (dN1 (dCall F_moves_by (dCons (dVar 0) (dCons (dVar 1) (dCons (dVar 3) (dNil)))))))
    (sRet (dTup (dCons (dC (.str "in")) (dCons (dOp gIx (dVar 4) (dC (.int 0))) (dCons (dOp gIx (dVar 4) (dC (.int 1))) (dCons (dFl1 (dVar 3)) (dNil))))))))))
noncomputable def F__law_small_guests : List D → Option D := fnD 3 2 (sSeq (sSetl 3 (dC (.dict [])))
    (sSeq (sFor (fRng1 (dCons (dCall gLen (dCons (dVar 2) (dNil))) (dNil))) (gNl 4) (sIf (tBool (dOp gLt (dCall F__law_part (dCons (dVar 0) (dCons (dVar 1) (dCons (dVar 4) (dCons (dC (.int 8)) (dNil)))))) (dC (.int 7)))) (sKPut 3 (dVar 4) (dOp gAdd (dC (.int 1)) (dCall F__law_part (dCons (dVar 0) (dCons (dOp gAdd (dVar 1) (dC (.int 1))) (dCons (dVar 4) (dCons (dOp gIx (dVar 2) (dVar 4)) (dNil)))))))) (sNil)))
    (sRet (dVar 3))))
noncomputable def F__law_seats : List D → Option D := fnD 2 0 (sRet (dUn gTupL (dComp (fRng1 (dCons (dCall gLen (dCons (dVar 0) (dNil))) (dNil))) (gNl 0) (tYes) (dKGet2 (dVar 1) (dVar 0) (dC (.int 0))) 1 [1])))
noncomputable def F__law_open : List D → Option D := fnD 3 0 (sRet (dOp gNe (dComp (fRng1 (dCons (dCall gLen (dCons (dVar 0) (dNil))) (dNil))) (gNl 0) (D3.tAnd (tBool (dOp gEq (dOp gIx (dVar 2) (dVar 0)) (dC (.int 0)))) (tBool (dOp gGe (dOp gIx (dVar 3) (dVar 0)) (dVar 1)))) (dFlat (dVar 0)) 1 [2, 1, 0]) (dLst (dNil))))
end Com
namespace Com
open PySem D3 My
theorem pAt_ints {ns : List Int} {i : Int} (h0 : 0 ≤ i) (h1 : i < ns.length) : pAt (ns.map PyData.int) i = some (.int (ns.getD i.toNat 0)) := by
  unfold pAt pIx
  rw [List.length_map, if_pos h0, if_pos h1, Option.bind_some, List.getElem?_map]
  have h : i.toNat < ns.length := by omega
  rw [List.getElem?_eq_getElem h]
  simp [List.getD, h]
theorem pAt_nat {l : List D} {k : Nat} : pAt l (k : Int) = l[k]? := by
  unfold pAt pIx
  rw [if_pos (by omega)]
  by_cases h : k < l.length
  · rw [if_pos (by omega), Option.bind_some]
    simp
  · rw [if_neg (by omega), List.getElem?_eq_none (by omega)]
    rfl
theorem at0 {a : D} {l : List D} : pAt (a :: l) 0 = some a := pAt_nat (k := 0)
theorem at1 {a b : D} {l : List D} : pAt (a :: b :: l) 1 = some b := pAt_nat (k := 1)
theorem modP {i j : Int} (h : 0 < j) : gMod (.int i) (.int j) = some (.int (i % j)) := by
  show (if decide (j ≠ 0) = true then some (PyData.int (i.fmod j)) else none) = _
  rw [if_pos (decide_eq_true (by omega)), Int.fmod_eq_emod_of_nonneg i (by omega)]
theorem small_lt {j : Int} (h : j.natAbs < 2 ^ 64) : j.natAbs < 2 ^ 9000 := Nat.lt_of_lt_of_le h (Nat.pow_le_pow_right (by decide) (by decide))
theorem divB {i j : Int} (h : 0 < j) (h2 : j.natAbs < 2 ^ 9000) : gDiv (.int i) (.int j) = some (.int (i / j)) := by
  show (if divG i j = true then some (PyData.int (i.fdiv j)) else none) = _
  have e : divG i j = true := by
    unfold divG
    rw [Bool.and_eq_true]
    exact ⟨decide_eq_true (by omega), decide_eq_true h2⟩
  rw [if_pos e, Int.fdiv_eq_ediv_of_nonneg i (by omega)]
theorem divP {i j : Int} (h : 0 < j) (h2 : j < 18446744073709551616) : gDiv (.int i) (.int j) = some (.int (i / j)) := divB h (small_lt (by omega))
theorem mulL {i j : Int} (h1 : -18446744073709551616 < i) (h2 : i < 18446744073709551616) : gMul (.int i) (.int j) = some (.int (i * j)) := by
  show (if mulG i j = true then some (PyData.int (i * j)) else none) = _
  have e : mulG i j = true := by
    unfold mulG
    rw [decide_eq_true (show i.natAbs < 2 ^ 64 by omega)]
    rfl
  rw [if_pos e]
theorem mulR {i j : Int} (h1 : -18446744073709551616 < j) (h2 : j < 18446744073709551616) : gMul (.int i) (.int j) = some (.int (i * j)) := by
  show (if mulG i j = true then some (PyData.int (i * j)) else none) = _
  have e : mulG i j = true := by
    unfold mulG
    rw [decide_eq_true (show j.natAbs < 2 ^ 64 by omega), Bool.or_true]
    rfl
  rw [if_pos e]
theorem pow40 : gPow (.int 10) (.int 40) = some (.int (10 ^ 40)) := rfl
theorem sz {n : Nat} (h : n ≤ 1000000) : n ≤ sizeLine := Nat.le_trans h (by decide)
theorem shaped_ints (ns : List Int) : SeqAt.shaped (.list (ns.map PyData.int)) = true := by
  have h1 : ∀ ns : List Int, PyData.canLayAll0 (ns.map PyData.int) = true := fun ns => by
    induction ns with
    | nil => rfl
    | cons a r ih => simp [PyData.canLayAll0, PyData.canLay0, ih]
  have h2 : ∀ ns : List Int, PyData.depthAll (ns.map PyData.int) ≤ 1 := fun ns => by
    induction ns with
    | nil => simp [PyData.depthAll]
    | cons a r ih => simp [PyData.depthAll, PyData.depth]; omega
  unfold SeqAt.shaped
  rw [Bool.and_eq_true]
  refine ⟨by simp [PyData.canLay0, h1], decide_eq_true ?_⟩
  have := h2 ns
  simp only [PyData.depth]
  omega
theorem eq_empty (ns : List Int) : gEq (.list (ns.map PyData.int)) (.list []) = some (.bool (decide (ns = []))) := by
  unfold gEq
  rw [shaped_ints ns]
  cases ns with
  | nil => rfl
  | cons a r => rfl
theorem cell_spec {ns : List Int} {i : Int} (h0 : 0 ≤ i) : F__law_cell [.list (ns.map .int), .int i] = some (.int (cellF ns i)) := by
  unfold F__law_cell cellF
  by_cases h : i < (ns.length : Int)
  · rw [if_pos h]
    simp only [EV, reduceIte, Nat.reduceAdd, Nat.reduceLT, Nat.reduceLeDiff, Nat.reduceEqDiff, Int.reduceEq, Int.reduceLT, Int.reduceLE, List.length_map, decide_eq_true h, pAt_ints h0 h, modP (show (0 : Int) < 1000000007 by decide)]
  · rw [if_neg h]
    by_cases hn : ns = []
    · rw [if_pos hn]
      simp only [EV, reduceIte, Nat.reduceAdd, Nat.reduceLT, Nat.reduceLeDiff, Nat.reduceEqDiff, Int.reduceEq, Int.reduceLT, Int.reduceLE, List.length_map, decide_eq_false h, eq_empty, decide_eq_true hn, Nat.zero_le, mulL (show (-18446744073709551616 : Int) < 7919 by decide) (show (7919 : Int) < 18446744073709551616 by decide)]
    · rw [if_neg hn]
      have hl : 0 < ns.length := by
        cases ns with
        | nil => exact absurd rfl hn
        | cons _ _ => simp
      have h7 : 0 ≤ i * 7 % (ns.length : Int) := Int.emod_nonneg _ (by omega)
      have h8 : i * 7 % (ns.length : Int) < (ns.length : Int) := Int.emod_lt_of_pos _ (by omega)
      simp only [EV, reduceIte, Nat.reduceAdd, Nat.reduceLT, Nat.reduceLeDiff, Nat.reduceEqDiff, Int.reduceEq, Int.reduceLT, Int.reduceLE, List.length_map, decide_eq_false h, eq_empty, decide_eq_false hn, Nat.zero_le, mulL (show (-18446744073709551616 : Int) < 7919 by decide) (show (7919 : Int) < 18446744073709551616 by decide), mulR (show (-18446744073709551616 : Int) < 7 by decide) (show (7 : Int) < 18446744073709551616 by decide), modP (show (0 : Int) < 1000000007 by decide), modP (show (0 : Int) < ns.length by omega), pAt_ints h7 h8]
theorem divs_loop {l : D} {i k m : D} (n : Int) : ∀ (js : List D) (c : Nat) (y : Option U), (∀ j ∈ js, ∃ x, j = .int x) → ∃ y', forD (gNl 5) (sSetl 4 (dOp gDiv (dVar 4) (dC (.int 1000003)))) js [some (.d l), some (.d i), some (.d k), some (.d m), some (.d (.int (divs n c))), y] =
    some (.nx [some (.d l), some (.d i), some (.d k), some (.d m), some (.d (.int (divs n (c + js.length)))), y'])
  | [], c, y, _ => ⟨y, rfl⟩
  | j :: js, c, y, h => by
    obtain ⟨y', e⟩ := divs_loop (l := l) (i := i) (k := k) (m := m) n js (c + 1) (some (.d j)) fun j' hj => h j' (List.mem_cons_of_mem _ hj)
    refine ⟨y', ?_⟩
    rw [forD]
    simp only [EV, reduceIte, Nat.reduceAdd, Nat.reduceLT, Nat.reduceLeDiff, Nat.reduceEqDiff, Int.reduceEq, Int.reduceLT, Int.reduceLE, divP (show (0 : Int) < 1000003 by decide) (show (1000003 : Int) < 18446744073709551616 by decide), Option.bind_some]
    rw [show c + (js.length + 1) = c + 1 + js.length by omega, ← e]
    rfl
theorem rngD_ints (lo hi : Int) : ∀ j ∈ rngD lo hi, ∃ x, j = .int x := by
  intro j hj
  unfold rngD at hj
  obtain ⟨k, _, rfl⟩ := List.mem_map.mp hj
  exact ⟨_, rfl⟩
theorem part_spec {ns : List Int} {i k m : Int} (h0 : 0 ≤ i) (hk0 : 0 ≤ k) (hk : k ≤ 1000) (hm : 0 < m) : F__law_part [.list (ns.map .int), .int i, .int k, .int m] = some (.int (partF ns i k m)) := by
  have rest : ∀ x y : Option U, qFn ((sSeq (sSetl 4 (dOp gMod (dOp gMul (dOp gAdd (dOp gAdd (dCall F__law_cell (dCons (dVar 0) (dCons (dVar 1) (dNil)))) (dOp gMul (dC (.int 65537)) (dVar 1))) (dC (.int 3))) (dOp gAdd (dC (.int 1299709)) (dOp gMul (dC (.int 15485863)) (dVar 2)))) (dC (.int 2147483629))))
    (sSeq (sSetl 4 (dOp gAdd (dOp gMod (dOp gMul (dVar 4) (dVar 4)) (dC (.int 1500450271))) (dC (.int 104729))))
    (sRet (dOp gMod (dOp gDiv (dOp gMod (dOp gMul (dVar 4) (dVar 4)) (dC (.int 715827883))) (dC (.int 64))) (dVar 3))))) [some (.d (.list (ns.map .int))), some (.d (.int i)), some (.d (.int k)), some (.d (.int m)), x, y]) = some (.int (drawF (cellF ns i) i k m)) := by
    intro x y
    have b1 : 0 ≤ (cellF ns i + 65537 * i + 3) * (1299709 + 15485863 * k) % 2147483629 := Int.emod_nonneg _ (by decide)
    have b2 : (cellF ns i + 65537 * i + 3) * (1299709 + 15485863 * k) % 2147483629 < 2147483629 := Int.emod_lt_of_pos _ (by decide)
    have b3 : 0 ≤ (cellF ns i + 65537 * i + 3) * (1299709 + 15485863 * k) % 2147483629 * ((cellF ns i + 65537 * i + 3) * (1299709 + 15485863 * k) % 2147483629) % 1500450271 := Int.emod_nonneg _ (by decide)
    have b4 : (cellF ns i + 65537 * i + 3) * (1299709 + 15485863 * k) % 2147483629 * ((cellF ns i + 65537 * i + 3) * (1299709 + 15485863 * k) % 2147483629) % 1500450271 < 1500450271 := Int.emod_lt_of_pos _ (by decide)
    simp only [EV, reduceIte, Nat.reduceAdd, Nat.reduceLT, Nat.reduceLeDiff, Nat.reduceEqDiff, Int.reduceEq, Int.reduceLT, Int.reduceLE, cell_spec h0, mulL (show (-18446744073709551616 : Int) < 65537 by decide) (show (65537 : Int) < 18446744073709551616 by decide), mulL (show (-18446744073709551616 : Int) < 15485863 by decide) (show (15485863 : Int) < 18446744073709551616 by decide),
      mulR (i := cellF ns i + 65537 * i + 3) (show (-18446744073709551616 : Int) < 1299709 + 15485863 * k by omega) (show 1299709 + 15485863 * k < (18446744073709551616 : Int) by omega), modP (show (0 : Int) < 2147483629 by decide)]
    simp only [mulL (show (-18446744073709551616 : Int) < (cellF ns i + 65537 * i + 3) * (1299709 + 15485863 * k) % 2147483629 by omega) (show (cellF ns i + 65537 * i + 3) * (1299709 + 15485863 * k) % 2147483629 < (18446744073709551616 : Int) by omega)]
    simp only [EV, reduceIte, Nat.reduceAdd, Nat.reduceLT, Nat.reduceLeDiff, Nat.reduceEqDiff, Int.reduceEq, Int.reduceLT, Int.reduceLE, modP (show (0 : Int) < 1500450271 by decide)]
    rw [mulL (by omega) (by omega)]
    simp only [EV, reduceIte, Nat.reduceAdd, Nat.reduceLT, Nat.reduceLeDiff, Nat.reduceEqDiff, Int.reduceEq, Int.reduceLT, Int.reduceLE, modP (show (0 : Int) < 715827883 by decide), divP (show (0 : Int) < 64 by decide) (show (64 : Int) < 18446744073709551616 by decide), modP hm]
    rfl
  unfold F__law_part
  rw [v_fn]
  simp only [EV, reduceIte, Nat.reduceAdd, Nat.reduceLT, Nat.reduceLeDiff, Nat.reduceEqDiff, Int.reduceEq, Int.reduceLT, Int.reduceLE]
  by_cases h : i < (ns.length : Int)
  · by_cases h2 : 10 ^ 40 ≤ ns.getD i.toNat 0
    · simp only [EV, reduceIte, Nat.reduceAdd, Nat.reduceLT, Nat.reduceLeDiff, Nat.reduceEqDiff, Int.reduceEq, Int.reduceLT, Int.reduceLE, List.length_map, decide_eq_true h, pAt_ints h0 h, pow40, decide_eq_true h2]
      obtain ⟨y', e⟩ := divs_loop (l := .list (ns.map .int)) (i := .int i) (k := .int k) (m := .int m) (ns.getD i.toNat 0) (rngD 0 k) 0 none (rngD_ints 0 k)
      have el : 0 + (rngD 0 k).length = k.toNat := by simp [rngD]
      rw [el] at e
      have e' : forD (gNl 5) (sSetl 4 (dOp gDiv (dVar 4) (dC (.int 1000003)))) (rngD 0 k) [some (.d (.list (ns.map .int))), some (.d (.int i)), some (.d (.int k)), some (.d (.int m)), some (.d (.int (ns.getD i.toNat 0))), none] =
        some (.nx [some (.d (.list (ns.map .int))), some (.d (.int i)), some (.d (.int k)), some (.d (.int m)), some (.d (.int (divs (ns.getD i.toNat 0) k.toNat))), y']) := e
      rw [rng1 (by omega) (by omega)]
      simp only [EV, reduceIte, Nat.reduceAdd, Nat.reduceLT, Nat.reduceLeDiff, Nat.reduceEqDiff, Int.reduceEq, Int.reduceLT, Int.reduceLE, e']
      by_cases h3 : 0 < divs (ns.getD i.toNat 0) k.toNat
      · simp only [EV, reduceIte, Nat.reduceAdd, Nat.reduceLT, Nat.reduceLeDiff, Nat.reduceEqDiff, Int.reduceEq, Int.reduceLT, Int.reduceLE, decide_eq_true h3, modP (show (0 : Int) < 1000003 by decide), modP hm]
        rw [partF_hit h h2 h3]
      · simp only [EV, reduceIte, Nat.reduceAdd, Nat.reduceLT, Nat.reduceLeDiff, Nat.reduceEqDiff, Int.reduceEq, Int.reduceLT, Int.reduceLE, decide_eq_false h3]
        rw [partF_miss (fun z => h3 z.2.2)]
        have := rest (some (.d (.int (divs (ns.getD i.toNat 0) k.toNat)))) y'
        simp only [EV, reduceIte, Nat.reduceAdd, Nat.reduceLT, Nat.reduceLeDiff, Nat.reduceEqDiff, Int.reduceEq, Int.reduceLT, Int.reduceLE] at this
        exact this
    · simp only [EV, reduceIte, Nat.reduceAdd, Nat.reduceLT, Nat.reduceLeDiff, Nat.reduceEqDiff, Int.reduceEq, Int.reduceLT, Int.reduceLE, List.length_map, decide_eq_true h, pAt_ints h0 h, pow40, decide_eq_false h2]
      rw [partF_miss (fun z => h2 z.2.1)]
      have := rest none none
      simp only [EV, reduceIte, Nat.reduceAdd, Nat.reduceLT, Nat.reduceLeDiff, Nat.reduceEqDiff, Int.reduceEq, Int.reduceLT, Int.reduceLE] at this
      exact this
  · simp only [EV, reduceIte, Nat.reduceAdd, Nat.reduceLT, Nat.reduceLeDiff, Nat.reduceEqDiff, Int.reduceEq, Int.reduceLT, Int.reduceLE, List.length_map, decide_eq_false h]
    rw [partF_miss (fun z => h z.1)]
    have := rest none none
    simp only [EV, reduceIte, Nat.reduceAdd, Nat.reduceLT, Nat.reduceLeDiff, Nat.reduceEqDiff, Int.reduceEq, Int.reduceLT, Int.reduceLE] at this
    exact this
end Com
namespace Com
open PySem D3 My
theorem cEx {α : Type} {g : FG} {c : FT} {e : FE} {δ : DS} (f : α → D) (P : α → Prop) : ∀ l : List D, (∀ d ∈ l, ∃ δ1 x, g d δ = some δ1 ∧ c δ1 = some true ∧ P x ∧ e δ1 = some (f x)) → ∃ xs : List α, xs.length = l.length ∧ (∀ x ∈ xs, P x) ∧ compD g c e δ l = some (xs.map f)
  | [], _ => ⟨[], rfl, (fun _ h => by cases h), rfl⟩
  | d :: r, hs => by
    obtain ⟨δ1, x, e1, e2, hp, e3⟩ := hs d List.mem_cons_self
    obtain ⟨xs, l1, h1, e4⟩ := cEx f P r fun x hx => hs x (List.mem_cons_of_mem _ hx)
    refine ⟨x :: xs, by simp [l1], fun y hy => ?_, ?_⟩
    · rcases List.mem_cons.mp hy with rfl | z
      · exact hp
      · exact h1 y z
    · rw [compD, e1, Option.bind_some, e2, Option.bind_some, if_pos rfl, e3, Option.bind_some, e4]
      rfl
theorem cFil {α : Type} {g : FG} {c : FT} {e : FE} {δ : DS} (f : α → D) (p : α → Bool) (h : α → D) : ∀ l : List α, (∀ s ∈ l, ∃ δ1, g (f s) δ = some δ1 ∧ c δ1 = some (p s) ∧ (p s = true → e δ1 = some (h s))) → compD g c e δ (l.map f) = some ((l.filter p).map h)
  | [], _ => rfl
  | s :: r, hs => by
    obtain ⟨δ1, e1, e2, e3⟩ := hs s List.mem_cons_self
    have ih := cFil f p h r fun x hx => hs x (List.mem_cons_of_mem _ hx)
    rw [List.map_cons, compD, e1, Option.bind_some, e2, Option.bind_some]
    by_cases c : p s = true
    · rw [if_pos c, e3 c, Option.bind_some, ih, List.filter_cons, if_pos c]
      rfl
    · rw [if_neg c, ih, List.filter_cons, if_neg c]
theorem cMap {α : Type} {g : FG} {c : FT} {e : FE} {δ : DS} (f : α → D) (h : α → D) : ∀ l : List α, (∀ s ∈ l, ∃ δ1, g (f s) δ = some δ1 ∧ c δ1 = some true ∧ e δ1 = some (h s)) → compD g c e δ (l.map f) = some (l.map h)
  | [], _ => rfl
  | s :: r, hs => by
    obtain ⟨δ1, e1, e2, e3⟩ := hs s List.mem_cons_self
    rw [List.map_cons, compD, e1, Option.bind_some, e2, Option.bind_some, if_pos rfl, e3, Option.bind_some, cMap f h r fun x hx => hs x (List.mem_cons_of_mem _ hx)]
    rfl
theorem flats_all {α : Type} (f : α → D) (h : ∀ a, flat (f a) = true) : ∀ l : List α, flats (l.map f) = true
  | [] => rfl
  | a :: r => by rw [List.map_cons, flats, h, flats_all f h r]; rfl
theorem flats_ints (l : List Int) : flats (l.map PyData.int) = true := flats_all _ (fun _ => rfl) l
theorem pAt_map {α : Type} (f : α → D) {l : List α} {i : Int} (h0 : 0 ≤ i) (h1 : i < l.length) : ∃ a ∈ l, pAt (l.map f) i = some (f a) := by
  have hk : i.toNat < l.length := by omega
  refine ⟨l[i.toNat], List.getElem_mem hk, ?_⟩
  obtain ⟨k, rfl⟩ : ∃ k : Nat, i = (k : Int) := ⟨i.toNat, by omega⟩
  rw [pAt_nat, List.getElem?_map]
  simp only [Int.toNat_natCast] at hk ⊢
  rw [List.getElem?_eq_getElem hk]
  rfl
theorem rng_len {m : Int} : (rngD 0 m).length = m.toNat := by unfold rngD; rw [List.length_map, List.length_range, Int.sub_zero]
theorem rng_mem {m : Int} {d : D} (h : d ∈ rngD 0 m) : ∃ k : Nat, (k : Int) < m ∧ d = .int (k : Int) := by
  unfold rngD at h
  obtain ⟨k, hk, rfl⟩ := List.mem_map.mp h
  have := List.mem_range.mp hk
  exact ⟨k, by omega, by rw [Int.zero_add]⟩
theorem rng_map (m : Int) : rngD 0 m = (List.range m.toNat).map fun k : Nat => PyData.int (k : Int) := by
  unfold rngD
  rw [Int.sub_zero]
  apply List.map_congr_left
  intro k _
  rw [Int.zero_add]
theorem rng_at {m : Int} {i : Nat} {d : D} (h : (rngD 0 m)[i]? = some d) : (i : Int) < m ∧ d = .int (i : Int) := by
  rw [rng_map, List.getElem?_map] at h
  by_cases hi : i < m.toNat
  · rw [List.getElem?_range hi] at h
    cases h
    exact ⟨by omega, rfl⟩
  · rw [List.getElem?_eq_none (by simpa using hi)] at h
    cases h
theorem cutDr {l : List D} {k : Int} (h : 0 ≤ k) : cutD l (some k) none = l.drop k.toNat := by
  unfold cutD
  have e : pSx l.length 0 (some k) = min k.toNat l.length := by
    show (if k < 0 then _ else _) = _
    rw [if_neg (by omega)]
  rw [e, show pSx l.length l.length none = l.length from rfl]
  by_cases c : k.toNat ≤ l.length
  · rw [show min k.toNat l.length = k.toNat by omega, List.take_of_length_le (by rw [List.length_drop]; omega)]
  · rw [show min k.toNat l.length = l.length by omega, List.drop_of_length_le (by omega), List.drop_of_length_le (by omega)]
    simp
theorem isList : D3.isT "list" "list" = true := rfl
mutual
theorem eqv_refl : ∀ d : D, d.canLay0 = true → PyData.eqv d d = true
  | .none, _ => by simp [PyData.eqv]
  | .bool b, _ => by simp [PyData.eqv]
  | .int i, _ => by simp [PyData.eqv]
  | .str x, _ => by simp [PyData.eqv]
  | .list l, h => by
    have := eqvAll_refl l (by simpa [PyData.canLay0] using h)
    simpa [PyData.eqv] using this
  | .tuple l, h => by
    have := eqvAll_refl l (by simpa [PyData.canLay0] using h)
    simpa [PyData.eqv] using this
  | .dict l, h => by simp [PyData.canLay0] at h
theorem eqvAll_refl : ∀ l : List D, PyData.canLayAll0 l = true → PyData.eqvAll l l = true
  | [], _ => by simp [PyData.eqvAll]
  | d :: r, h => by
    rw [PyData.canLayAll0, Bool.and_eq_true] at h
    rw [PyData.eqvAll, eqv_refl d h.1, eqvAll_refl r h.2]
    rfl
end
def ly (n : Nat) (d : D) : Prop := d.canLay0 = true ∧ d.depth ≤ n
def lys (n : Nat) (l : List D) : Prop := PyData.canLayAll0 l = true ∧ PyData.depthAll l ≤ n
theorem ly_le {n m : Nat} {d : D} (h : ly n d) (l : n ≤ m) : ly m d := ⟨h.1, Nat.le_trans h.2 l⟩
theorem lys_nil {n : Nat} : lys n [] := ⟨by simp [PyData.canLayAll0], by simp [PyData.depthAll]⟩
theorem lys_cons {n : Nat} {d : D} {l : List D} (h : ly n d) (q : lys n l) : lys n (d :: l) :=
  ⟨by rw [PyData.canLayAll0, h.1, q.1]; rfl, by have := h.2; have := q.2; simp only [PyData.depthAll]; omega⟩
theorem lys_map {α : Type} {n : Nat} (f : α → D) (h : ∀ a, ly n (f a)) : ∀ l : List α, lys n (l.map f)
  | [] => lys_nil
  | a :: r => lys_cons (h a) (lys_map f h r)
theorem ly_list {n : Nat} {l : List D} (h : lys n l) : ly (n + 1) (.list l) := ⟨by simp [PyData.canLay0, h.1], by have := h.2; simp only [PyData.depth]; omega⟩
theorem ly_tup {n : Nat} {l : List D} (h : lys n l) : ly (n + 1) (.tuple l) := ⟨by simp [PyData.canLay0, h.1], by have := h.2; simp only [PyData.depth]; omega⟩
theorem ly_int {n : Nat} {i : Int} : ly (n + 1) (.int i) := ⟨rfl, by simp [PyData.depth]⟩
theorem ly_shaped {d : D} (h : ly 60 d) : SeqAt.shaped d = true := by
  unfold SeqAt.shaped
  rw [Bool.and_eq_true]
  exact ⟨h.1, decide_eq_true (by have := h.2; omega)⟩
theorem ne_self {d : D} (h : ly 60 d) : gNe d d = some (.bool false) := by
  unfold gNe
  rw [ly_shaped h, eqv_refl d h.1]
  rfl
theorem ne_nil {l : List D} (h : ly 60 (.list l)) : gNe (.list l) (.list []) = some (.bool (!l.isEmpty)) := by
  unfold gNe
  rw [ly_shaped h, show SeqAt.shaped (.list []) = true from rfl]
  cases l <;> simp [PyData.eqv, PyData.eqvAll]
end Com
namespace Com
open PySem D3 My
theorem n_kget {qs : List (Int × Int)} {i : Int} : gKGet (dcD qs) (.int i) = (keyI qs i).map .int := by
  unfold gKGet
  rw [asDic_dc]
  rfl
theorem n_knotin {qs : List (Int × Int)} {i : Int} : gKNotin (.int i) (dcD qs) = some (.bool (!(keyI qs i).isSome)) := by
  unfold gKNotin
  rw [asDic_dc]
  rfl
theorem n_ksort {qs : List (Int × Int)} (h : qs.length < 64) : gKSort [dcD qs] = some (.list ((srtI (qs.map (·.1))).map .int)) := by
  unfold gKSort
  dsimp only
  rw [asDic_dc, Option.bind_some, if_pos h]
def qKG (x k z : Option D) : Option D := match x, k, z with
  | some x, some (.int i), some (.int j) => (asDic x).map fun qs => .int ((keyI qs i).getD j)
  | _, _, _ => none
theorem v_kget2 {fx fk fz : FE} {δ : DS} : dKGet2 fx fk fz δ = qKG (fx δ) (fk δ) (fz δ) := by
  unfold dKGet2 qKG
  cases fx δ with
  | none => rfl
  | some x =>
    rw [Option.bind_some]
    cases fk δ with
    | none => rfl
    | some k =>
      rw [Option.bind_some]
      cases fz δ with
      | none => cases k <;> rfl
      | some z =>
        rw [Option.bind_some]
        cases k <;> cases z <;> first | (cases asDic x <;> rfl; done) | (dsimp only; cases asDic x <;> rfl)
theorem v_kget2_s {qs : List (Int × Int)} {i j : Int} : qKG (some (dcD qs)) (some (.int i)) (some (.int j)) = some (.int ((keyI qs i).getD j)) := by
  unfold qKG
  dsimp only
  rw [asDic_dc]
  rfl
def qKP (n : Nat) (v x k : Option D) (δ : DS) : Option Oc := match v, x, k with
  | some (.int v), some x, some (.int j) => (asDic x).bind fun qs => if qs.length < 1000000 then some (.nx (δ.set n (some (.d (dcD (putI qs j v)))))) else none
  | _, _, _ => none
theorem v_kput {n : Nat} {fk f : FE} {δ : DS} : sKPut n fk f δ = qKP n (f δ) (dVar n δ) (fk δ) δ := by
  unfold sKPut qKP
  cases f δ with
  | none => rfl
  | some v =>
    rw [Option.bind_some]
    cases dVar n δ with
    | none => cases v <;> rfl
    | some x =>
      rw [Option.bind_some]
      cases fk δ with
      | none => cases v <;> rfl
      | some k => cases v <;> cases k <;> rfl
theorem v_kput_s {n : Nat} {v j : Int} {qs : List (Int × Int)} {δ : DS} : qKP n (some (.int v)) (some (dcD qs)) (some (.int j)) δ = if qs.length < 1000000 then some (.nx (δ.set n (some (.d (dcD (putI qs j v)))))) else none := by
  unfold qKP
  dsimp only
  rw [asDic_dc, Option.bind_some]
theorem key_cons {q : Int × Int} {qs : List (Int × Int)} {i : Int} : keyI (q :: qs) i = if q.1 = i then some q.2 else keyI qs i := by
  unfold keyI
  rw [List.find?_cons]
  by_cases h : q.1 = i
  · simp [h]
  · simp [h]
theorem key_mem {i j : Int} : ∀ {qs : List (Int × Int)}, keyI qs i = some j → (i, j) ∈ qs
  | [], h => by cases h
  | q :: qs, h => by
    rw [key_cons] at h
    by_cases c : q.1 = i
    · rw [if_pos c] at h
      cases h
      rw [← c]
      exact List.mem_cons_self
    · rw [if_neg c] at h
      exact List.mem_cons_of_mem _ (key_mem h)
theorem key_of {i j : Int} : ∀ {qs : List (Int × Int)}, (qs.map (·.1)).Nodup → (i, j) ∈ qs → keyI qs i = some j
  | [], _, h => by cases h
  | q :: qs, nd, h => by
    rw [List.map_cons, List.nodup_cons] at nd
    rw [key_cons]
    rcases List.mem_cons.mp h with z | z
    · rw [← z, if_pos rfl]
    · rw [if_neg (fun e => nd.1 (List.mem_map.mpr ⟨_, z, e.symm⟩))]
      exact key_of nd.2 z
theorem put_keys {qs : List (Int × Int)} {i j : Int} : (putI qs i j).map (·.1) = if i ∈ qs.map (·.1) then qs.map (·.1) else qs.map (·.1) ++ [i] := by
  unfold putI
  have h : (qs.any fun q => decide (q.1 = i)) = true ↔ i ∈ qs.map (·.1) := by
    rw [List.any_eq_true, List.mem_map]
    constructor
    · rintro ⟨q, hq, e⟩; exact ⟨q, hq, of_decide_eq_true e⟩
    · rintro ⟨q, hq, e⟩; exact ⟨q, hq, decide_eq_true e⟩
  by_cases c : i ∈ qs.map (·.1)
  · rw [if_pos (h.mpr c), if_pos c, List.map_map]
    apply List.map_congr_left
    intro q _
    by_cases z : q.1 = i <;> simp [z]
  · rw [if_neg (fun z => c (h.mp z)), if_neg c, List.map_append]
    rfl
theorem put_mem {qs : List (Int × Int)} {i j : Int} {q : Int × Int} (h : q ∈ putI qs i j) : q = (i, j) ∨ (q ∈ qs ∧ q.1 ≠ i) := by
  unfold putI at h
  split at h
  · obtain ⟨r, hr, e⟩ := List.mem_map.mp h
    by_cases z : r.1 = i
    · rw [if_pos z] at e
      rw [← e, z]
      exact .inl rfl
    · rw [if_neg z] at e
      rw [← e]
      exact .inr ⟨hr, z⟩
  · next c =>
    rcases List.mem_append.mp h with z | z
    · refine .inr ⟨z, fun e => c ?_⟩
      rw [List.any_eq_true]
      exact ⟨q, z, decide_eq_true e⟩
    · exact .inl (List.mem_singleton.mp z)
theorem put_nd {qs : List (Int × Int)} {i j : Int} (h : (qs.map (·.1)).Nodup) : ((putI qs i j).map (·.1)).Nodup := by
  rw [put_keys]
  split
  · exact h
  · next c =>
    exact List.nodup_append.mpr ⟨h, List.nodup_cons.mpr ⟨List.not_mem_nil, List.nodup_nil⟩, fun x hx y hy => by
      rw [List.mem_singleton.mp hy]
      exact fun z => c (z ▸ hx)⟩
structure Gst (rs : List Int) (qs : List (Int × Int)) : Prop where
  nd : (qs.map (·.1)).Nodup
  rg : ∀ q ∈ qs, 0 ≤ q.1 ∧ q.1 < rs.length ∧ 1 ≤ q.2 ∧ q.2 ≤ rs.getD q.1.toNat 0
theorem Gst.len {rs : List Int} {qs : List (Int × Int)} (h : Gst rs qs) : qs.length ≤ rs.length := by
  have h1 : (qs.map (·.1)).Nodup := h.nd
  have h2 : (qs.map fun q => q.1.toNat).Nodup := by
    have : (qs.map fun q => q.1.toNat) = (qs.map (·.1)).map Int.toNat := by rw [List.map_map]; rfl
    rw [this]
    refine List.Pairwise.map _ (fun a b hab => hab) (List.Pairwise.imp_of_mem (S := fun a b => a.toNat ≠ b.toNat) ?_ h1)
    intro a b ha hb hab e
    obtain ⟨q, hq, rfl⟩ := List.mem_map.mp ha
    obtain ⟨r, hr, rfl⟩ := List.mem_map.mp hb
    have := h.rg q hq
    have := h.rg r hr
    omega
  have : (qs.map fun q => q.1.toNat) ⊆ List.range rs.length := fun x hx => by
    obtain ⟨q, hq, rfl⟩ := List.mem_map.mp hx
    have := h.rg q hq
    exact List.mem_range.mpr (by omega)
  have := List.Nodup.length_le_of_subset h2 this
  simpa using this
theorem Gst.nil (rs : List Int) : Gst rs [] := ⟨List.nodup_nil, fun _ h => by cases h⟩
theorem Gst.put {rs : List Int} {qs : List (Int × Int)} {i : Nat} {j : Int} (h : Gst rs qs) (hi : i < rs.length) (h1 : 1 ≤ j) (h2 : j ≤ rs.getD i 0) : Gst rs (putI qs (i : Int) j) := by
  refine ⟨put_nd h.nd, fun q hq => ?_⟩
  rcases put_mem hq with rfl | ⟨z, _⟩
  · exact ⟨by omega, by simp only; omega, h1, by simpa using h2⟩
  · exact h.rg q z
theorem enum_i (fs : List Int) : enumD (fs.map .int) = (List.range fs.length).map fun k : Nat => PyData.tuple [.int (k : Int), .int (fs.getD k 0)] := by
  unfold enumD
  apply List.ext_getElem?
  intro i
  rw [List.getElem?_mapIdx, List.getElem?_map, List.getElem?_map]
  by_cases h : i < fs.length
  · have e : fs.getD i 0 = fs[i] := by rw [List.getD_eq_getElem?_getD, List.getElem?_eq_getElem h]; rfl
    rw [List.getElem?_range h, List.getElem?_eq_getElem h, Option.map_some, Option.map_some, Option.map_some, e]
  · rw [List.getElem?_eq_none (by simpa using h), List.getElem?_eq_none (by simpa using h)]
    rfl
def frR (rs : List Int) (qs : List (Int × Int)) (k : Int) : List Nat := (List.range rs.length).filter fun r => decide (k ≤ rs.getD r 0) && !(keyI qs (r : Int)).isSome
theorem free_spec {rs : List Int} {qs : List (Int × Int)} {k : Int} (hl : rs.length ≤ 1000) : F_free_from [.list (rs.map .int), dcD qs, .int k] = some (.list ((frR rs qs k).map fun r : Nat => PyData.int (r : Int))) := by
  have e : compD (gTn 2 (gsCons (gNl 0) (gsCons (gNl 1) (gsNil)))) (D3.tAnd (tBool (dOp gGe (dVar 1) (dVar 2))) (tBool (dOp gKNotin (dVar 0) (dVar 3)))) (dFlat (dVar 0)) (capD 2 [2, 1] [some (.d (.list (rs.map .int))), some (.d (dcD qs)), some (.d (.int k))]) (enumD (rs.map .int)) = some ((frR rs qs k).map fun r : Nat => PyData.int (r : Int)) := by
    rw [enum_i]
    refine cFil (fun r : Nat => PyData.tuple [.int (r : Int), .int (rs.getD r 0)]) _ (fun r : Nat => PyData.int (r : Int)) (List.range rs.length) fun r hr => ?_
    refine ⟨[some (.d (.int (r : Int))), some (.d (.int (rs.getD r 0))), some (.d (.int k)), some (.d (dcD qs))], rfl, ?_, fun _ => ?_⟩
    · by_cases c : k ≤ rs.getD r 0
      · simp only [EV, reduceIte, Nat.reduceAdd, Nat.reduceLT, Nat.reduceLeDiff, Nat.reduceEqDiff, Int.reduceEq, Int.reduceLT, Int.reduceLE, decide_eq_true c, n_knotin]
        rfl
      · simp only [EV, reduceIte, Nat.reduceAdd, Nat.reduceLT, Nat.reduceLeDiff, Nat.reduceEqDiff, Int.reduceEq, Int.reduceLT, Int.reduceLE, decide_eq_false c]
        rfl
    · simp only [EV, reduceIte, Nat.reduceAdd, Nat.reduceLT, Nat.reduceLeDiff, Nat.reduceEqDiff, Int.reduceEq, Int.reduceLT, Int.reduceLE]
  have el : (enumD (rs.map .int)).length ≤ 100000 := by rw [enum_i, List.length_map, List.length_range]; omega
  unfold F_free_from
  simp only [v_fn, v_ret, v_comp, v_enum, List.length_cons, List.length_nil, Nat.reduceAdd, reduceIte, List.map_cons, List.map_nil, List.replicate, List.append_nil, List.cons_append, List.nil_append, v_var0, v_varS, v_enum_s, v_comp_s, el, e, v_ret_s, v_fn_rt]
theorem rooms_spec {ns : List Int} {a m : Int} (ha : 0 ≤ a) (hm : 0 ≤ m) (hm' : m ≤ 100) : ∃ rs : List Int, F__law_rooms [.list (ns.map .int), .int a, .int m] = some (.list (rs.map .int)) ∧ (rs.length : Int) ≤ m ∧ ∀ r ∈ rs, 1 ≤ r ∧ r ≤ 4 := by
  have p1 := partF_range ns a 1 (m := 4) (by decide)
  have p0 := partF_range ns a 0 (m := m + 1) (by omega)
  obtain ⟨ks, hk, hr, hl⟩ : ∃ ks : List Int, pAt ([[1, 2, 3, 4], [1, 1, 2, 2], [2, 3, 3, 4], [1, 2, 2, 3]].map fun l : List Int => PyData.list (l.map .int)) (partF ns a 1 4) = some (.list (ks.map .int)) ∧ (∀ r ∈ ks, 1 ≤ r ∧ r ≤ 4) ∧ ks.length = 4 := by
    obtain ⟨ks, hm, e⟩ := pAt_map (fun l : List Int => PyData.list (l.map .int)) (l := [[1, 2, 3, 4], [1, 1, 2, 2], [2, 3, 3, 4], [1, 2, 2, 3]]) p1.1 (by simpa using p1.2)
    refine ⟨ks, e, ?_⟩
    simp only [List.mem_cons, List.not_mem_nil, or_false] at hm
    rcases hm with rfl | rfl | rfl | rfl <;> exact ⟨by simp, rfl⟩
  obtain ⟨rs, h1, h2, h3⟩ := cEx (g := (gNl 0)) (c := (D3.tYes)) (e := (dFlat (dOp gIx (dVar 1) (dCall F__law_part (dCons (dVar 2) (dCons (dOp gAdd (dVar 3) (dC (.int 1))) (dCons (dVar 0) (dCons (dC (.int 4)) (dNil))))))))) (δ := capD 1 [3, 0, 1] [some (.d (.list (ns.map .int))), some (.d (.int a)), some (.d (.int m)), some (.d (.list (ks.map .int)))]) PyData.int (fun r => 1 ≤ r ∧ r ≤ 4) (rngD 0 (partF ns a 0 (m + 1))) (by
    intro d hd
    obtain ⟨k, hk', rfl⟩ := rng_mem hd
    have p := partF_range ns (a + 1) (k : Int) (m := 4) (by decide)
    have ep : pAt (ks.map PyData.int) (partF ns (a + 1) (k : Int) 4) = some (.int (ks.getD (partF ns (a + 1) (k : Int) 4).toNat 0)) := pAt_ints p.1 (by rw [hl]; exact p.2)
    have hx : ks.getD (partF ns (a + 1) (k : Int) 4).toNat 0 ∈ ks := by
      have hlt : (partF ns (a + 1) (k : Int) 4).toNat < ks.length := by rw [hl]; omega
      rw [List.getD_eq_getElem?_getD, List.getElem?_eq_getElem hlt]
      exact List.getElem_mem hlt
    refine ⟨[some (.d (.int (k : Int))), some (.d (.list (ks.map .int))), some (.d (.list (ns.map .int))), some (.d (.int a))], _, rfl, rfl, hr _ hx, ?_⟩
    simp only [EV, reduceIte, Nat.reduceAdd, Nat.reduceLT, Nat.reduceLeDiff, Nat.reduceEqDiff, Int.reduceEq, Int.reduceLT, Int.reduceLE, part_spec (ns := ns) (i := a + 1) (k := (k : Int)) (m := 4) (by omega) (by omega) (by omega) (by decide), ep])
  refine ⟨rs, ?_, ?_, h2⟩
  · unfold F__law_rooms
    have el : (rngD 0 (partF ns a 0 (m + 1))).length ≤ 100000 := by rw [rng_len]; omega
    have es : pAt [PyData.list [.int 1, .int 2, .int 3, .int 4], .list [.int 1, .int 1, .int 2, .int 2], .list [.int 2, .int 3, .int 3, .int 4], .list [.int 1, .int 2, .int 2, .int 3]] (partF ns a 1 4) = some (.list (ks.map .int)) := hk
    simp only [EV, reduceIte, Nat.reduceAdd, Nat.reduceLT, Nat.reduceLeDiff, Nat.reduceEqDiff, Int.reduceEq, Int.reduceLT, Int.reduceLE, part_spec (ns := ns) (i := a) (k := 1) (m := 4) ha (by decide) (by decide) (by decide), part_spec (ns := ns) (i := a) (k := 0) (m := m + 1) ha (by decide) (by decide) (by omega), es, sz (show 0 + 1 + 1 + 1 + 1 ≤ 1000000 by decide), sz (show 4 ≤ 1000000 by decide), rng1 (show -(2 ^ 62) ≤ partF ns a 0 (m + 1) by omega) (show partF ns a 0 (m + 1) < 2 ^ 62 by omega), el, h3]
  · rw [h1, rng_len]
    omega
end Com
namespace Com
open PySem D3 My
theorem getD_mem {rs : List Int} {r : Nat} (h : r < rs.length) : rs.getD r 0 ∈ rs := by
  rw [List.getD_eq_getElem?_getD, List.getElem?_eq_getElem h]
  exact List.getElem_mem h
theorem flat_len {α β : Type} (f : α → List β) (n : Nat) (h : ∀ a, (f a).length ≤ n) : ∀ l : List α, (l.flatMap f).length ≤ l.length * n
  | [] => by simp
  | a :: r => by
    rw [List.flatMap_cons, List.length_append, List.length_cons, Nat.succ_mul]
    have := flat_len f n h r
    have := h a
    omega
end Com
namespace Com
open PySem D3 My
theorem all_bs {α : Type} (f : α → Bool) (l : List α) : gAll [.list (l.map fun a => PyData.bool (f a))] = some (.bool (l.all f)) := by
  have : boolsD (l.map fun a => PyData.bool (f a)) = some (l.map f) := by
    induction l with
    | nil => rfl
    | cons a r ih => rw [List.map_cons, boolsD, ih]; rfl
  show (boolsD (l.map fun a => PyData.bool (f a))).map _ = _
  rw [this, Option.map_some, List.all_map]
  rfl
theorem last1 {l : List D} {d : D} : pAt (l ++ [d]) (-1) = some d := by
  unfold pAt pIx
  rw [List.length_append, List.length_singleton, if_neg (by decide), if_pos (by omega)]
  show (l ++ [d])[(-1 + ((l.length + 1 : Nat) : Int)).toNat]? = some d
  rw [show (-1 + ((l.length + 1 : Nat) : Int)).toNat = l.length by omega, List.getElem?_append_right (Nat.le_refl _), Nat.sub_self]
  rfl
theorem at_room {rs : List Int} {i : Int} (h0 : 0 ≤ i) (h1 : i < rs.length) : pAt (rs.map PyData.int) i = some (.int (rs.getD i.toNat 0)) := pAt_ints h0 h1
def qMD (l : Option (List D)) (z : Option D) : Option D := match l, z with
  | some [.list m], some z => match intsD m with
    | some (i :: r) => some (.int (mnI i r))
    | some [] => if flat z = true then some z else none
    | none => none
  | _, _ => none
theorem v_minD {fa : FA} {fz : FE} {δ : DS} : dMinD fa fz δ = qMD (fa δ) (fz δ) := by
  unfold dMinD qMD
  cases fa δ with
  | none => rfl
  | some l =>
    rw [Option.bind_some]
    cases fz δ with
    | none =>
      match l with
      | [] => rfl
      | [.list m] => rfl
      | [.none] => rfl
      | [.bool _] => rfl
      | [.int _] => rfl
      | [.str _] => rfl
      | [.tuple _] => rfl
      | [.dict _] => rfl
      | a :: b :: r => cases a <;> rfl
    | some z =>
      rw [Option.bind_some]
      match l with
      | [] => rfl
      | [.list m] =>
        dsimp only
        cases e : intsD m with
        | none => rfl
        | some ns =>
          cases ns with
          | nil => rfl
          | cons i r =>
            dsimp only
            unfold gMinL
            dsimp only
            rw [e]
      | [.none] => rfl
      | [.bool _] => rfl
      | [.int _] => rfl
      | [.str _] => rfl
      | [.tuple _] => rfl
      | [.dict _] => rfl
      | a :: b :: r => cases a <;> rfl
def wsR (rs : List Int) (qs : List (Int × Int)) (k : Int) : List Int := (qs.filter fun q => decide (k ≤ rs.getD q.1.toNat 0)).map (·.2)
def lwR (rs : List Int) (qs : List (Int × Int)) (k : Int) : Int := match wsR rs qs k with
  | [] => k
  | i :: r => mnI i r
def qKy (x : Option D) : Option (List D) := match x with
  | some x => (asDic x).map fun qs => qs.map fun q => .int q.1
  | none => none
theorem v_keys {f : FE} {δ : DS} : fKeys f δ = qKy (f δ) := by
  unfold fKeys qKy
  cases f δ <;> rfl
theorem v_keys_s {qs : List (Int × Int)} : qKy (some (dcD qs)) = some (qs.map fun q => .int q.1) := by
  unfold qKy
  dsimp only
  rw [asDic_dc]
  rfl
theorem least_spec {rs : List Int} {qs : List (Int × Int)} {k : Int} (G : Gst rs qs) (hl : rs.length ≤ 1000) : F_least_wished [.list (rs.map .int), dcD qs, .int k] = some (.int (lwR rs qs k)) := by
  have e : compD (gNl 0) (tBool (dOp gGe (dOp gIx (dVar 3) (dVar 0)) (dVar 2))) (dOp gKGet (dVar 1) (dVar 0)) (capD 1 [1, 2, 0] [some (.d (.list (rs.map .int))), some (.d (dcD qs)), some (.d (.int k))]) (qs.map fun q => PyData.int q.1) = some ((wsR rs qs k).map PyData.int) := by
    rw [cFil (fun q : Int × Int => PyData.int q.1) (fun q => decide (k ≤ rs.getD q.1.toNat 0)) (fun q => PyData.int q.2) qs fun q hq => ?_]
    · unfold wsR
      rw [List.map_map]
      rfl
    · obtain ⟨g0, g1, g2, g3⟩ := G.rg q hq
      have er := at_room (rs := rs) g0 g1
      have ek : keyI qs q.1 = some q.2 := key_of G.nd hq
      refine ⟨[some (.d (.int q.1)), some (.d (dcD qs)), some (.d (.int k)), some (.d (.list (rs.map .int)))], rfl, ?_, fun _ => ?_⟩
      · simp only [EV, reduceIte, Nat.reduceAdd, Nat.reduceLT, Nat.reduceLeDiff, Nat.reduceEqDiff, Int.reduceEq, Int.reduceLT, Int.reduceLE, er]
      · simp only [EV, reduceIte, Nat.reduceAdd, Nat.reduceLT, Nat.reduceLeDiff, Nat.reduceEqDiff, Int.reduceEq, Int.reduceLT, Int.reduceLE, n_kget, ek, Option.map_some]
  have el : (qs.map fun q => PyData.int q.1).length ≤ 100000 := by rw [List.length_map]; have := G.len; omega
  unfold F_least_wished
  simp only [EV, reduceIte, Nat.reduceAdd, Nat.reduceLT, Nat.reduceLeDiff, Nat.reduceEqDiff, Int.reduceEq, Int.reduceLT, Int.reduceLE, v_minD, v_keys, v_keys_s, el, e]
  unfold lwR qMD
  dsimp only
  rw [intsD_map]
  cases wsR rs qs k with
  | nil => rfl
  | cons i r => rfl
theorem ws_mem {rs : List Int} {qs : List (Int × Int)} {k j : Int} : j ∈ wsR rs qs k ↔ ∃ i, (i, j) ∈ qs ∧ k ≤ rs.getD i.toNat 0 := by
  unfold wsR
  rw [List.mem_map]
  constructor
  · rintro ⟨q, hq, rfl⟩
    obtain ⟨h1, h2⟩ := List.mem_filter.mp hq
    exact ⟨q.1, h1, of_decide_eq_true h2⟩
  · rintro ⟨i, h1, h2⟩
    exact ⟨(i, j), List.mem_filter.mpr ⟨h1, decide_eq_true h2⟩, rfl⟩
theorem lw_lt {rs : List Int} {qs : List (Int × Int)} {k : Int} (h : lwR rs qs k < k) : lwR rs qs k ∈ wsR rs qs k := by
  unfold lwR at h ⊢
  cases e : wsR rs qs k with
  | nil => rw [e] at h; simp at h
  | cons i r => exact (mnI_spec r i).1
theorem lw_le {rs : List Int} {qs : List (Int × Int)} {k j : Int} (h : j ∈ wsR rs qs k) : lwR rs qs k ≤ j := by
  unfold lwR
  cases e : wsR rs qs k with
  | nil => rw [e] at h; cases h
  | cons i r => rw [e] at h; exact (mnI_spec r i).2 j h
theorem lw_pos {rs : List Int} {qs : List (Int × Int)} {k : Int} (G : Gst rs qs) (h : lwR rs qs k < k) : 1 ≤ lwR rs qs k := by
  obtain ⟨i, h1, _⟩ := ws_mem.mp (lw_lt h)
  exact (G.rg _ h1).2.2.1
inductive Ch (rs : List Int) (qs : List (Int × Int)) : Int → List Int → Prop
  | stop {f : Int} : frR rs qs f ≠ [] → Ch rs qs f []
  | step {f : Int} {r : List Int} : frR rs qs f = [] → lwR rs qs f < f → Ch rs qs (lwR rs qs f) r → Ch rs qs f (lwR rs qs f :: r)
inductive Dead (rs : List Int) (qs : List (Int × Int)) : Int → Prop
  | here {f : Int} : frR rs qs f = [] → f ≤ lwR rs qs f → Dead rs qs f
  | step {f : Int} : frR rs qs f = [] → lwR rs qs f < f → Dead rs qs (lwR rs qs f) → Dead rs qs f
theorem ch_or {rs : List Int} {qs : List (Int × Int)} (G : Gst rs qs) : ∀ (n : Nat) (f : Int), f.toNat ≤ n → 1 ≤ f → (∃ r, Ch rs qs f r) ∨ Dead rs qs f
  | 0, f, h, h1 => by omega
  | n + 1, f, h, h1 => by
    by_cases c : frR rs qs f = []
    · by_cases c2 : lwR rs qs f < f
      · have := lw_pos G c2
        rcases ch_or G n (lwR rs qs f) (by omega) this with ⟨r, hr⟩ | hd
        · exact .inl ⟨_, .step c c2 hr⟩
        · exact .inr (.step c c2 hd)
      · exact .inr (.here c (by omega))
    · exact .inl ⟨[], .stop c⟩
theorem fr_mem {rs : List Int} {qs : List (Int × Int)} {k : Int} {r : Nat} : r ∈ frR rs qs k ↔ r < rs.length ∧ k ≤ rs.getD r 0 ∧ keyI qs (r : Int) = none := by
  unfold frR
  rw [List.mem_filter, List.mem_range, Bool.and_eq_true, decide_eq_true_eq]
  cases keyI qs (r : Int) <;> simp
theorem eq_rooms (l : List Nat) : gEq (.list (l.map fun r : Nat => PyData.int (r : Int))) (.list []) = some (.bool (decide (l = []))) := by
  have := eq_empty (l.map fun r : Nat => (r : Int))
  rw [List.map_map] at this
  rw [show (l.map fun r : Nat => PyData.int (r : Int)) = l.map (PyData.int ∘ fun r : Nat => (r : Int)) from rfl, this]
  cases l <;> simp
theorem wl_ch {rs : List Int} {qs : List (Int × Int)} {k0 : D} {f : Int} {r : List Int} (G : Gst rs qs) (hl : rs.length ≤ 1000) (h : Ch rs qs f r) : ∀ (pre : List Int) (y : Option U), (pre.length : Int) + f ≤ 1000 → 1 ≤ f →
    ∃ n y', whileD (tBool (dOp gEq (dCall F_free_from (dCons (dVar 0) (dCons (dVar 1) (dCons (dOp gIx (dVar 3) (dUn gNeg (dC (.int 1)))) (dNil))))) (dLst (dNil)))) (sSeq (sSetl 4 (dCall F_least_wished (dCons (dVar 0) (dCons (dVar 1) (dCons (dOp gIx (dVar 3) (dUn gNeg (dC (.int 1)))) (dNil)))))) (sSeq (sIf (tBool (dOp gGe (dVar 4) (dOp gIx (dVar 3) (dUn gNeg (dC (.int 1)))))) (sRet (dC (.none))) (sNil)) (sApp 3 (dVar 4)))) n [some (.d (.list (rs.map .int))), some (.d (dcD qs)), some (.d k0), some (.d (.list ((pre ++ [f]).map .int))), y] = some (.nx [some (.d (.list (rs.map .int))), some (.d (dcD qs)), some (.d k0), some (.d (.list ((pre ++ f :: r).map .int))), y']) := by
  induction h with
  | stop c =>
    rename_i f
    intro pre y hp hf
    have el : pAt (pre.map PyData.int ++ [.int f]) (-1) = some (.int f) := last1
    refine ⟨1, y, ?_⟩
    rw [whileD, List.map_append, List.map_cons, List.map_nil]
    simp only [EV, reduceIte, Nat.reduceAdd, Nat.reduceLT, Nat.reduceLeDiff, Nat.reduceEqDiff, Int.reduceEq, Int.reduceLT, Int.reduceLE, el, free_spec hl, eq_rooms, decide_eq_false c, sz (show 0 ≤ 1000000 by decide), Option.bind_some, Bool.false_eq_true]
  | step c c2 hr ih =>
    rename_i f r
    intro pre y hp hf
    have el : pAt (pre.map PyData.int ++ [.int f]) (-1) = some (.int f) := last1
    have p1 := lw_pos G c2
    obtain ⟨n, y', e⟩ := ih (pre ++ [f]) (some (.d (.int (lwR rs qs f)))) (by rw [List.length_append]; simp; omega) p1
    refine ⟨n + 1, y', ?_⟩
    have c3 : ¬ f ≤ lwR rs qs f := by omega
    have hlen : (pre.map PyData.int ++ [PyData.int f]).length < 1000000 := by rw [List.length_append, List.length_map]; simp; omega
    rw [whileD, List.map_append, List.map_cons, List.map_nil]
    simp only [EV, reduceIte, Nat.reduceAdd, Nat.reduceLT, Nat.reduceLeDiff, Nat.reduceEqDiff, Int.reduceEq, Int.reduceLT, Int.reduceLE, el, free_spec hl, eq_rooms, decide_eq_true c, least_spec G hl, decide_eq_false c3, hlen, sz (show 0 ≤ 1000000 by decide), Option.bind_some]
    rw [List.map_append, List.map_append, List.map_cons, List.map_cons, List.map_nil] at e
    rw [show pre ++ f :: lwR rs qs f :: r = (pre ++ [f]) ++ lwR rs qs f :: r by simp]
    exact e
theorem wl_dead {rs : List Int} {qs : List (Int × Int)} {k0 : D} {f : Int} (G : Gst rs qs) (hl : rs.length ≤ 1000) (h : Dead rs qs f) : ∀ (pre : List Int) (y : Option U), (pre.length : Int) + f ≤ 1000 → 1 ≤ f →
    ∃ n, whileD (tBool (dOp gEq (dCall F_free_from (dCons (dVar 0) (dCons (dVar 1) (dCons (dOp gIx (dVar 3) (dUn gNeg (dC (.int 1)))) (dNil))))) (dLst (dNil)))) (sSeq (sSetl 4 (dCall F_least_wished (dCons (dVar 0) (dCons (dVar 1) (dCons (dOp gIx (dVar 3) (dUn gNeg (dC (.int 1)))) (dNil)))))) (sSeq (sIf (tBool (dOp gGe (dVar 4) (dOp gIx (dVar 3) (dUn gNeg (dC (.int 1)))))) (sRet (dC (.none))) (sNil)) (sApp 3 (dVar 4)))) n [some (.d (.list (rs.map .int))), some (.d (dcD qs)), some (.d k0), some (.d (.list ((pre ++ [f]).map .int))), y] = some (.rt .none) := by
  induction h with
  | here c c2 =>
    rename_i f
    intro pre y hp hf
    have el : pAt (pre.map PyData.int ++ [.int f]) (-1) = some (.int f) := last1
    refine ⟨1, ?_⟩
    rw [whileD, List.map_append, List.map_cons, List.map_nil]
    simp only [EV, reduceIte, Nat.reduceAdd, Nat.reduceLT, Nat.reduceLeDiff, Nat.reduceEqDiff, Int.reduceEq, Int.reduceLT, Int.reduceLE, el, free_spec hl, eq_rooms, decide_eq_true c, least_spec G hl, decide_eq_true c2, sz (show 0 ≤ 1000000 by decide), Option.bind_some]
  | step c c2 hr ih =>
    rename_i f
    intro pre y hp hf
    have el : pAt (pre.map PyData.int ++ [.int f]) (-1) = some (.int f) := last1
    have p1 := lw_pos G c2
    obtain ⟨n, e⟩ := ih (pre ++ [f]) (some (.d (.int (lwR rs qs f)))) (by rw [List.length_append]; simp; omega) p1
    refine ⟨n + 1, ?_⟩
    have c3 : ¬ f ≤ lwR rs qs f := by omega
    have hlen : (pre.map PyData.int ++ [PyData.int f]).length < 1000000 := by rw [List.length_append, List.length_map]; simp; omega
    rw [whileD, List.map_append, List.map_cons, List.map_nil]
    simp only [EV, reduceIte, Nat.reduceAdd, Nat.reduceLT, Nat.reduceLeDiff, Nat.reduceEqDiff, Int.reduceEq, Int.reduceLT, Int.reduceLE, el, free_spec hl, eq_rooms, decide_eq_true c, least_spec G hl, decide_eq_false c3, hlen, sz (show 0 ≤ 1000000 by decide), Option.bind_some]
    rw [List.map_append, List.map_append, List.map_cons, List.map_cons, List.map_nil] at e
    exact e
theorem falls_ch {rs : List Int} {qs : List (Int × Int)} {f : Int} {r : List Int} (G : Gst rs qs) (hl : rs.length ≤ 1000) (hf : 1 ≤ f) (hf' : f ≤ 900) (h : Ch rs qs f r) : F_falls_of [.list (rs.map .int), dcD qs, .int f] = some (.list ((f :: r).map .int)) := by
  obtain ⟨n, y', e⟩ := wl_ch (k0 := .int f) G hl h [] none (by simp; omega) hf
  have e2 := sWhile_of e
  simp only [List.nil_append, List.map_cons, List.map_nil] at e2
  have fl : flats (PyData.int f :: r.map PyData.int) = true := flats_ints (f :: r)
  unfold F_falls_of
  simp only [EV, reduceIte, Nat.reduceAdd, Nat.reduceLT, Nat.reduceLeDiff, Nat.reduceEqDiff, Int.reduceEq, Int.reduceLT, Int.reduceLE, sz (show 0 + 1 ≤ 1000000 by decide)]
  rw [e2]
  simp only [EV, reduceIte, Nat.reduceAdd, Nat.reduceLT, Nat.reduceLeDiff, Nat.reduceEqDiff, Int.reduceEq, Int.reduceLT, Int.reduceLE, fl]
theorem falls_dead {rs : List Int} {qs : List (Int × Int)} {f : Int} (G : Gst rs qs) (hl : rs.length ≤ 1000) (hf : 1 ≤ f) (hf' : f ≤ 900) (h : Dead rs qs f) : F_falls_of [.list (rs.map .int), dcD qs, .int f] = some .none := by
  obtain ⟨n, e⟩ := wl_dead (k0 := .int f) G hl h [] none (by simp; omega) hf
  have e2 := sWhile_of e
  simp only [List.nil_append, List.map_cons, List.map_nil] at e2
  unfold F_falls_of
  simp only [EV, reduceIte, Nat.reduceAdd, Nat.reduceLT, Nat.reduceLeDiff, Nat.reduceEqDiff, Int.reduceEq, Int.reduceLT, Int.reduceLE, sz (show 0 + 1 ≤ 1000000 by decide)]
  rw [e2]
  simp only [EV, reduceIte, Nat.reduceAdd, Nat.reduceLT, Nat.reduceLeDiff, Nat.reduceEqDiff, Int.reduceEq, Int.reduceLT, Int.reduceLE]
end Com
namespace Com
open PySem D3 My
def lvR (rs : List Int) (qs : List (Int × Int)) (L : Int) : Bool := ((List.range rs.length).filter fun r => decide (L ≤ rs.getD r 0)).all fun r => decide (L ≤ (keyI qs ((r : Nat) : Int)).getD 0)
theorem lv_iff {rs : List Int} {qs : List (Int × Int)} {L : Int} : lvR rs qs L = true ↔ ∀ r : Nat, r < rs.length → L ≤ rs.getD r 0 → L ≤ (keyI qs (r : Int)).getD 0 := by
  unfold lvR
  rw [List.all_eq_true]
  constructor
  · intro h r hr hL
    exact of_decide_eq_true (h r (List.mem_filter.mpr ⟨List.mem_range.mpr hr, decide_eq_true hL⟩))
  · intro h r hr
    obtain ⟨h1, h2⟩ := List.mem_filter.mp hr
    exact decide_eq_true (h r (List.mem_range.mp h1) (of_decide_eq_true h2))
theorem is_level_spec {rs : List Int} {qs : List (Int × Int)} {L : Int} (hl : rs.length ≤ 1000) : F_is_level [.list (rs.map .int), dcD qs, .int L] = some (.bool (lvR rs qs L)) := by
  have e : compD (gTn 2 (gsCons (gNl 0) (gsCons (gNl 1) (gsNil)))) (tBool (dOp gGe (dVar 1) (dVar 2))) (dOp gGe (dKGet2 (dVar 3) (dVar 0) (dC (.int 0))) (dVar 2)) (capD 2 [2, 1] [some (.d (.list (rs.map .int))), some (.d (dcD qs)), some (.d (.int L))]) (enumD (rs.map .int)) = some (((List.range rs.length).filter fun r => decide (L ≤ rs.getD r 0)).map fun r : Nat => PyData.bool (decide (L ≤ (keyI qs ((r : Nat) : Int)).getD 0))) := by
    rw [enum_i]
    refine cFil (fun r : Nat => PyData.tuple [.int (r : Int), .int (rs.getD r 0)]) _ (fun r : Nat => PyData.bool (decide (L ≤ (keyI qs ((r : Nat) : Int)).getD 0))) (List.range rs.length) fun r hr => ?_
    refine ⟨[some (.d (.int (r : Int))), some (.d (.int (rs.getD r 0))), some (.d (.int L)), some (.d (dcD qs))], rfl, ?_, fun _ => ?_⟩
    · simp only [EV, reduceIte, Nat.reduceAdd, Nat.reduceLT, Nat.reduceLeDiff, Nat.reduceEqDiff, Int.reduceEq, Int.reduceLT, Int.reduceLE]
    · simp only [EV, reduceIte, Nat.reduceAdd, Nat.reduceLT, Nat.reduceLeDiff, Nat.reduceEqDiff, Int.reduceEq, Int.reduceLT, Int.reduceLE, v_kget2, v_kget2_s]
  have el : (enumD (rs.map .int)).length ≤ 100000 := by rw [enum_i, List.length_map, List.length_range]; omega
  unfold F_is_level
  simp only [EV, reduceIte, Nat.reduceAdd, Nat.reduceLT, Nat.reduceLeDiff, Nat.reduceEqDiff, Int.reduceEq, Int.reduceLT, Int.reduceLE, el, e, all_bs]
  rfl
theorem dead_level {rs : List Int} {qs : List (Int × Int)} {f : Int} (G : Gst rs qs) (h : Dead rs qs f) : 1 ≤ f → ∃ L, 1 ≤ L ∧ L ≤ f ∧ lvR rs qs L = true := by
  induction h with
  | here c c2 =>
    rename_i f
    intro hf
    refine ⟨f, hf, Int.le_refl _, lv_iff.mpr fun r hr hL => ?_⟩
    cases e : keyI qs (r : Int) with
    | none =>
      have : r ∈ frR rs qs f := fr_mem.mpr ⟨hr, hL, e⟩
      rw [c] at this
      cases this
    | some j =>
      have : j ∈ wsR rs qs f := ws_mem.mpr ⟨(r : Int), key_mem e, by simpa using hL⟩
      have := lw_le this
      simp
      omega
  | step c c2 hr ih =>
    intro hf
    obtain ⟨L, h1, h2, h3⟩ := ih (lw_pos G c2)
    exact ⟨L, h1, by omega, h3⟩
def lvM (rs : List Int) (qs : List (Int × Int)) : Nat → Option Int
  | 0 => none
  | k + 1 => if lvR rs qs ((k : Int) + 1) = true then some ((k : Int) + 1) else lvM rs qs k
theorem lvM_some {rs : List Int} {qs : List (Int × Int)} : ∀ {k : Nat} {L : Int}, lvM rs qs k = some L → 1 ≤ L ∧ L ≤ k ∧ lvR rs qs L = true ∧ ∀ M, L < M → M ≤ k → lvR rs qs M = false
  | 0, L, h => by cases h
  | k + 1, L, h => by
    rw [lvM] at h
    by_cases c : lvR rs qs ((k : Int) + 1) = true
    · rw [if_pos c] at h
      cases h
      exact ⟨by omega, by omega, c, fun M h1 h2 => by omega⟩
    · rw [if_neg c] at h
      obtain ⟨h1, h2, h3, h4⟩ := lvM_some h
      refine ⟨h1, by omega, h3, fun M g1 g2 => ?_⟩
      by_cases e : M = (k : Int) + 1
      · rw [e]; simpa using c
      · exact h4 M g1 (by omega)
theorem lvM_none {rs : List Int} {qs : List (Int × Int)} : ∀ {k : Nat}, lvM rs qs k = none → ∀ M : Int, 1 ≤ M → M ≤ (k : Int) → lvR rs qs M = false
  | 0, _, M, h1, h2 => by omega
  | k + 1, h, M, h1, h2 => by
    rw [lvM] at h
    by_cases c : lvR rs qs ((k : Int) + 1) = true
    · rw [if_pos c] at h; cases h
    · rw [if_neg c] at h
      by_cases e : M = (k : Int) + 1
      · rw [e]; simpa using c
      · exact lvM_none h M h1 (by omega)
theorem rng1_map (k : Nat) : rngD 1 ((k : Int) + 1) = (List.range k).map fun i : Nat => PyData.int ((i : Int) + 1) := by
  unfold rngD
  rw [show ((k : Int) + 1 - 1).toNat = k by omega]
  apply List.map_congr_left
  intro i _
  rw [Int.add_comm]
end Com
namespace Com
open PySem D3 My
def gmL (rs : List Int) (qs : List (Int × Int)) (f w : Int) : List Int := (srtI (qs.map (·.1))).filter fun k => decide (f ≤ rs.getD k.toNat 0) && decide ((keyI qs k).getD 0 = w)
def gmR (rs : List Int) (qs : List (Int × Int)) (f w : Int) : Int := (gmL rs qs f w).headD 0
theorem gm_mem {rs : List Int} {qs : List (Int × Int)} {f w : Int} (G : Gst rs qs) (h : w ∈ wsR rs qs f) : ∃ r, gmL rs qs f w = gmR rs qs f w :: r ∧ (gmR rs qs f w, w) ∈ qs ∧ f ≤ rs.getD (gmR rs qs f w).toNat 0 := by
  obtain ⟨i, h1, h2⟩ := ws_mem.mp h
  have hi : i ∈ gmL rs qs f w := by
    unfold gmL
    refine List.mem_filter.mpr ⟨(srtI_perm _).mem_iff.mpr (List.mem_map.mpr ⟨_, h1, rfl⟩), ?_⟩
    rw [decide_eq_true h2, key_of G.nd h1]
    simp
  cases e : gmL rs qs f w with
  | nil => rw [e] at hi; cases hi
  | cons a r =>
    have ea : gmR rs qs f w = a := by unfold gmR; rw [e]; rfl
    rw [ea]
    have ha : a ∈ gmL rs qs f w := by rw [e]; exact List.mem_cons_self
    obtain ⟨m1, m2⟩ := List.mem_filter.mp ha
    rw [Bool.and_eq_true] at m2
    obtain ⟨q, hq, rfl⟩ := List.mem_map.mp ((srtI_perm _).mem_iff.mp m1)
    have hk := key_of G.nd (show (q.1, q.2) ∈ qs from hq)
    have hw := of_decide_eq_true m2.2
    rw [hk] at hw
    simp at hw
    refine ⟨r, rfl, ?_, of_decide_eq_true m2.1⟩
    rw [← hw]
    exact hq
theorem guest_spec {rs : List Int} {qs : List (Int × Int)} {f w : Int} (G : Gst rs qs) (hl : rs.length ≤ 60) (h : w ∈ wsR rs qs f) : F_guest_to_move [.list (rs.map .int), dcD qs, .int f, .int w] = some (.int (gmR rs qs f w)) := by
  obtain ⟨r, er, _, _⟩ := gm_mem G h
  have hq : qs.length < 64 := by have := G.len; omega
  have e : compD (gNl 0) (D3.tAnd (tBool (dOp gGe (dOp gIx (dVar 3) (dVar 0)) (dVar 1))) (tBool (dOp gEq (dOp gKGet (dVar 4) (dVar 0)) (dVar 2)))) (dFlat (dVar 0)) (capD 1 [2, 3, 0, 1] [some (.d (.list (rs.map .int))), some (.d (dcD qs)), some (.d (.int f)), some (.d (.int w))]) ((srtI (qs.map (·.1))).map PyData.int) = some ((gmL rs qs f w).map PyData.int) := by
    refine cFil PyData.int _ PyData.int (srtI (qs.map (·.1))) fun k hk => ?_
    obtain ⟨q, hq, rfl⟩ := List.mem_map.mp ((srtI_perm _).mem_iff.mp hk)
    obtain ⟨g0, g1, _, _⟩ := G.rg q hq
    have er := at_room (rs := rs) g0 g1
    have ek := key_of G.nd (show (q.1, q.2) ∈ qs from hq)
    refine ⟨[some (.d (.int q.1)), some (.d (.int f)), some (.d (.int w)), some (.d (.list (rs.map .int))), some (.d (dcD qs))], rfl, ?_, fun _ => ?_⟩
    · by_cases c : f ≤ rs.getD q.1.toNat 0
      · simp only [EV, reduceIte, Nat.reduceAdd, Nat.reduceLT, Nat.reduceLeDiff, Nat.reduceEqDiff, Int.reduceEq, Int.reduceLT, Int.reduceLE, er, decide_eq_true c, n_kget, ek, Option.map_some]
        simp
      · simp only [EV, reduceIte, Nat.reduceAdd, Nat.reduceLT, Nat.reduceLeDiff, Nat.reduceEqDiff, Int.reduceEq, Int.reduceLT, Int.reduceLE, er, decide_eq_false c]
        simp
    · simp only [EV, reduceIte, Nat.reduceAdd, Nat.reduceLT, Nat.reduceLeDiff, Nat.reduceEqDiff, Int.reduceEq, Int.reduceLT, Int.reduceLE]
  have el : ((srtI (qs.map (·.1))).map PyData.int).length ≤ 100000 := by rw [List.length_map, (srtI_perm _).length_eq, List.length_map]; omega
  rw [er, List.map_cons] at e
  unfold F_guest_to_move
  simp only [EV, reduceIte, Nat.reduceAdd, Nat.reduceLT, Nat.reduceLeDiff, Nat.reduceEqDiff, Int.reduceEq, Int.reduceLT, Int.reduceLE, n_ksort hq, el, e, at0]
def mpD (p : Int × Int) : D := .tuple [.int p.1, .int p.2]
def mvF (rs : List Int) (qs : List (Int × Int)) (ps : List (Int × Int)) (g : Int) : List (Int × Int) × Int := ps.foldl (fun s p => (s.1 ++ [(gmR rs qs p.1 p.2, s.2)], gmR rs qs p.1 p.2)) ([], g)
theorem mvF_snoc {rs : List Int} {qs ps : List (Int × Int)} {g : Int} {p : Int × Int} : mvF rs qs (ps ++ [p]) g = ((mvF rs qs ps g).1 ++ [(gmR rs qs p.1 p.2, (mvF rs qs ps g).2)], gmR rs qs p.1 p.2) := by
  unfold mvF
  rw [List.foldl_append]
  rfl
theorem mvF_len {rs : List Int} {qs : List (Int × Int)} {g : Int} : ∀ (n : Nat) (ps : List (Int × Int)), ps.length = n → (mvF rs qs ps g).1.length = n
  | 0, ps, h => by rw [List.length_eq_zero_iff.mp h]; rfl
  | n + 1, ps, h => by
    have hne : ps ≠ [] := fun z => by rw [z] at h; cases h
    rw [← List.dropLast_concat_getLast hne, mvF_snoc]
    simp only [List.length_append, List.length_cons, List.length_nil]
    rw [mvF_len n ps.dropLast (by rw [List.length_dropLast, h]; rfl)]
def qRv (x : Option D) : Option (List D) := match x with
  | some (.list l) => some l.reverse
  | _ => none
theorem v_rev {f : FE} {δ : DS} : fRev f δ = qRv (f δ) := by
  unfold fRev qRv
  cases f δ with
  | none => rfl
  | some d => cases d <;> rfl
theorem v_rev_s {l : List D} : qRv (some (.list l)) = some l.reverse := rfl
theorem zip_ints : ∀ (ns ms : List Int), zipD (ns.map PyData.int) (ms.map PyData.int) = (ns.zip ms).map mpD
  | [], ms => by simp [zipD]
  | _ :: _, [] => by simp [zipD]
  | a :: ns, b :: ms => by
    rw [List.map_cons, List.map_cons, zipD, zip_ints ns ms, List.zip_cons_cons, List.map_cons]
    rfl
theorem n_lzip {ns ms : List Int} (h : ns.length ≤ 1000) : gLzip (.list (ns.map .int)) (.list (ms.map .int)) = some (.list ((ns.zip ms).map mpD)) := by
  unfold gLzip
  dsimp only
  rw [intsD_map, intsD_map, Option.bind_some, Option.bind_some, if_pos h, zip_ints]
theorem ch_zip {rs : List Int} {qs : List (Int × Int)} {f : Int} {r : List Int} (h : Ch rs qs f r) : ∀ p ∈ (f :: r).zip r, frR rs qs p.1 = [] ∧ p.2 = lwR rs qs p.1 ∧ p.2 < p.1 ∧ p.2 ∈ wsR rs qs p.1 := by
  induction h with
  | stop c => intro p hp; simp at hp
  | step c c2 hr ih =>
    intro p hp
    rw [List.zip_cons_cons] at hp
    rcases List.mem_cons.mp hp with rfl | z
    · exact ⟨c, rfl, c2, lw_lt c2⟩
    · exact ih p z
theorem ch_last {rs : List Int} {qs : List (Int × Int)} {f : Int} {r : List Int} (h : Ch rs qs f r) : ∃ pre l, f :: r = pre ++ [l] ∧ frR rs qs l ≠ [] := by
  induction h with
  | stop c => exact ⟨[], _, rfl, c⟩
  | step c c2 hr ih =>
    obtain ⟨pre, l, e, h⟩ := ih
    exact ⟨_ :: pre, l, by rw [e]; rfl, h⟩
theorem moves_spec {rs : List Int} {qs : List (Int × Int)} {f l : Int} {r pre : List Int} (G : Gst rs qs) (hl : rs.length ≤ 60) (hc : Ch rs qs f r) (he : f :: r = pre ++ [l]) (hn : (f :: r).length ≤ 1000) {g0 : Nat} {gs : List Nat} (hg : frR rs qs l = g0 :: gs) :
    F_moves_by [.list (rs.map .int), dcD qs, .list ((f :: r).map .int)] = some (.tuple [.list ((mvF rs qs ((f :: r).zip r).reverse (g0 : Int)).1.map mpD), .int (mvF rs qs ((f :: r).zip r).reverse (g0 : Int)).2]) := by
  generalize hps : ((f :: r).zip r).reverse = ps
  have hz := ch_zip hc
  have pl : ps.length ≤ 1000 := by rw [← hps, List.length_reverse, List.length_zip]; simp only [List.length_cons] at hn ⊢; omega
  have hp : ∀ p ∈ ps, p.2 ∈ wsR rs qs p.1 := fun p h => (hz p (by rw [← hps] at h; exact List.mem_reverse.mp h)).2.2.2
  obtain ⟨δ', e, x, y, z, rfl⟩ := for_inv (g := (gTn 2 (gsCons (gNl 5) (gsCons (gNl 6) (gsNil))))) (b := (sSeq (sSetl 7 (dCall F_guest_to_move (dCons (dVar 0) (dCons (dVar 1) (dCons (dVar 5) (dCons (dVar 6) (dNil))))))) (sSeq (sApp 4 (dTup (dCons (dVar 7) (dCons (dVar 3) (dNil))))) (sSetl 3 (dVar 7)))))
    (fun i δ => ∃ x y z, δ = [some (.d (.list (rs.map .int))), some (.d (dcD qs)), some (.d (.list ((f :: r).map .int))), some (.d (.int (mvF rs qs (ps.take i) (g0 : Int)).2)), some (.d (.list ((mvF rs qs (ps.take i) (g0 : Int)).1.map mpD))), x, y, z]) (ps.map mpD)
    [some (.d (.list (rs.map .int))), some (.d (dcD qs)), some (.d (.list ((f :: r).map .int))), some (.d (.int (g0 : Int))), some (.d (.list [])), none, none, none] ⟨none, none, none, rfl⟩ (by
      rintro i d δ hd ⟨x, y, z, rfl⟩
      rw [List.getElem?_map] at hd
      cases hi : ps[i]? with
      | none => rw [hi] at hd; cases hd
      | some p =>
        rw [hi] at hd
        cases hd
        have es : ps.take (i + 1) = ps.take i ++ [p] := by rw [List.take_add_one, hi]; rfl
        have gs := guest_spec G hl (hp p (List.mem_of_getElem? hi))
        have hlen : ((mvF rs qs (ps.take i) (g0 : Int)).1.map mpD).length < 1000000 := by
          rw [List.length_map, mvF_len _ _ rfl, List.length_take]
          omega
        refine ⟨_, [some (.d (.list (rs.map .int))), some (.d (dcD qs)), some (.d (.list ((f :: r).map .int))), some (.d (.int (gmR rs qs p.1 p.2))), some (.d (.list ((mvF rs qs (ps.take i) (g0 : Int)).1.map mpD ++ [mpD (gmR rs qs p.1 p.2, (mvF rs qs (ps.take i) (g0 : Int)).2)]))), some (.d (.int p.1)), some (.d (.int p.2)), some (.d (.int (gmR rs qs p.1 p.2)))], rfl, .inl ?_, ⟨_, _, _, by rw [es, mvF_snoc, List.map_append]; rfl⟩⟩
        simp only [EV, reduceIte, Nat.reduceAdd, Nat.reduceLT, Nat.reduceLeDiff, Nat.reduceEqDiff, Int.reduceEq, Int.reduceLT, Int.reduceLE, gs, hlen, sz (show 0 + 1 + 1 ≤ 1000000 by decide)]
        rfl)
  rw [List.length_map, List.take_length] at e
  have el : pAt ((f :: r).map PyData.int) (-1) = some (.int l) := by rw [he, List.map_append, List.map_cons, List.map_nil]; exact last1
  have ec : cutD ((f :: r).map PyData.int) (some 1) none = r.map PyData.int := by rw [cutDr (by decide)]; simp
  have ez := n_lzip (ns := f :: r) (ms := r) hn
  have er : (((f :: r).zip r).map mpD).reverse = ps.map mpD := by rw [← hps, List.map_reverse]
  have ef := free_spec (rs := rs) (qs := qs) (k := l) (by omega)
  rw [hg, List.map_cons] at ef
  have fl : flats ((mvF rs qs ps (g0 : Int)).1.map mpD) = true := flats_all _ (fun _ => rfl) _
  generalize (f :: r).map PyData.int = FM at e el ec ez ⊢
  unfold F_moves_by
  simp only [EV, reduceIte, Nat.reduceAdd, Nat.reduceLT, Nat.reduceLeDiff, Nat.reduceEqDiff, Int.reduceEq, Int.reduceLT, Int.reduceLE, el, ef, at0, sz (show 0 ≤ 1000000 by decide), v_rev, ec, ez, v_rev_s, er]
  rw [e]
  simp only [EV, reduceIte, Nat.reduceAdd, Nat.reduceLT, Nat.reduceLeDiff, Nat.reduceEqDiff, Int.reduceEq, Int.reduceLT, Int.reduceLE, fl, sz (show 0 + 1 + 1 ≤ 1000000 by decide)]
theorem nls_mp : ∀ l : List (Int × Int), nls (l.map mpD) = 0
  | [] => rfl
  | a :: r => by rw [List.map_cons, nls, nls_mp r]; rfl
theorem admitted_in {rs : List Int} {qs : List (Int × Int)} {f l : Int} {r pre : List Int} (G : Gst rs qs) (hl : rs.length ≤ 60) (hf : 1 ≤ f) (hf' : f ≤ 900) (hc : Ch rs qs f r) (he : f :: r = pre ++ [l]) (hn : (f :: r).length ≤ 1000) {g0 : Nat} {gs : List Nat} (hg : frR rs qs l = g0 :: gs) :
    F_admitted [.list (rs.map .int), dcD qs, .int f] = some (.tuple [.str "in", .list ((mvF rs qs ((f :: r).zip r).reverse (g0 : Int)).1.map mpD), .int (mvF rs qs ((f :: r).zip r).reverse (g0 : Int)).2, .list ((f :: r).map .int)]) := by
  have e1 := falls_ch G (by omega) hf hf' hc
  have e2 := moves_spec G hl hc he hn hg
  have fl : flats ((f :: r).map PyData.int) = true := flats_ints _
  generalize (f :: r).map PyData.int = FM at e1 e2 fl ⊢
  generalize mvF rs qs ((f :: r).zip r).reverse (g0 : Int) = m at e2 ⊢
  have n1 : decide (nl (.tuple [.list (m.1.map mpD), .int m.2]) ≤ 1) = true := decide_eq_true (by rw [nl, nls, nl, nls_mp, nls, nls]; show 0 + 1 + (0 + 0) ≤ 1; decide)
  unfold F_admitted
  simp only [EV, reduceIte, Nat.reduceAdd, Nat.reduceLT, Nat.reduceLeDiff, Nat.reduceEqDiff, Int.reduceEq, Int.reduceLT, Int.reduceLE, e1, fl, e2, n1, at0, at1, sz (show 0 + 1 + 1 + 1 + 1 ≤ 1000000 by decide)]
theorem max_ints {i : Int} {r : List Int} : gMaxL [.list (PyData.int i :: r.map PyData.int)] = some (.int (mxI i r)) := by
  have : intsD (PyData.int i :: r.map PyData.int) = some (i :: r) := intsD_map (i :: r)
  unfold gMaxL
  dsimp only
  rw [this]
theorem admitted_full {rs : List Int} {qs : List (Int × Int)} {k : Nat} {L : Int} (G : Gst rs qs) (hl : rs.length ≤ 1000) (hk : 1 ≤ k) (hk' : k ≤ 900) (hd : Dead rs qs (k : Int)) (hL : lvM rs qs k = some L) :
    F_admitted [.list (rs.map .int), dcD qs, .int (k : Int)] = some (.tuple [.str "full", .int L]) := by
  have e1 := falls_dead G hl (by omega : (1 : Int) ≤ k) (by omega) hd
  obtain ⟨h1, h2, h3, h4⟩ := lvM_some hL
  have ec : compD (gNl 0) (tBool (dCall F_is_level (dCons (dVar 1) (dCons (dVar 2) (dCons (dVar 0) (dNil)))))) (dFlat (dVar 0)) (capD 1 [0, 1] [some (.d (.list (rs.map .int))), some (.d (dcD qs)), some (.d (.int (k : Int))), some (.d .none), none]) (rngD 1 ((k : Int) + 1)) = some ((((List.range k).filter fun i => lvR rs qs ((i : Nat) + 1)).map fun i : Nat => (i : Int) + 1).map PyData.int) := by
    rw [rng1_map, List.map_map]
    refine cFil (fun i : Nat => PyData.int ((i : Int) + 1)) (fun i => lvR rs qs ((i : Nat) + 1)) _ (List.range k) fun i hi => ?_
    refine ⟨[some (.d (.int ((i : Int) + 1))), some (.d (.list (rs.map .int))), some (.d (dcD qs))], rfl, ?_, fun _ => ?_⟩
    · simp only [EV, reduceIte, Nat.reduceAdd, Nat.reduceLT, Nat.reduceLeDiff, Nat.reduceEqDiff, Int.reduceEq, Int.reduceLT, Int.reduceLE, is_level_spec hl]
    · simp only [EV, reduceIte, Nat.reduceAdd, Nat.reduceLT, Nat.reduceLeDiff, Nat.reduceEqDiff, Int.reduceEq, Int.reduceLT, Int.reduceLE]
      rfl
  have el : (rngD 1 ((k : Int) + 1)).length ≤ 100000 := by rw [rng1_map, List.length_map, List.length_range]; omega
  have mem : ∀ x, x ∈ ((List.range k).filter fun i => lvR rs qs ((i : Nat) + 1)).map (fun i : Nat => (i : Int) + 1) ↔ 1 ≤ x ∧ x ≤ k ∧ lvR rs qs x = true := fun x => by
    rw [List.mem_map]
    constructor
    · rintro ⟨i, hi, rfl⟩
      obtain ⟨g1, g2⟩ := List.mem_filter.mp hi
      have := List.mem_range.mp g1
      exact ⟨by omega, by omega, g2⟩
    · rintro ⟨g1, g2, g3⟩
      refine ⟨(x - 1).toNat, List.mem_filter.mpr ⟨List.mem_range.mpr (by omega), ?_⟩, by omega⟩
      rw [show (((x - 1).toNat : Nat) : Int) + 1 = x by omega]
      exact g3
  cases e : ((List.range k).filter fun i => lvR rs qs ((i : Nat) + 1)).map (fun i : Nat => (i : Int) + 1) with
  | nil =>
    have := (mem L).mpr ⟨h1, h2, h3⟩
    rw [e] at this
    cases this
  | cons i r =>
    rw [e] at ec mem
    have sp := mxI_spec r i
    obtain ⟨g1, g2, g3⟩ := (mem _).mp sp.1
    have hle := sp.2 L ((mem L).mpr ⟨h1, h2, h3⟩)
    have eq : mxI i r = L := by
      by_cases c : L < mxI i r
      · rw [h4 _ c g2] at g3; cases g3
      · omega
    unfold F_admitted
    simp only [EV, reduceIte, Nat.reduceAdd, Nat.reduceLT, Nat.reduceLeDiff, Nat.reduceEqDiff, Int.reduceEq, Int.reduceLT, Int.reduceLE, e1, rng2 (show -(2 ^ 62) ≤ (k : Int) + 1 by omega) (show (k : Int) + 1 < 2 ^ 62 by omega) (show -(2 ^ 62) ≤ (1 : Int) by decide) (show (1 : Int) < 2 ^ 62 by decide), el, ec, max_ints, eq, sz (show 0 + 1 + 1 ≤ 1000000 by decide)]
end Com
namespace Bf
section
variable {α : Type} [DecidableEq α]
def addN (p : List α × List α) (t : α) : List α × List α := if t ∈ p.1 then p else (p.1 ++ [t], p.2 ++ [t])
theorem addN_1 {p : List α × List α} {t x : α} : x ∈ (addN p t).1 ↔ x ∈ p.1 ∨ x = t := by
  unfold addN
  split
  · next h => exact ⟨.inl, fun z => z.elim id fun z => z ▸ h⟩
  · simp
theorem fold_1 : ∀ {ts : List α} {p : List α × List α} {x : α}, x ∈ (ts.foldl addN p).1 ↔ x ∈ p.1 ∨ x ∈ ts
  | [], p, x => by simp
  | t :: ts, p, x => by
    rw [List.foldl_cons, fold_1, addN_1, List.mem_cons, or_assoc]
theorem fold_2 : ∀ {ts : List α} {p : List α × List α} {x : α}, (∀ y ∈ p.2, y ∈ p.1) → (x ∈ (ts.foldl addN p).2 ↔ x ∈ p.2 ∨ (x ∈ ts ∧ x ∉ p.1))
  | [], p, x, _ => by simp
  | t :: ts, p, x, h => by
    rw [List.foldl_cons]
    have h' : ∀ y ∈ (addN p t).2, y ∈ (addN p t).1 := fun y hy => by
      unfold addN at hy ⊢
      split
      · next z => rw [if_pos z] at hy; exact h y hy
      · next z =>
        rw [if_neg z] at hy
        rcases List.mem_append.mp hy with w | w
        · exact List.mem_append_left _ (h y w)
        · exact List.mem_append_right _ w
    rw [fold_2 h', addN_1]
    unfold addN
    by_cases z : t ∈ p.1
    · rw [if_pos z]
      constructor
      · rintro (w | ⟨w, n⟩)
        · exact .inl w
        · exact .inr ⟨List.mem_cons_of_mem _ w, fun y => n (.inl y)⟩
      · rintro (w | ⟨w, n⟩)
        · exact .inl w
        · rcases List.mem_cons.mp w with rfl | w
          · exact absurd z n
          · exact .inr ⟨w, fun y => y.elim n fun e => n (e ▸ z)⟩
    · rw [if_neg z]
      constructor
      · rintro (w | ⟨w, n⟩)
        · rcases List.mem_append.mp w with w | w
          · exact .inl w
          · have w := List.mem_singleton.mp w
            subst w
            exact .inr ⟨List.mem_cons_self, z⟩
        · exact .inr ⟨List.mem_cons_of_mem _ w, fun y => n (.inl y)⟩
      · rintro (w | ⟨w, n⟩)
        · exact .inl (List.mem_append_left _ w)
        · rcases List.mem_cons.mp w with rfl | w
          · exact .inl (List.mem_append_right _ (List.mem_singleton.mpr rfl))
          · by_cases e : x = t
            · exact .inl (List.mem_append_right _ (List.mem_singleton.mpr e))
            · exact .inr ⟨w, fun y => y.elim n e⟩
theorem add_nd {p : List α × List α} {t : α} (h : p.1.Nodup) : (addN p t).1.Nodup := by
  unfold addN
  split
  · exact h
  · next z =>
    refine List.nodup_append.mpr ⟨h, by simp, fun a ha b hb e => ?_⟩
    rw [List.mem_singleton.mp hb] at e
    exact z (e ▸ ha)
theorem fold_nd : ∀ {ts : List α} {p : List α × List α}, p.1.Nodup → (ts.foldl addN p).1.Nodup
  | [], p, h => h
  | t :: ts, p, h => by rw [List.foldl_cons]; exact fold_nd (add_nd h)
theorem fold_len : ∀ {ts : List α} {p : List α × List α}, (ts.foldl addN p).1.length + p.2.length = p.1.length + (ts.foldl addN p).2.length
  | [], p => rfl
  | t :: ts, p => by
    rw [List.foldl_cons]
    have h := fold_len (ts := ts) (p := addN p t)
    have e : (addN p t).1.length + p.2.length = p.1.length + (addN p t).2.length := by
      unfold addN
      split
      · rfl
      · simp only [List.length_append, List.length_cons, List.length_nil]; omega
    omega
variable (nx : α → List α) (op : α → Bool) (s0 : α)
def R : Nat → α → Prop
  | 0, t => t = s0
  | m + 1, t => ∃ s, R m s ∧ t ∈ nx s
def expd (wave seen : List α) : List α × List α := (wave.flatMap nx).foldl addN (seen, [])
structure Inv (m : Nat) (wave seen : List α) : Prop where
  sn : ∀ t, t ∈ seen ↔ ∃ j, j ≤ m ∧ R nx s0 j t
  wv : ∀ t, t ∈ wave ↔ R nx s0 m t ∧ ∀ j, j < m → ¬ R nx s0 j t
  nd : seen.Nodup
variable {nx op s0}
theorem Inv.start : Inv nx s0 0 [s0] [s0] :=
  ⟨fun t => ⟨fun h => ⟨0, Nat.le_refl _, List.mem_singleton.mp h⟩, fun ⟨j, hj, h⟩ => by
    have : j = 0 := by omega
    subst this
    exact List.mem_singleton.mpr h⟩, fun t => ⟨fun h => ⟨List.mem_singleton.mp h, fun j hj => absurd hj (Nat.not_lt_zero _)⟩, fun h => List.mem_singleton.mpr h.1⟩, by simp⟩
theorem Inv.step {m : Nat} {wave seen : List α} (I : Inv nx s0 m wave seen) : Inv nx s0 (m + 1) (expd nx wave seen).2 (expd nx wave seen).1 := by
  have m1 : ∀ t, t ∈ (expd nx wave seen).1 ↔ t ∈ seen ∨ t ∈ wave.flatMap nx := fun t => fold_1
  have m2 : ∀ t, t ∈ (expd nx wave seen).2 ↔ t ∈ wave.flatMap nx ∧ t ∉ seen := fun t => by
    have := fold_2 (ts := wave.flatMap nx) (p := (seen, [])) (x := t) (fun _ h => by cases h)
    unfold expd
    rw [this]
    simp
  have fw : ∀ t, t ∈ wave.flatMap nx → R nx s0 (m + 1) t := fun t h => by
    obtain ⟨s, h1, h2⟩ := List.mem_flatMap.mp h
    exact ⟨s, ((I.wv s).mp h1).1, h2⟩
  have bw : ∀ t, R nx s0 (m + 1) t → t ∈ seen ∨ t ∈ wave.flatMap nx := fun t h => by
    obtain ⟨s, h1, h2⟩ := h
    by_cases z : ∀ j, j < m → ¬ R nx s0 j s
    · exact .inr (List.mem_flatMap.mpr ⟨s, (I.wv s).mpr ⟨h1, z⟩, h2⟩)
    · have ⟨j, hj, hr⟩ : ∃ j, j < m ∧ R nx s0 j s := by
        apply Classical.byContradiction
        intro w
        exact z fun j hj hr => w ⟨j, hj, hr⟩
      exact .inl ((I.sn t).mpr ⟨j + 1, by omega, s, hr, h2⟩)
  refine ⟨fun t => ?_, fun t => ?_, fold_nd I.nd⟩
  · rw [m1]
    constructor
    · rintro (h | h)
      · obtain ⟨j, h1, h2⟩ := (I.sn t).mp h
        exact ⟨j, by omega, h2⟩
      · exact ⟨m + 1, Nat.le_refl _, fw t h⟩
    · rintro ⟨j, h1, h2⟩
      by_cases z : j ≤ m
      · exact .inl ((I.sn t).mpr ⟨j, z, h2⟩)
      · have : j = m + 1 := by omega
        subst this
        exact bw t h2
  · rw [m2]
    constructor
    · rintro ⟨h1, h2⟩
      exact ⟨fw t h1, fun j hj hr => h2 ((I.sn t).mpr ⟨j, by omega, hr⟩)⟩
    · rintro ⟨h1, h2⟩
      have ns : t ∉ seen := fun z => by
        obtain ⟨j, h3, h4⟩ := (I.sn t).mp z
        exact h2 j (by omega) h4
      exact ⟨(bw t h1).resolve_left ns, ns⟩
theorem Inv.empty {m : Nat} {seen : List α} (I : Inv nx s0 m [] seen) : ∀ i t, R nx s0 (m + i) t → ∃ j, j < m ∧ R nx s0 j t := by
  have base : ∀ t, R nx s0 m t → ∃ j, j < m ∧ R nx s0 j t := fun t h => by
    apply Classical.byContradiction
    intro w
    have := (I.wv t).mpr ⟨h, fun j hj hr => w ⟨j, hj, hr⟩⟩
    cases this
  intro i
  induction i with
  | zero => exact base
  | succ i ih =>
    intro t h
    obtain ⟨s, h1, h2⟩ := h
    obtain ⟨j, hj, hr⟩ := ih s h1
    have h3 : R nx s0 (j + 1) t := ⟨s, hr, h2⟩
    by_cases z : j + 1 < m
    · exact ⟨j + 1, z, h3⟩
    · have : j + 1 = m := by omega
      rw [this] at h3
      exact base t h3
end
end Bf
namespace K63
open PySem D3
noncomputable abbrev F_free_from : List D → Option D := Com.F_free_from
noncomputable abbrev F_least_wished : List D → Option D := Com.F_least_wished
noncomputable abbrev F_falls_of : List D → Option D := Com.F_falls_of
noncomputable abbrev F_guest_to_move : List D → Option D := Com.F_guest_to_move
noncomputable abbrev F_moves_by : List D → Option D := Com.F_moves_by
noncomputable abbrev F_is_level : List D → Option D := Com.F_is_level
noncomputable abbrev F_admitted : List D → Option D := Com.F_admitted
noncomputable abbrev F__law_cell : List D → Option D := Com.F__law_cell
noncomputable abbrev F__law_part : List D → Option D := Com.F__law_part
noncomputable abbrev F__law_rooms : List D → Option D := Com.F__law_rooms
noncomputable abbrev F__law_small_guests : List D → Option D := Com.F__law_small_guests
noncomputable abbrev F__law_seats : List D → Option D := Com.F__law_seats
noncomputable def F__law_next : List D → Option D := fnD 2 4 (sSeq (sSetl 2 (dLst (dNil)))
    (sSeq (sFor (fRng1 (dCons (dCall gLen (dCons (dVar 0) (dNil))) (dNil))) (gNl 3) (sFor (fRng1 (dCons (dCall gLen (dCons (dVar 0) (dNil))) (dNil))) (gNl 4) (sIf (D3.tAnd (tBool (dOp gGt (dOp gIx (dVar 1) (dVar 3)) (dC (.int 0)))) (D3.tAnd (tBool (dOp gEq (dOp gIx (dVar 1) (dVar 4)) (dC (.int 0)))) (tBool (dOp gGe (dOp gIx (dVar 0) (dVar 4)) (dOp gIx (dVar 1) (dVar 3)))))) (sSeq (sSetl 5 (dUn gList (dVar 1)))
    (sSeq (sPut 5 (dVar 4) (dOp gIx (dVar 5) (dVar 3)))
    (sSeq (sPut 5 (dVar 3) (dC (.int 0)))
    (sApp 2 (dUn gTupL (dVar 5)))))) (sNil))))
    (sRet (dFl1 (dVar 2)))))
noncomputable abbrev F__law_open : List D → Option D := Com.F__law_open
noncomputable def F__law_waves : List D → Option D := fnD 3 6 (sSeq (sSetl 3 (dLst (dCons (dCall F__law_seats (dCons (dVar 0) (dCons (dVar 1) (dNil)))) (dNil))))
    (sSeq (sSetl 4 (dTNew (dOp gIx (dVar 3) (dC (.int 0)))))
    (sSeq (sSetl 5 (dC (.int 0)))
    (sSeq (sWhile (tBool (dOp gNe (dVar 3) (dLst (dNil)))) (sSeq (sIf (tBool (dOp gNe (dComp (fLst (dVar 3)) (gNl 0) (tBool (dCall F__law_open (dCons (dVar 1) (dCons (dVar 0) (dCons (dVar 2) (dNil)))))) (dFlat (dVar 0)) 1 [0, 2]) (dLst (dNil)))) (sRet (dFlat (dVar 5))) (sNil))
    (sSeq (sSetl 6 (dLst (dNil)))
    (sSeq (sFor (fLst (dVar 3)) (gNl 7) (sFor (fLst (dCall F__law_next (dCons (dVar 0) (dCons (dVar 7) (dNil))))) (gNl 8) (sIf (tBool (dOp gTNotin (dVar 8) (dVar 4))) (sSeq (sTPut 4 (dVar 8))
    (sApp 6 (dVar 8))) (sNil))))
    (sSeq (sMov 3 6)
    (sSetl 5 (dOp gAdd (dVar 5) (dC (.int 1)))))))))
    (sRet (dC (.none)))))))
noncomputable def F_law : List D → Option D := fnD 1 5 (sSeq (sSetl 1 (dOp gCat (dLst (dCons (dOp gAdd (dC (.int 1)) (dCall F__law_part (dCons (dVar 0) (dCons (dC (.int 0)) (dCons (dC (.int 2)) (dCons (dC (.int 4)) (dNil))))))) (dNil))) (dCall F__law_rooms (dCons (dVar 0) (dCons (dC (.int 0)) (dCons (dC (.int 5)) (dNil)))))))
    (sSeq (sSetl 2 (dCall F__law_small_guests (dCons (dVar 0) (dCons (dC (.int 2)) (dCons (dVar 1) (dNil))))))
    (sSeq (sFor (fLst (dLst (dCons (dOp gAdd (dC (.int 1)) (dCall F__law_part (dCons (dVar 0) (dCons (dC (.int 4)) (dCons (dC (.int 0)) (dCons (dC (.int 4)) (dNil))))))) (dCons (dC (.int 4)) (dNil))))) (gNl 3) (sSeq (sSetl 4 (dCall F__law_waves (dCons (dVar 1) (dCons (dVar 2) (dCons (dVar 3) (dNil))))))
    (sSeq (sSetl 5 (dCall F_admitted (dCons (dVar 1) (dCons (dVar 2) (dCons (dVar 3) (dNil))))))
    (sSeq (sIf (D3.tAnd (tBool (dUn gIsN (dVar 4))) (tBool (dOp gNe (dOp gIx (dVar 5) (dC (.int 0))) (dC (.str "full"))))) (sRet (dC (.bool false))) (sNil))
    (sIf (D3.tAnd (tBool (dUn gNotN (dVar 4))) (D3.tOr (tBool (dOp gNe (dOp gIx (dVar 5) (dC (.int 0))) (dC (.str "in")))) (tBool (dOp gNe (dCall gLen (dCons (dOp gIx (dVar 5) (dC (.int 1))) (dNil))) (dVar 4))))) (sRet (dC (.bool false))) (sNil))))))
    (sRet (dC (.bool true))))))
end K63
namespace K63
open PySem D3 My Com
def seat (rs : List Int) (qs : List (Int × Int)) : List Int := (List.range rs.length).map fun r : Nat => (keyI qs (r : Int)).getD 0
def okN (rs s : List Int) (a b : Nat) : Bool := decide (0 < s.getD a 0) && (decide (s.getD b 0 = 0) && decide (s.getD a 0 ≤ rs.getD b 0))
def mkN (s : List Int) (a b : Nat) : List Int := (s.set b (s.getD a 0)).set a 0
def rowN (rs s : List Int) (a : Nat) : List (List Int) := ((List.range rs.length).filter (okN rs s a)).map (mkN s a)
def nxS (rs s : List Int) : List (List Int) := (List.range rs.length).flatMap (rowN rs s)
def opL (rs s : List Int) (k : Int) : List Nat := (List.range rs.length).filter fun r => decide (s.getD r 0 = 0) && decide (k ≤ rs.getD r 0)
def opS (rs : List Int) (k : Int) (s : List Int) : Bool := !(opL rs s k).isEmpty
theorem op_iff {rs s : List Int} {k : Int} : opS rs k s = true ↔ ∃ r, r < rs.length ∧ s.getD r 0 = 0 ∧ k ≤ rs.getD r 0 := by
  unfold opS opL
  rw [Bool.not_eq_true', List.isEmpty_eq_false_iff_exists_mem]
  constructor
  · rintro ⟨r, h⟩
    obtain ⟨h1, h2⟩ := List.mem_filter.mp h
    rw [Bool.and_eq_true] at h2
    exact ⟨r, List.mem_range.mp h1, of_decide_eq_true h2.1, of_decide_eq_true h2.2⟩
  · rintro ⟨r, h1, h2, h3⟩
    exact ⟨r, List.mem_filter.mpr ⟨List.mem_range.mpr h1, by rw [decide_eq_true h2, decide_eq_true h3]; rfl⟩⟩
theorem nx_iff {rs s t : List Int} : t ∈ nxS rs s ↔ ∃ a b, a < rs.length ∧ b < rs.length ∧ 0 < s.getD a 0 ∧ s.getD b 0 = 0 ∧ s.getD a 0 ≤ rs.getD b 0 ∧ t = mkN s a b := by
  unfold nxS rowN
  rw [List.mem_flatMap]
  constructor
  · rintro ⟨a, h1, h2⟩
    obtain ⟨b, h3, rfl⟩ := List.mem_map.mp h2
    obtain ⟨h4, h5⟩ := List.mem_filter.mp h3
    unfold okN at h5
    rw [Bool.and_eq_true, Bool.and_eq_true] at h5
    exact ⟨a, b, List.mem_range.mp h1, List.mem_range.mp h4, of_decide_eq_true h5.1, of_decide_eq_true h5.2.1, of_decide_eq_true h5.2.2, rfl⟩
  · rintro ⟨a, b, h1, h2, h3, h4, h5, rfl⟩
    exact ⟨a, List.mem_range.mpr h1, List.mem_map.mpr ⟨b, List.mem_filter.mpr ⟨List.mem_range.mpr h2, by unfold okN; rw [decide_eq_true h3, decide_eq_true h4, decide_eq_true h5]; rfl⟩, rfl⟩⟩
theorem seat_at {rs : List Int} {qs : List (Int × Int)} {r : Nat} (h : r < rs.length) : (seat rs qs).getD r 0 = (keyI qs (r : Int)).getD 0 := by
  unfold seat
  rw [List.getD_eq_getElem?_getD, List.getElem?_map, List.getElem?_range h]
  rfl
theorem mk_at {s : List Int} {a b r : Nat} : (mkN s a b).getD r 0 = if r = a then 0 else if r = b ∧ b < s.length then s.getD a 0 else s.getD r 0 := by
  unfold mkN
  rw [List.getD_eq_getElem?_getD, List.getElem?_set]
  by_cases h : a = r
  · subst h
    rw [if_pos rfl, if_pos rfl]
    split <;> rfl
  · rw [if_neg h, if_neg (fun z => h z.symm), List.getElem?_set]
    by_cases h2 : b = r
    · subst h2
      rw [if_pos rfl]
      by_cases h3 : b < s.length
      · rw [if_pos h3, if_pos ⟨rfl, h3⟩]; rfl
      · rw [if_neg h3, if_neg (fun z => h3 z.2), List.getD_eq_getElem?_getD, List.getElem?_eq_none (by omega)]
    · rw [if_neg h2, if_neg (fun z => h2 z.1.symm), List.getD_eq_getElem?_getD]
abbrev Rch (rs : List Int) (qs : List (Int × Int)) := Bf.R (nxS rs) (seat rs qs)
def Unch (rs : List Int) (qs : List (Int × Int)) (f : Int) (t : List Int) : Prop := ∀ r, r < rs.length → f ≤ rs.getD r 0 → 0 < t.getD r 0 ∧ t.getD r 0 = (keyI qs (r : Int)).getD 0
theorem unch_0 {rs : List Int} {qs : List (Int × Int)} {f : Int} (G : Gst rs qs) (h : frR rs qs f = []) : Unch rs qs f (seat rs qs) := fun r h1 h2 => by
  rw [seat_at h1]
  refine ⟨?_, rfl⟩
  cases e : keyI qs (r : Int) with
  | none =>
    have : r ∈ frR rs qs f := fr_mem.mpr ⟨h1, h2, e⟩
    rw [h] at this; cases this
  | some w =>
    have := (G.rg _ (key_mem e)).2.2.1
    show 0 < w
    omega
theorem least {rs : List Int} {qs : List (Int × Int)} {f : Int} {t : List Int} {a : Nat} (G : Gst rs qs) (U : Unch rs qs f t) (ha : a < rs.length) (hf : f ≤ rs.getD a 0) : lwR rs qs f ≤ t.getD a 0 := by
  obtain ⟨h1, h2⟩ := U a ha hf
  cases e : keyI qs (a : Int) with
  | none =>
    rw [e] at h2
    have h2 : t.getD a 0 = 0 := h2
    omega
  | some w =>
    rw [e] at h2
    rw [h2]
    exact lw_le (ws_mem.mpr ⟨(a : Int), key_mem e, by simpa using hf⟩)
theorem unch_step {rs : List Int} {qs : List (Int × Int)} {f g : Int} {s t : List Int} (G : Gst rs qs) (U : Unch rs qs f s) (V : Unch rs qs g s) (hg : g ≤ lwR rs qs f) (h : t ∈ nxS rs s) : Unch rs qs f t := by
  obtain ⟨a, b, ha, hb, h1, h2, h3, rfl⟩ := nx_iff.mp h
  have na : ¬ f ≤ rs.getD a 0 := fun z => by
    have l := least G U ha z
    have := (V b hb (by omega)).1
    omega
  intro r hr hf
  have ra : r ≠ a := fun z => na (z ▸ hf)
  have rb : r ≠ b := fun z => by
    have := (U r hr hf).1
    rw [z] at this
    omega
  rw [mk_at, if_neg ra, if_neg (fun z => rb z.1)]
  exact U r hr hf
theorem low {rs : List Int} {qs : List (Int × Int)} {f : Int} {r : List Int} (G : Gst rs qs) (h : Ch rs qs f r) : ∀ j, j < r.length → ∀ t, Rch rs qs j t → Unch rs qs f t := by
  induction h with
  | stop c => intro j hj; cases hj
  | step c c2 hr ih =>
    rename_i f r
    intro j
    induction j with
    | zero =>
      intro _ t ht
      have ht : t = seat rs qs := ht
      rw [ht]
      exact unch_0 G c
    | succ j ihj =>
      intro hj t ht
      obtain ⟨s, h1, h2⟩ := ht
      rw [List.length_cons] at hj
      exact unch_step G (ihj (by rw [List.length_cons]; omega) s h1) (ih j (by omega) s h1) (Int.le_refl _) h2
theorem dead {rs : List Int} {qs : List (Int × Int)} {f : Int} (G : Gst rs qs) (h : Dead rs qs f) : ∀ j t, Rch rs qs j t → Unch rs qs f t := by
  induction h with
  | here c c2 =>
    intro j
    induction j with
    | zero =>
      intro t ht
      have ht : t = seat rs qs := ht
      rw [ht]
      exact unch_0 G c
    | succ j ihj =>
      intro t ht
      obtain ⟨s, h1, h2⟩ := ht
      exact unch_step G (ihj s h1) (ihj s h1) c2 h2
  | step c c2 hr ih =>
    intro j
    induction j with
    | zero =>
      intro t ht
      have ht : t = seat rs qs := ht
      rw [ht]
      exact unch_0 G c
    | succ j ihj =>
      intro t ht
      obtain ⟨s, h1, h2⟩ := ht
      exact unch_step G (ihj s h1) (ih j s h1) (Int.le_refl _) h2
theorem unch_op {rs : List Int} {qs : List (Int × Int)} {f : Int} {t : List Int} (U : Unch rs qs f t) : opS rs f t = false := by
  cases e : opS rs f t with
  | false => rfl
  | true =>
    obtain ⟨r, h1, h2, h3⟩ := op_iff.mp e
    have := (U r h1 h3).1
    omega
theorem high {rs : List Int} {qs : List (Int × Int)} {f : Int} {r : List Int} (G : Gst rs qs) (h : Ch rs qs f r) : ∃ t, Rch rs qs r.length t ∧ opS rs f t = true := by
  induction h with
  | stop c =>
    rename_i f
    refine ⟨seat rs qs, rfl, op_iff.mpr ?_⟩
    cases e : frR rs qs f with
    | nil => exact absurd e c
    | cons g gs =>
      obtain ⟨h1, h2, h3⟩ := fr_mem.mp (show g ∈ frR rs qs f by rw [e]; exact List.mem_cons_self)
      exact ⟨g, h1, by rw [seat_at h1, h3]; rfl, h2⟩
  | step c c2 hr ih =>
    rename_i f r
    obtain ⟨t, h1, h2⟩ := ih
    have U := low G (Ch.step c c2 hr) r.length (by rw [List.length_cons]; omega) t h1
    obtain ⟨b, hb1, hb2, hb3⟩ := op_iff.mp h2
    obtain ⟨i, hi, hi2⟩ := ws_mem.mp (lw_lt c2)
    have rg := G.rg _ hi
    obtain ⟨a, rfl⟩ : ∃ a : Nat, i = (a : Int) := ⟨i.toNat, by have := rg.1; simp only at this; omega⟩
    have ha : a < rs.length := by have := rg.2.1; simp only at this; omega
    have hfa : f ≤ rs.getD a 0 := by simpa using hi2
    obtain ⟨u1, u2⟩ := U a ha hfa
    rw [key_of G.nd hi] at u2
    have u2 : t.getD a 0 = lwR rs qs f := u2
    refine ⟨mkN t a b, ⟨t, h1, nx_iff.mpr ⟨a, b, ha, hb1, u1, hb2, by rw [u2]; exact hb3, rfl⟩⟩, op_iff.mpr ⟨a, ha, by rw [mk_at, if_pos rfl], hfa⟩⟩
theorem zl0 : 0 ≤ sizeLine := Nat.zero_le _
theorem zl1 : 0 + 1 ≤ sizeLine := Com.sz (by decide)
theorem zl2 : 0 + 1 + 1 ≤ sizeLine := Com.sz (by decide)
def tD (s : List Int) : D := .tuple (s.map .int)
theorem small_spec {ns : List Int} {a : Int} {rs : List Int} (ha : 0 ≤ a) (ha' : a ≤ 1000) (hr : ∀ r ∈ rs, 1 ≤ r ∧ r ≤ 4) (hl : rs.length ≤ 60) : ∃ qs, F__law_small_guests [.list (ns.map .int), .int a, .list (rs.map .int)] = some (dcD qs) ∧ Gst rs qs := by
  obtain ⟨δ', e, x, qs, rfl, G⟩ := for_inv (g := (gNl 4)) (b := (sIf (tBool (dOp gLt (dCall F__law_part (dCons (dVar 0) (dCons (dVar 1) (dCons (dVar 4) (dCons (dC (.int 8)) (dNil)))))) (dC (.int 7)))) (sKPut 3 (dVar 4) (dOp gAdd (dC (.int 1)) (dCall F__law_part (dCons (dVar 0) (dCons (dOp gAdd (dVar 1) (dC (.int 1))) (dCons (dVar 4) (dCons (dOp gIx (dVar 2) (dVar 4)) (dNil)))))))) (sNil)))
    (fun _ δ => ∃ x qs, δ = [some (.d (.list (ns.map .int))), some (.d (.int a)), some (.d (.list (rs.map .int))), some (.d (dcD qs)), x] ∧ Gst rs qs) (rngD 0 (rs.length : Int))
    [some (.d (.list (ns.map .int))), some (.d (.int a)), some (.d (.list (rs.map .int))), some (.d (.dict [])), none] ⟨none, [], rfl, Gst.nil rs⟩ (by
      rintro i d δ hd ⟨x, qs, rfl, G⟩
      obtain ⟨hi, rfl⟩ := rng_at hd
      have s1 := part_spec (ns := ns) (i := a) (k := (i : Int)) (m := 8) ha (by omega) (by omega) (by decide)
      by_cases c : partF ns a (i : Int) 8 < 7
      · have gr := hr _ (getD_mem (rs := rs) (r := i) (by omega))
        have s3 := part_spec (ns := ns) (i := a + 1) (k := (i : Int)) (m := rs.getD i 0) (by omega) (by omega) (by omega) (by omega)
        have p3 := partF_range ns (a + 1) (i : Int) (m := rs.getD i 0) (by omega)
        have e3 : pAt (rs.map PyData.int) (i : Int) = some (.int (rs.getD i 0)) := by rw [pAt_ints (by omega) hi]; simp
        have hq : qs.length < 1000000 := by have := G.len; omega
        refine ⟨_, [some (.d (.list (ns.map .int))), some (.d (.int a)), some (.d (.list (rs.map .int))), some (.d (dcD (putI qs (i : Int) (1 + partF ns (a + 1) (i : Int) (rs.getD i 0))))), some (.d (.int (i : Int)))], rfl, .inl ?_, ⟨_, _, rfl, G.put (by omega) (by omega) (by omega)⟩⟩
        simp only [EV, reduceIte, Nat.reduceAdd, Nat.reduceLT, Nat.reduceLeDiff, Nat.reduceEqDiff, Int.reduceEq, Int.reduceLT, Int.reduceLE, s1, s3, e3, decide_eq_true c, v_kput, v_kput_s, hq]
      · refine ⟨_, [some (.d (.list (ns.map .int))), some (.d (.int a)), some (.d (.list (rs.map .int))), some (.d (dcD qs)), some (.d (.int (i : Int)))], rfl, .inl ?_, ⟨_, _, rfl, G⟩⟩
        simp only [EV, reduceIte, Nat.reduceAdd, Nat.reduceLT, Nat.reduceLeDiff, Nat.reduceEqDiff, Int.reduceEq, Int.reduceLT, Int.reduceLE, s1, decide_eq_false c])
  refine ⟨qs, ?_, G⟩
  unfold F__law_small_guests Com.F__law_small_guests
  simp only [EV, reduceIte, Nat.reduceAdd, Nat.reduceLT, Nat.reduceLeDiff, Nat.reduceEqDiff, Int.reduceEq, Int.reduceLT, Int.reduceLE, List.length_map, rng1 (show -(2 ^ 62) ≤ (rs.length : Int) by omega) (show (rs.length : Int) < 2 ^ 62 by omega)]
  rw [e]
  simp only [EV, reduceIte, Nat.reduceAdd, Nat.reduceLT, Nat.reduceLeDiff, Nat.reduceEqDiff, Int.reduceEq, Int.reduceLT, Int.reduceLE]
theorem seats_spec {rs : List Int} {qs : List (Int × Int)} (hl : rs.length ≤ 60) : F__law_seats [.list (rs.map .int), dcD qs] = some (tD (seat rs qs)) := by
  have ec : compD (gNl 0) (D3.tYes) (dKGet2 (dVar 1) (dVar 0) (dC (.int 0))) (capD 1 [1] [some (.d (.list (rs.map .int))), some (.d (dcD qs))]) (rngD 0 (rs.length : Int)) = some ((seat rs qs).map PyData.int) := by
    rw [rng_map, Int.toNat_natCast]
    unfold seat
    rw [List.map_map]
    refine cMap (fun r : Nat => PyData.int (r : Int)) _ (List.range rs.length) fun r _ => ⟨[some (.d (.int (r : Int))), some (.d (dcD qs))], rfl, rfl, ?_⟩
    simp only [EV, reduceIte, Nat.reduceAdd, Nat.reduceLT, Nat.reduceLeDiff, Nat.reduceEqDiff, Int.reduceEq, Int.reduceLT, Int.reduceLE, v_kget2, v_kget2_s]
    rfl
  have el : (rngD 0 (rs.length : Int)).length ≤ 100000 := by rw [rng_len]; omega
  unfold F__law_seats Com.F__law_seats
  simp only [EV, reduceIte, Nat.reduceAdd, Nat.reduceLT, Nat.reduceLeDiff, Nat.reduceEqDiff, Int.reduceEq, Int.reduceLT, Int.reduceLE, List.length_map, rng1 (show -(2 ^ 62) ≤ (rs.length : Int) by omega) (show (rs.length : Int) < 2 ^ 62 by omega), el, ec, n_tupl]
  rfl
theorem at_n {rs : List Int} {i : Nat} (h : i < rs.length) : pAt (rs.map PyData.int) (i : Int) = some (.int (rs.getD i 0)) := by rw [pAt_ints (by omega) (by omega)]; simp
theorem open_spec {rs s : List Int} {k : Int} (hl : rs.length ≤ 60) (hs : s.length = rs.length) : F__law_open [.list (rs.map .int), tD s, .int k] = some (.bool (opS rs k s)) := by
  unfold tD
  have ec : compD (gNl 0) (D3.tAnd (tBool (dOp gEq (dOp gIx (dVar 2) (dVar 0)) (dC (.int 0)))) (tBool (dOp gGe (dOp gIx (dVar 3) (dVar 0)) (dVar 1)))) (dFlat (dVar 0)) (capD 1 [2, 1, 0] [some (.d (.list (rs.map .int))), some (.d (.tuple (s.map .int))), some (.d (.int k))]) (rngD 0 (rs.length : Int)) = some ((opL rs s k).map fun r : Nat => PyData.int (r : Int)) := by
    rw [rng_map, Int.toNat_natCast]
    refine cFil (fun r : Nat => PyData.int (r : Int)) (fun r => decide (s.getD r 0 = 0) && decide (k ≤ rs.getD r 0)) _ (List.range rs.length) fun r hr => ?_
    have hr := List.mem_range.mp hr
    refine ⟨[some (.d (.int (r : Int))), some (.d (.int k)), some (.d (.tuple (s.map .int))), some (.d (.list (rs.map .int)))], rfl, ?_, fun _ => ?_⟩
    · by_cases c : s.getD r 0 = 0
      · simp only [EV, reduceIte, Nat.reduceAdd, Nat.reduceLT, Nat.reduceLeDiff, Nat.reduceEqDiff, Int.reduceEq, Int.reduceLT, Int.reduceLE, at_n (rs := s) (i := r) (by omega), at_n hr, decide_eq_true c]
        simp
      · simp only [EV, reduceIte, Nat.reduceAdd, Nat.reduceLT, Nat.reduceLeDiff, Nat.reduceEqDiff, Int.reduceEq, Int.reduceLT, Int.reduceLE, at_n (rs := s) (i := r) (by omega), decide_eq_false c]
        simp
    · simp only [EV, reduceIte, Nat.reduceAdd, Nat.reduceLT, Nat.reduceLeDiff, Nat.reduceEqDiff, Int.reduceEq, Int.reduceLT, Int.reduceLE]
  have el : (rngD 0 (rs.length : Int)).length ≤ 100000 := by rw [rng_len]; omega
  have en := ne_nil (l := (opL rs s k).map fun r : Nat => PyData.int (r : Int)) (ly_le (ly_list (n := 1) (lys_map _ (fun _ => ly_int) _)) (by decide))
  rw [List.isEmpty_map] at en
  unfold F__law_open Com.F__law_open
  simp only [EV, reduceIte, Nat.reduceAdd, Nat.reduceLT, Nat.reduceLeDiff, Nat.reduceEqDiff, Int.reduceEq, Int.reduceLT, Int.reduceLE, List.length_map, rng1 (show -(2 ^ 62) ≤ (rs.length : Int) by omega) (show (rs.length : Int) < 2 ^ 62 by omega), el, ec, zl0, en]
  rfl
theorem row_spec {rs s : List Int} {a : Nat} (hl : rs.length ≤ 60) (hs : s.length = rs.length) (ha : a < rs.length) (F : List (List Int)) (hF : F.length ≤ 10000) (x y : Option U) :
    ∃ x' y', forD (gNl 4) (sIf (D3.tAnd (tBool (dOp gGt (dOp gIx (dVar 1) (dVar 3)) (dC (.int 0)))) (D3.tAnd (tBool (dOp gEq (dOp gIx (dVar 1) (dVar 4)) (dC (.int 0)))) (tBool (dOp gGe (dOp gIx (dVar 0) (dVar 4)) (dOp gIx (dVar 1) (dVar 3)))))) (sSeq (sSetl 5 (dUn gList (dVar 1))) (sSeq (sPut 5 (dVar 4) (dOp gIx (dVar 5) (dVar 3))) (sSeq (sPut 5 (dVar 3) (dC (.int 0))) (sApp 2 (dUn gTupL (dVar 5)))))) (sNil)) (rngD 0 (rs.length : Int)) [some (.d (.list (rs.map .int))), some (.d (.tuple (s.map .int))), some (.d (.list (F.map tD))), some (.d (.int (a : Int))), x, y] =
      some (.nx [some (.d (.list (rs.map .int))), some (.d (.tuple (s.map .int))), some (.d (.list ((F ++ rowN rs s a).map tD))), some (.d (.int (a : Int))), x', y']) := by
  have ea := at_n (rs := s) (i := a) (by omega)
  obtain ⟨δ', e, x', y', rfl⟩ := for_inv (g := (gNl 4)) (b := (sIf (D3.tAnd (tBool (dOp gGt (dOp gIx (dVar 1) (dVar 3)) (dC (.int 0)))) (D3.tAnd (tBool (dOp gEq (dOp gIx (dVar 1) (dVar 4)) (dC (.int 0)))) (tBool (dOp gGe (dOp gIx (dVar 0) (dVar 4)) (dOp gIx (dVar 1) (dVar 3)))))) (sSeq (sSetl 5 (dUn gList (dVar 1))) (sSeq (sPut 5 (dVar 4) (dOp gIx (dVar 5) (dVar 3))) (sSeq (sPut 5 (dVar 3) (dC (.int 0))) (sApp 2 (dUn gTupL (dVar 5)))))) (sNil)))
    (fun i δ => ∃ x y, δ = [some (.d (.list (rs.map .int))), some (.d (.tuple (s.map .int))), some (.d (.list ((F ++ ((List.range i).filter (okN rs s a)).map (mkN s a)).map tD))), some (.d (.int (a : Int))), x, y]) (rngD 0 (rs.length : Int))
    [some (.d (.list (rs.map .int))), some (.d (.tuple (s.map .int))), some (.d (.list (F.map tD))), some (.d (.int (a : Int))), x, y] ⟨x, y, by simp⟩ (by
      rintro b d δ hd ⟨x, y, rfl⟩
      obtain ⟨hb, rfl⟩ := rng_at hd
      have hb : b < rs.length := by omega
      have eb := at_n (rs := s) (i := b) (by omega)
      have er := at_n hb
      by_cases c : okN rs s a b = true
      · have es : (F ++ ((List.range (b + 1)).filter (okN rs s a)).map (mkN s a)).map tD = (F ++ ((List.range b).filter (okN rs s a)).map (mkN s a)).map tD ++ [tD (mkN s a b)] := by
          rw [List.range_succ, List.filter_append, List.filter_cons, if_pos c, List.filter_nil, List.map_append, List.map_append, List.map_append, List.map_append]
          simp
        rw [es]
        have hlen : ((F ++ ((List.range b).filter (okN rs s a)).map (mkN s a)).map tD).length < 1000000 := by
          rw [List.length_map, List.length_append, List.length_map]
          have := List.length_filter_le (okN rs s a) (List.range b)
          rw [List.length_range] at this
          omega
        generalize (F ++ ((List.range b).filter (okN rs s a)).map (mkN s a)).map tD = FL at hlen ⊢
        unfold okN at c
        rw [Bool.and_eq_true, Bool.and_eq_true] at c
        obtain ⟨c1, c2, c3⟩ := c
        have i1 : pIx s.length (b : Int) = some b := by
          unfold pIx
          rw [if_pos (by omega), if_pos (by omega)]
          rfl
        have i2 : pIx s.length (a : Int) = some a := by
          unfold pIx
          rw [if_pos (by omega), if_pos (by omega)]
          rfl
        have em : tD (mkN s a b) = .tuple (((s.map PyData.int).set b (.int (s.getD a 0))).set a (.int 0)) := by
          unfold tD mkN
          rw [List.map_set, List.map_set]
        rw [em]
        refine ⟨_, [some (.d (.list (rs.map .int))), some (.d (.tuple (s.map .int))), some (.d (.list (FL ++ [.tuple (((s.map PyData.int).set b (.int (s.getD a 0))).set a (.int 0))]))), some (.d (.int (a : Int))), some (.d (.int (b : Int))), some (.d (.list (((s.map PyData.int).set b (.int (s.getD a 0))).set a (.int 0))))], rfl, .inl ?_, ⟨_, _, rfl⟩⟩
        simp only [EV, reduceIte, Nat.reduceAdd, Nat.reduceLT, Nat.reduceLeDiff, Nat.reduceEqDiff, Int.reduceEq, Int.reduceLT, Int.reduceLE, ea, eb, er, c1, c2, c3, i1, i2, List.length_set, List.length_map, Option.bind_some, n_tupl, hlen]
      · have es : (F ++ ((List.range (b + 1)).filter (okN rs s a)).map (mkN s a)).map tD = (F ++ ((List.range b).filter (okN rs s a)).map (mkN s a)).map tD := by
          rw [List.range_succ, List.filter_append, List.filter_cons, if_neg c, List.filter_nil, List.append_nil]
        rw [es]
        generalize (F ++ ((List.range b).filter (okN rs s a)).map (mkN s a)).map tD = FL
        refine ⟨_, [some (.d (.list (rs.map .int))), some (.d (.tuple (s.map .int))), some (.d (.list FL)), some (.d (.int (a : Int))), some (.d (.int (b : Int))), y], rfl, .inl ?_, ⟨_, _, rfl⟩⟩
        unfold okN at c
        by_cases c1 : 0 < s.getD a 0
        · by_cases c2 : s.getD b 0 = 0
          · have c3 : ¬ s.getD a 0 ≤ rs.getD b 0 := fun z => c (by rw [decide_eq_true c1, decide_eq_true c2, decide_eq_true z]; rfl)
            simp only [EV, reduceIte, Nat.reduceAdd, Nat.reduceLT, Nat.reduceLeDiff, Nat.reduceEqDiff, Int.reduceEq, Int.reduceLT, Int.reduceLE, ea, eb, er, decide_eq_true c1, decide_eq_true c2, decide_eq_false c3]
          · simp only [EV, reduceIte, Nat.reduceAdd, Nat.reduceLT, Nat.reduceLeDiff, Nat.reduceEqDiff, Int.reduceEq, Int.reduceLT, Int.reduceLE, ea, eb, er, decide_eq_true c1, decide_eq_false c2]
        · simp only [EV, reduceIte, Nat.reduceAdd, Nat.reduceLT, Nat.reduceLeDiff, Nat.reduceEqDiff, Int.reduceEq, Int.reduceLT, Int.reduceLE, ea, eb, er, decide_eq_false c1])
  rw [rng_len, Int.toNat_natCast] at e
  exact ⟨x', y', e⟩
theorem rowN_len {rs s : List Int} {a : Nat} : (rowN rs s a).length ≤ rs.length := by
  unfold rowN
  rw [List.length_map]
  have := List.length_filter_le (okN rs s a) (List.range rs.length)
  rwa [List.length_range] at this
theorem next_spec {rs s : List Int} (hl : rs.length ≤ 60) (hs : s.length = rs.length) : F__law_next [.list (rs.map .int), tD s] = some (.list ((nxS rs s).map tD)) := by
  have er := rng1 (show -(2 ^ 62) ≤ (rs.length : Int) by omega) (show (rs.length : Int) < 2 ^ 62 by omega)
  obtain ⟨δ', e, x, y, z, rfl⟩ := for_inv (g := (gNl 3)) (b := (sFor (fRng1 (dCons (dCall gLen (dCons (dVar 0) (dNil))) (dNil))) (gNl 4) (sIf (D3.tAnd (tBool (dOp gGt (dOp gIx (dVar 1) (dVar 3)) (dC (.int 0)))) (D3.tAnd (tBool (dOp gEq (dOp gIx (dVar 1) (dVar 4)) (dC (.int 0)))) (tBool (dOp gGe (dOp gIx (dVar 0) (dVar 4)) (dOp gIx (dVar 1) (dVar 3)))))) (sSeq (sSetl 5 (dUn gList (dVar 1))) (sSeq (sPut 5 (dVar 4) (dOp gIx (dVar 5) (dVar 3))) (sSeq (sPut 5 (dVar 3) (dC (.int 0))) (sApp 2 (dUn gTupL (dVar 5)))))) (sNil))))
    (fun i δ => ∃ x y z, δ = [some (.d (.list (rs.map .int))), some (.d (.tuple (s.map .int))), some (.d (.list (((List.range i).flatMap (rowN rs s)).map tD))), x, y, z]) (rngD 0 (rs.length : Int))
    [some (.d (.list (rs.map .int))), some (.d (.tuple (s.map .int))), some (.d (.list [])), none, none, none] ⟨none, none, none, rfl⟩ (by
      rintro a d δ hd ⟨x, y, z, rfl⟩
      obtain ⟨ha, rfl⟩ := rng_at hd
      have ha : a < rs.length := by omega
      have hF : ((List.range a).flatMap (rowN rs s)).length ≤ 10000 := by
        have h1 := flat_len (rowN rs s) rs.length (fun _ => rowN_len) (List.range a)
        rw [List.length_range] at h1
        have h2 : a * rs.length ≤ 60 * 60 := Nat.mul_le_mul (by omega) hl
        omega
      obtain ⟨y', z', e⟩ := row_spec hl hs ha _ hF y z
      have es : (List.range (a + 1)).flatMap (rowN rs s) = (List.range a).flatMap (rowN rs s) ++ rowN rs s a := by
        rw [List.range_succ, List.flatMap_append]
        simp
      rw [es]
      refine ⟨_, _, rfl, .inl ?_, ⟨some (.d (.int (a : Int))), y', z', rfl⟩⟩
      simp only [EV, reduceIte, Nat.reduceAdd, Nat.reduceLT, Nat.reduceLeDiff, Nat.reduceEqDiff, Int.reduceEq, Int.reduceLT, Int.reduceLE, List.length_map, er]
      exact e)
  rw [rng_len, Int.toNat_natCast] at e
  have fl : flats ((nxS rs s).map tD) = true := flats_all tD (fun s => by show flat (.tuple (s.map .int)) = true; rw [f_tup]; exact flats_ints s) _
  unfold F__law_next
  unfold nxS at fl ⊢
  rw [show tD s = PyData.tuple (s.map .int) from rfl]
  simp only [EV, reduceIte, Nat.reduceAdd, Nat.reduceLT, Nat.reduceLeDiff, Nat.reduceEqDiff, Int.reduceEq, Int.reduceLT, Int.reduceLE, List.length_map, er, zl0]
  rw [e]
  simp only [EV, reduceIte, Nat.reduceAdd, Nat.reduceLT, Nat.reduceLeDiff, Nat.reduceEqDiff, Int.reduceEq, Int.reduceLT, Int.reduceLE, fl]
def Sq (n : Nat) (t : List Int) : Prop := t.length = n ∧ ∀ x ∈ t, 0 ≤ x ∧ x ≤ 4
def allL : Nat → List (List Int)
  | 0 => [[]]
  | n + 1 => ([0, 1, 2, 3, 4] : List Int).flatMap fun x => (allL n).map (x :: ·)
theorem allL_len : ∀ n, (allL n).length = 5 ^ n
  | 0 => rfl
  | n + 1 => by
    unfold allL
    simp only [List.flatMap_cons, List.flatMap_nil, List.length_append, List.length_map, List.length_nil, allL_len n]
    omega
theorem allL_mem : ∀ {n : Nat} {t : List Int}, Sq n t → t ∈ allL n
  | 0, [], _ => List.mem_singleton.mpr rfl
  | 0, _ :: _, h => by have := h.1; simp at this
  | n + 1, [], h => by have := h.1; simp at this
  | n + 1, x :: t, h => by
    have hx := h.2 x List.mem_cons_self
    have ht : t ∈ allL n := allL_mem ⟨by have := h.1; simpa using this, fun y hy => h.2 y (List.mem_cons_of_mem _ hy)⟩
    unfold allL
    refine List.mem_flatMap.mpr ⟨x, ?_, List.mem_map.mpr ⟨t, ht, rfl⟩⟩
    have : x = 0 ∨ x = 1 ∨ x = 2 ∨ x = 3 ∨ x = 4 := by omega
    simpa using this
structure Ok2 (n : Nat) (p : List (List Int) × List (List Int)) : Prop where
  nd : p.1.Nodup
  sq : ∀ t ∈ p.1, Sq n t
  ln : p.2.length ≤ p.1.length
  ne : p.1 ≠ []
theorem Ok2.len {n : Nat} {p : List (List Int) × List (List Int)} (h : Ok2 n p) (hn : n ≤ 6) : p.1.length ≤ 15625 := by
  have := List.Nodup.length_le_of_subset h.nd (fun t ht => allL_mem (h.sq t ht))
  rw [allL_len] at this
  have h2 : 5 ^ n ≤ 5 ^ 6 := Nat.pow_le_pow_right (by decide) hn
  have h3 : 5 ^ 6 = 15625 := by decide
  omega
theorem Ok2.add {n : Nat} {p : List (List Int) × List (List Int)} {t : List Int} (h : Ok2 n p) (ht : Sq n t) : Ok2 n (Bf.addN p t) := by
  refine ⟨Bf.add_nd h.nd, fun x hx => ?_, ?_, fun z => ?_⟩
  · rcases Bf.addN_1.mp hx with w | rfl
    · exact h.sq x w
    · exact ht
  · unfold Bf.addN
    split
    · exact h.ln
    · have := h.ln
      simp only [List.length_append, List.length_cons, List.length_nil]
      omega
  · cases e : p.1 with
    | nil => exact h.ne e
    | cons a r =>
      have : a ∈ (Bf.addN p t).1 := Bf.addN_1.mpr (.inl (by rw [e]; exact List.mem_cons_self))
      rw [z] at this
      cases this
theorem Ok2.fold {n : Nat} : ∀ {ts : List (List Int)} {p : List (List Int) × List (List Int)}, Ok2 n p → (∀ t ∈ ts, Sq n t) → Ok2 n (ts.foldl Bf.addN p)
  | [], p, h, _ => h
  | t :: ts, p, h, ht => by
    rw [List.foldl_cons]
    exact Ok2.fold (h.add (ht t List.mem_cons_self)) fun x hx => ht x (List.mem_cons_of_mem _ hx)
theorem sq_at {n : Nat} {s : List Int} (h : Sq n s) (a : Nat) : 0 ≤ s.getD a 0 ∧ s.getD a 0 ≤ 4 := by
  by_cases z : a < s.length
  · exact h.2 _ (Com.getD_mem z)
  · rw [List.getD_eq_getElem?_getD, List.getElem?_eq_none (by omega)]
    decide
theorem sq_nx {rs s t : List Int} {n : Nat} (h : Sq n s) (ht : t ∈ nxS rs s) : Sq n t := by
  obtain ⟨a, b, _, _, _, _, _, rfl⟩ := nx_iff.mp ht
  refine ⟨by unfold mkN; rw [List.length_set, List.length_set]; exact h.1, fun x hx => ?_⟩
  unfold mkN at hx
  rcases List.mem_or_eq_of_mem_set hx with w | rfl
  · rcases List.mem_or_eq_of_mem_set w with w | rfl
    · exact h.2 x w
    · exact sq_at h a
  · decide
theorem sq_seat {rs : List Int} {qs : List (Int × Int)} (G : Gst rs qs) (hr : ∀ r ∈ rs, 1 ≤ r ∧ r ≤ 4) : Sq rs.length (seat rs qs) := by
  refine ⟨by unfold seat; rw [List.length_map, List.length_range], fun x hx => ?_⟩
  unfold seat at hx
  obtain ⟨r, h1, rfl⟩ := List.mem_map.mp hx
  have h1 := List.mem_range.mp h1
  cases e : keyI qs (r : Int) with
  | none => decide
  | some w =>
    obtain ⟨_, _, g3, g4⟩ := G.rg _ (key_mem e)
    have := hr _ (Com.getD_mem h1)
    simp only [Int.toNat_natCast] at g3 g4
    show 0 ≤ w ∧ w ≤ 4
    omega
def qTn (x : Option D) : Option D := match x with
  | some y => (asTk y).map fun k => dsT [k]
  | none => none
theorem v_tnew {fk : FE} {δ : DS} : dTNew fk δ = qTn (fk δ) := by
  unfold dTNew qTn
  cases fk δ <;> rfl
theorem tk_tD (s : List Int) : asTk (tD s) = some s := tk_ints s
theorem v_tnew_s {s : List Int} : qTn (some (tD s)) = some (dsT [s]) := by
  unfold qTn
  dsimp only
  rw [tk_tD]
  rfl
theorem n_tnotin {S : List (List Int)} {s : List Int} (h : S ≠ []) : gTNotin (tD s) (dsT S) = some (.bool (!decide (s ∈ S))) := by
  unfold gTNotin
  rw [asTs_ds, Option.bind_some, tk_tD, Option.bind_some, if_neg h]
def qTP (i : Nat) (x y : Option D) (δ : DS) : Option Oc := match x, y with
  | some x, some y => (asTs x).bind fun S => (asTk y).bind fun k => if S ≠ [] ∧ S.length < 1000000 then some (.nx (δ.set i (some (.d (dsT (putT S k)))))) else none
  | _, _ => none
theorem v_tput {i : Nat} {fk : FE} {δ : DS} : sTPut i fk δ = qTP i (dVar i δ) (fk δ) δ := by
  unfold sTPut qTP
  cases dVar i δ with
  | none => rfl
  | some x => cases fk δ <;> rfl
theorem v_tput_s {i : Nat} {S : List (List Int)} {s : List Int} {δ : DS} (h : S ≠ [] ∧ S.length < 1000000) : qTP i (some (dsT S)) (some (tD s)) δ = some (.nx (δ.set i (some (.d (dsT (putT S s)))))) := by
  unfold qTP
  dsimp only
  rw [asTs_ds, Option.bind_some, tk_tD, Option.bind_some, if_pos h]
def qMv (i j : Nat) (x : Option D) (δ : DS) : Option Oc := match x with
  | some d => some (.nx ((δ.set j none).set i (some (.d d))))
  | none => none
theorem v_mov {i j : Nat} {δ : DS} : sMov i j δ = if i < δ.length then qMv i j (dVar j δ) δ else none := by
  unfold sMov qMv
  split
  · cases dVar j δ <;> rfl
  · rfl
theorem v_mov_s {i j : Nat} {δ : DS} {d : D} : qMv i j (some d) δ = some (.nx ((δ.set j none).set i (some (.d d)))) := rfl
section
variable {rs : List Int} {qs : List (Int × Int)} {k : Int}
def stW (rs : List Int) (qs : List (Int × Int)) (k : Int) (m : Nat) (wave : List (List Int)) (p : List (List Int) × List (List Int)) (x y : Option U) : DS :=
  [some (.d (.list (rs.map .int))), some (.d (dcD qs)), some (.d (.int k)), some (.d (.list (wave.map tD))), some (.d (dsT p.1)), some (.d (.int (m : Int))), some (.d (.list (p.2.map tD))), x, y]
theorem inner_spec (hn : rs.length ≤ 6) {m : Nat} {wave : List (List Int)} {x : Option U} : ∀ (ts : List (List Int)) (p : List (List Int) × List (List Int)) (y : Option U), Ok2 rs.length p → (∀ t ∈ ts, Sq rs.length t) →
    ∃ y', forD (gNl 8) (sIf (tBool (dOp gTNotin (dVar 8) (dVar 4))) (sSeq (sTPut 4 (dVar 8)) (sApp 6 (dVar 8))) (sNil)) (ts.map tD) (stW rs qs k m wave p x y) = some (.nx (stW rs qs k m wave (ts.foldl Bf.addN p) x y'))
  | [], p, y, _, _ => ⟨y, rfl⟩
  | t :: ts, p, y, ok, ht => by
    have ok' := ok.add (ht t List.mem_cons_self)
    obtain ⟨y', e⟩ := inner_spec hn ts (Bf.addN p t) (some (.d (tD t))) ok' fun u hu => ht u (List.mem_cons_of_mem _ hu)
    refine ⟨y', ?_⟩
    rw [List.foldl_cons, ← e]
    have hlen := ok.len hn
    have hlen2 := ok.ln
    obtain ⟨S, B⟩ := p
    have sne : S ≠ [] := ok.ne
    have h1 : S ≠ [] ∧ S.length < 1000000 := ⟨sne, by simp only at hlen; omega⟩
    have h2 : (B.map tD).length < 1000000 := by rw [List.length_map]; simp only at hlen hlen2; omega
    have step : (sIf (tBool (dOp gTNotin (dVar 8) (dVar 4))) (sSeq (sTPut 4 (dVar 8)) (sApp 6 (dVar 8))) (sNil)) (stW rs qs k m wave (S, B) x (some (.d (tD t)))) = some (.nx (stW rs qs k m wave (Bf.addN (S, B) t) x (some (.d (tD t))))) := by
      unfold Bf.addN stW
      dsimp only
      by_cases c : t ∈ S
      · rw [if_pos c]
        simp only [EV, reduceIte, Nat.reduceAdd, Nat.reduceLT, Nat.reduceLeDiff, Nat.reduceEqDiff, Int.reduceEq, Int.reduceLT, Int.reduceLE, n_tnotin sne, decide_eq_true c]
      · rw [if_neg c]
        simp only [EV, reduceIte, Nat.reduceAdd, Nat.reduceLT, Nat.reduceLeDiff, Nat.reduceEqDiff, Int.reduceEq, Int.reduceLT, Int.reduceLE, n_tnotin sne, decide_eq_false c, v_tput, v_tput_s h1, h2]
        unfold putT
        rw [if_neg c, List.map_append]
        rfl
    rw [List.map_cons, forD]
    rw [show (gNl 8) (tD t) (stW rs qs k m wave (S, B) x y) = some (stW rs qs k m wave (S, B) x (some (.d (tD t)))) from rfl, Option.bind_some, step]
    rfl
theorem outer_spec (hn : rs.length ≤ 6) {m : Nat} {wave0 : List (List Int)} : ∀ (wave : List (List Int)) (p : List (List Int) × List (List Int)) (x y : Option U), Ok2 rs.length p → (∀ t ∈ wave, Sq rs.length t) →
    ∃ x' y', forD (gNl 7) (sFor (fLst (dCall F__law_next (dCons (dVar 0) (dCons (dVar 7) (dNil))))) (gNl 8) (sIf (tBool (dOp gTNotin (dVar 8) (dVar 4))) (sSeq (sTPut 4 (dVar 8)) (sApp 6 (dVar 8))) (sNil))) (wave.map tD) (stW rs qs k m wave0 p x y) = some (.nx (stW rs qs k m wave0 ((wave.flatMap (nxS rs)).foldl Bf.addN p) x' y'))
  | [], p, x, y, _, _ => ⟨x, y, rfl⟩
  | s :: wave, p, x, y, ok, hw => by
    have hs := hw s List.mem_cons_self
    have hts : ∀ t ∈ nxS rs s, Sq rs.length t := fun t ht => sq_nx hs ht
    obtain ⟨y1, e1⟩ := inner_spec (qs := qs) (k := k) (m := m) (wave := wave0) (x := some (.d (tD s))) hn (nxS rs s) p y ok hts
    obtain ⟨x', y', e2⟩ := outer_spec hn wave ((nxS rs s).foldl Bf.addN p) (some (.d (tD s))) y1 (ok.fold hts) fun t ht => hw t (List.mem_cons_of_mem _ ht)
    refine ⟨x', y', ?_⟩
    rw [List.flatMap_cons, List.foldl_append, ← e2]
    have step : (sFor (fLst (dCall F__law_next (dCons (dVar 0) (dCons (dVar 7) (dNil))))) (gNl 8) (sIf (tBool (dOp gTNotin (dVar 8) (dVar 4))) (sSeq (sTPut 4 (dVar 8)) (sApp 6 (dVar 8))) (sNil))) (stW rs qs k m wave0 p (some (.d (tD s))) y) = some (.nx (stW rs qs k m wave0 ((nxS rs s).foldl Bf.addN p) (some (.d (tD s))) y1)) := by
      rw [← e1]
      unfold stW
      simp only [EV, reduceIte, Nat.reduceAdd, Nat.reduceLT, Nat.reduceLeDiff, Nat.reduceEqDiff, Int.reduceEq, Int.reduceLT, Int.reduceLE, next_spec (show rs.length ≤ 60 by omega) hs.1]
    rw [List.map_cons, forD]
    rw [show (gNl 7) (tD s) (stW rs qs k m wave0 p x y) = some (stW rs qs k m wave0 p (some (.d (tD s))) y) from rfl, Option.bind_some, step]
    rfl
def stA (rs : List Int) (qs : List (Int × Int)) (k : Int) (m : Nat) (wave S : List (List Int)) (x y : Option U) : DS :=
  [some (.d (.list (rs.map .int))), some (.d (dcD qs)), some (.d (.int k)), some (.d (.list (wave.map tD))), some (.d (dsT S)), some (.d (.int (m : Int))), none, x, y]
theorem ly_tD (s : List Int) : ly 2 (tD s) := ly_tup (lys_map _ (fun _ => ly_int) _)
theorem ne_tD (l : List (List Int)) : gNe (.list (l.map tD)) (.list []) = some (.bool (!l.isEmpty)) := by
  have := ne_nil (l := l.map tD) (ly_le (ly_list (n := 2) (lys_map _ ly_tD _)) (by decide))
  rw [List.isEmpty_map] at this
  exact this
theorem flat_tD (s : List Int) : flat (tD s) = true := by
  show flat (.tuple (s.map .int)) = true
  rw [f_tup]
  exact flats_ints s
theorem test_spec {m : Nat} {wave S : List (List Int)} {x y : Option U} : (tBool (dOp gNe (dVar 3) (dLst (dNil)))) (stA rs qs k m wave S x y) = some (!wave.isEmpty) := by
  unfold stA
  simp only [EV, reduceIte, Nat.reduceAdd, Nat.reduceLT, Nat.reduceLeDiff, Nat.reduceEqDiff, Int.reduceEq, Int.reduceLT, Int.reduceLE, zl0, ne_tD]
theorem comp_spec (hn : rs.length ≤ 6) {m : Nat} {wave S : List (List Int)} {x y : Option U} (hw : ∀ t ∈ wave, Sq rs.length t) :
    compD (gNl 0) (tBool (dCall F__law_open (dCons (dVar 1) (dCons (dVar 0) (dCons (dVar 2) (dNil)))))) (dFlat (dVar 0)) (capD 1 [0, 2] (stA rs qs k m wave S x y)) (wave.map tD) = some ((wave.filter (opS rs k)).map tD) :=
  cFil tD (opS rs k) tD wave fun t ht => ⟨[some (.d (tD t)), some (.d (.list (rs.map .int))), some (.d (.int k))], rfl, by simp only [EV, reduceIte, Nat.reduceAdd, Nat.reduceLT, Nat.reduceLeDiff, Nat.reduceEqDiff, Int.reduceEq, Int.reduceLT, Int.reduceLE, open_spec (show rs.length ≤ 60 by omega) (hw t ht).1], fun _ => by simp only [EV, reduceIte, Nat.reduceAdd, Nat.reduceLT, Nat.reduceLeDiff, Nat.reduceEqDiff, Int.reduceEq, Int.reduceLT, Int.reduceLE, flat_tD]⟩
theorem body_open (hn : rs.length ≤ 6) {m : Nat} {wave S : List (List Int)} {x y : Option U} (hw : ∀ t ∈ wave, Sq rs.length t) (hl : wave.length ≤ 15625) (h : ∃ t ∈ wave, opS rs k t = true) :
    (sSeq (sIf (tBool (dOp gNe (dComp (fLst (dVar 3)) (gNl 0) (tBool (dCall F__law_open (dCons (dVar 1) (dCons (dVar 0) (dCons (dVar 2) (dNil)))))) (dFlat (dVar 0)) 1 [0, 2]) (dLst (dNil)))) (sRet (dFlat (dVar 5))) (sNil)) (sSeq (sSetl 6 (dLst (dNil))) (sSeq (sFor (fLst (dVar 3)) (gNl 7) (sFor (fLst (dCall F__law_next (dCons (dVar 0) (dCons (dVar 7) (dNil))))) (gNl 8) (sIf (tBool (dOp gTNotin (dVar 8) (dVar 4))) (sSeq (sTPut 4 (dVar 8)) (sApp 6 (dVar 8))) (sNil)))) (sSeq (sMov 3 6) (sSetl 5 (dOp gAdd (dVar 5) (dC (.int 1)))))))) (stA rs qs k m wave S x y) = some (.rt (.int (m : Int))) := by
  have ec := comp_spec (qs := qs) (k := k) (m := m) (S := S) (x := x) (y := y) hn hw
  have hne : (wave.filter (opS rs k)).isEmpty = false := by
    obtain ⟨t, h1, h2⟩ := h
    exact List.isEmpty_eq_false_iff_exists_mem.mpr ⟨t, List.mem_filter.mpr ⟨h1, h2⟩⟩
  have el : (wave.map tD).length ≤ 100000 := by rw [List.length_map]; omega
  have en := ne_tD (wave.filter (opS rs k))
  rw [hne] at en
  unfold stA at ec ⊢
  simp only [EV, reduceIte, Nat.reduceAdd, Nat.reduceLT, Nat.reduceLeDiff, Nat.reduceEqDiff, Int.reduceEq, Int.reduceLT, Int.reduceLE, el, ec, zl0, en]
theorem body_shut (hn : rs.length ≤ 6) {m : Nat} {wave S : List (List Int)} {x y : Option U} (hw : ∀ t ∈ wave, Sq rs.length t) (hl : wave.length ≤ 15625) (h : ∀ t ∈ wave, opS rs k t = false) (ok : Ok2 rs.length (S, [])) :
    ∃ x' y', (sSeq (sIf (tBool (dOp gNe (dComp (fLst (dVar 3)) (gNl 0) (tBool (dCall F__law_open (dCons (dVar 1) (dCons (dVar 0) (dCons (dVar 2) (dNil)))))) (dFlat (dVar 0)) 1 [0, 2]) (dLst (dNil)))) (sRet (dFlat (dVar 5))) (sNil)) (sSeq (sSetl 6 (dLst (dNil))) (sSeq (sFor (fLst (dVar 3)) (gNl 7) (sFor (fLst (dCall F__law_next (dCons (dVar 0) (dCons (dVar 7) (dNil))))) (gNl 8) (sIf (tBool (dOp gTNotin (dVar 8) (dVar 4))) (sSeq (sTPut 4 (dVar 8)) (sApp 6 (dVar 8))) (sNil)))) (sSeq (sMov 3 6) (sSetl 5 (dOp gAdd (dVar 5) (dC (.int 1)))))))) (stA rs qs k m wave S x y) = some (.nx (stA rs qs k (m + 1) (Bf.expd (nxS rs) wave S).2 (Bf.expd (nxS rs) wave S).1 x' y')) := by
  have ec := comp_spec (qs := qs) (k := k) (m := m) (S := S) (x := x) (y := y) hn hw
  have hne : wave.filter (opS rs k) = [] := List.filter_eq_nil_iff.mpr fun t ht => by rw [h t ht]; decide
  have el : (wave.map tD).length ≤ 100000 := by rw [List.length_map]; omega
  have en := ne_tD []
  rw [hne] at ec
  obtain ⟨x', y', e⟩ := outer_spec (qs := qs) (k := k) (m := m) (wave0 := wave) hn wave (S, []) x y ok hw
  refine ⟨x', y', ?_⟩
  unfold stA at ec ⊢
  unfold stW at e
  simp only [List.map_nil, List.isEmpty_nil] at e ec en
  simp only [EV, reduceIte, Nat.reduceAdd, Nat.reduceLT, Nat.reduceLeDiff, Nat.reduceEqDiff, Int.reduceEq, Int.reduceLT, Int.reduceLE, el, ec, zl0, en]
  rw [e]
  simp only [EV, reduceIte, Nat.reduceAdd, Nat.reduceLT, Nat.reduceLeDiff, Nat.reduceEqDiff, Int.reduceEq, Int.reduceLT, Int.reduceLE, v_mov, v_mov_s]
  unfold Bf.expd
  rfl
theorem ok_expd {wave S : List (List Int)} (ok : Ok2 rs.length (S, [])) (hw : ∀ t ∈ wave, Sq rs.length t) :
    Ok2 rs.length ((Bf.expd (nxS rs) wave S).1, []) ∧ (∀ t ∈ (Bf.expd (nxS rs) wave S).2, Sq rs.length t) ∧ (Bf.expd (nxS rs) wave S).2.length ≤ (Bf.expd (nxS rs) wave S).1.length ∧ (Bf.expd (nxS rs) wave S).1.length = S.length + (Bf.expd (nxS rs) wave S).2.length := by
  have hts : ∀ t ∈ wave.flatMap (nxS rs), Sq rs.length t := fun t ht => by
    obtain ⟨s, h1, h2⟩ := List.mem_flatMap.mp ht
    exact sq_nx (hw s h1) h2
  have f := Ok2.fold ok hts
  have ln := Bf.fold_len (ts := wave.flatMap (nxS rs)) (p := (S, []))
  refine ⟨⟨f.nd, f.sq, Nat.zero_le _, f.ne⟩, fun t ht => ?_, f.ln, ?_⟩
  · have := (Bf.fold_2 (ts := wave.flatMap (nxS rs)) (p := (S, [])) (x := t) (fun _ h => by cases h)).mp ht
    rcases this with w | w
    · cases w
    · exact hts t w.1
  · unfold Bf.expd
    simp only [List.length_nil] at ln
    omega
theorem wl_in (G : Gst rs qs) (hn : rs.length ≤ 6) {r : List Int} (hc : Ch rs qs k r) : ∀ (d m : Nat) (wave S : List (List Int)) (x y : Option U), m + d = r.length → Bf.Inv (nxS rs) (seat rs qs) m wave S → Ok2 rs.length (S, []) → (∀ t ∈ wave, Sq rs.length t) → wave.length ≤ S.length →
    ∃ n, whileD (tBool (dOp gNe (dVar 3) (dLst (dNil)))) (sSeq (sIf (tBool (dOp gNe (dComp (fLst (dVar 3)) (gNl 0) (tBool (dCall F__law_open (dCons (dVar 1) (dCons (dVar 0) (dCons (dVar 2) (dNil)))))) (dFlat (dVar 0)) 1 [0, 2]) (dLst (dNil)))) (sRet (dFlat (dVar 5))) (sNil)) (sSeq (sSetl 6 (dLst (dNil))) (sSeq (sFor (fLst (dVar 3)) (gNl 7) (sFor (fLst (dCall F__law_next (dCons (dVar 0) (dCons (dVar 7) (dNil))))) (gNl 8) (sIf (tBool (dOp gTNotin (dVar 8) (dVar 4))) (sSeq (sTPut 4 (dVar 8)) (sApp 6 (dVar 8))) (sNil)))) (sSeq (sMov 3 6) (sSetl 5 (dOp gAdd (dVar 5) (dC (.int 1)))))))) n (stA rs qs k m wave S x y) = some (.rt (.int (r.length : Int))) := by
  intro d
  obtain ⟨t, t1, t2⟩ := high G hc
  have notyet : ∀ j u, j < r.length → Rch rs qs j u → opS rs k u = false := fun j u hj hu => unch_op (low G hc j hj u hu)
  induction d with
  | zero =>
    intro m wave S x y hm I ok hw hl
    have hl2 := ok.len hn
    have em : m = r.length := by omega
    subst em
    have tw : t ∈ wave := (I.wv t).mpr ⟨t1, fun j hj hr => by rw [notyet j t hj hr] at t2; cases t2⟩
    refine ⟨1, ?_⟩
    rw [whileD, test_spec, Option.bind_some, body_open hn hw (by simp only at hl2; omega) ⟨t, tw, t2⟩]
    rw [show wave.isEmpty = false from List.isEmpty_eq_false_iff_exists_mem.mpr ⟨t, tw⟩]
    rfl
  | succ d ih =>
    intro m wave S x y hm I ok hw hl
    have hl2 := ok.len hn
    have shut : ∀ u ∈ wave, opS rs k u = false := fun u hu => notyet m u (by omega) ((I.wv u).mp hu).1
    have wne : wave.isEmpty = false := by
      cases wave with
      | cons => rfl
      | nil =>
        obtain ⟨j, hj, hr⟩ := I.empty (r.length - m) t (by rw [show m + (r.length - m) = r.length by omega]; exact t1)
        rw [notyet j t (by omega) hr] at t2
        cases t2
    obtain ⟨x', y', e⟩ := body_shut (qs := qs) (m := m) (x := x) (y := y) hn hw (by simp only at hl2; omega) shut ok
    obtain ⟨o1, o2, o3, _⟩ := ok_expd ok hw
    obtain ⟨n, e2⟩ := ih (m + 1) _ _ x' y' (by omega) I.step o1 o2 o3
    refine ⟨n + 1, ?_⟩
    rw [whileD, test_spec, Option.bind_some, e, wne]
    exact e2
theorem wl_dead (G : Gst rs qs) (hn : rs.length ≤ 6) (hd : Dead rs qs k) : ∀ (d m : Nat) (wave S : List (List Int)) (x y : Option U), 15625 < S.length + d → Bf.Inv (nxS rs) (seat rs qs) m wave S → Ok2 rs.length (S, []) → (∀ t ∈ wave, Sq rs.length t) → wave.length ≤ S.length →
    ∃ n δ', whileD (tBool (dOp gNe (dVar 3) (dLst (dNil)))) (sSeq (sIf (tBool (dOp gNe (dComp (fLst (dVar 3)) (gNl 0) (tBool (dCall F__law_open (dCons (dVar 1) (dCons (dVar 0) (dCons (dVar 2) (dNil)))))) (dFlat (dVar 0)) 1 [0, 2]) (dLst (dNil)))) (sRet (dFlat (dVar 5))) (sNil)) (sSeq (sSetl 6 (dLst (dNil))) (sSeq (sFor (fLst (dVar 3)) (gNl 7) (sFor (fLst (dCall F__law_next (dCons (dVar 0) (dCons (dVar 7) (dNil))))) (gNl 8) (sIf (tBool (dOp gTNotin (dVar 8) (dVar 4))) (sSeq (sTPut 4 (dVar 8)) (sApp 6 (dVar 8))) (sNil)))) (sSeq (sMov 3 6) (sSetl 5 (dOp gAdd (dVar 5) (dC (.int 1)))))))) n (stA rs qs k m wave S x y) = some (.nx δ') := by
  have never : ∀ j u, Rch rs qs j u → opS rs k u = false := fun j u hu => unch_op (dead G hd j u hu)
  intro d
  induction d with
  | zero =>
    intro m wave S x y hm I ok hw hl
    have hl2 := ok.len hn
    simp only at hl2
    omega
  | succ d ih =>
    intro m wave S x y hm I ok hw hl
    have hl2 := ok.len hn
    cases hwe : wave.isEmpty with
    | true =>
      refine ⟨1, stA rs qs k m wave S x y, ?_⟩
      rw [whileD, test_spec, Option.bind_some, hwe]
      rfl
    | false =>
      have shut : ∀ u ∈ wave, opS rs k u = false := fun u hu => never m u ((I.wv u).mp hu).1
      obtain ⟨x', y', e⟩ := body_shut (qs := qs) (m := m) (x := x) (y := y) hn hw (by simp only at hl2; omega) shut ok
      obtain ⟨o1, o2, o3, o4⟩ := ok_expd ok hw
      cases hb : (Bf.expd (nxS rs) wave S).2 with
      | nil =>
        have e2 : whileD (tBool (dOp gNe (dVar 3) (dLst (dNil)))) (sSeq (sIf (tBool (dOp gNe (dComp (fLst (dVar 3)) (gNl 0) (tBool (dCall F__law_open (dCons (dVar 1) (dCons (dVar 0) (dCons (dVar 2) (dNil)))))) (dFlat (dVar 0)) 1 [0, 2]) (dLst (dNil)))) (sRet (dFlat (dVar 5))) (sNil)) (sSeq (sSetl 6 (dLst (dNil))) (sSeq (sFor (fLst (dVar 3)) (gNl 7) (sFor (fLst (dCall F__law_next (dCons (dVar 0) (dCons (dVar 7) (dNil))))) (gNl 8) (sIf (tBool (dOp gTNotin (dVar 8) (dVar 4))) (sSeq (sTPut 4 (dVar 8)) (sApp 6 (dVar 8))) (sNil)))) (sSeq (sMov 3 6) (sSetl 5 (dOp gAdd (dVar 5) (dC (.int 1)))))))) 1 (stA rs qs k (m + 1) [] (Bf.expd (nxS rs) wave S).1 x' y') = some (.nx (stA rs qs k (m + 1) [] (Bf.expd (nxS rs) wave S).1 x' y')) := by
          rw [whileD, test_spec, Option.bind_some]
          rfl
        refine ⟨1 + 1, stA rs qs k (m + 1) [] (Bf.expd (nxS rs) wave S).1 x' y', ?_⟩
        rw [whileD, test_spec, Option.bind_some, e, hwe, hb]
        exact e2
      | cons b bs =>
        have : 15625 < (Bf.expd (nxS rs) wave S).1.length + d := by
          rw [hb] at o4
          simp only [List.length_cons] at o4
          omega
        obtain ⟨n, δ', e2⟩ := ih (m + 1) _ _ x' y' this I.step o1 o2 o3
        refine ⟨n + 1, δ', ?_⟩
        rw [whileD, test_spec, Option.bind_some, e, hwe]
        exact e2
theorem ok_start (G : Gst rs qs) (hr : ∀ r ∈ rs, 1 ≤ r ∧ r ≤ 4) : Ok2 rs.length ([seat rs qs], []) :=
  ⟨by simp, fun t ht => by rw [List.mem_singleton.mp ht]; exact sq_seat G hr, Nat.zero_le _, by simp⟩
theorem waves_in (G : Gst rs qs) (hn : rs.length ≤ 6) (hr : ∀ r ∈ rs, 1 ≤ r ∧ r ≤ 4) {r : List Int} (hc : Ch rs qs k r) : F__law_waves [.list (rs.map .int), dcD qs, .int k] = some (.int (r.length : Int)) := by
  obtain ⟨n, e⟩ := wl_in G hn hc r.length 0 [seat rs qs] [seat rs qs] none none (by omega) Bf.Inv.start (ok_start G hr) (fun t ht => by rw [List.mem_singleton.mp ht]; exact sq_seat G hr) (Nat.le_refl _)
  have e2 := sWhile_of e
  unfold stA at e2
  rw [List.map_cons, List.map_nil] at e2
  unfold F__law_waves
  simp only [EV, reduceIte, Nat.reduceAdd, Nat.reduceLT, Nat.reduceLeDiff, Nat.reduceEqDiff, Int.reduceEq, Int.reduceLT, Int.reduceLE, seats_spec (show rs.length ≤ 60 by omega), zl1, at0, v_tnew, v_tnew_s]
  rw [show ((0 : Nat) : Int) = 0 from rfl] at e2
  rw [e2]
  simp only [EV, reduceIte, Nat.reduceAdd, Nat.reduceLT, Nat.reduceLeDiff, Nat.reduceEqDiff, Int.reduceEq, Int.reduceLT, Int.reduceLE]
theorem waves_dead (G : Gst rs qs) (hn : rs.length ≤ 6) (hr : ∀ r ∈ rs, 1 ≤ r ∧ r ≤ 4) (hd : Dead rs qs k) : F__law_waves [.list (rs.map .int), dcD qs, .int k] = some .none := by
  obtain ⟨n, δ', e⟩ := wl_dead G hn hd 15625 0 [seat rs qs] [seat rs qs] none none (by simp) Bf.Inv.start (ok_start G hr) (fun t ht => by rw [List.mem_singleton.mp ht]; exact sq_seat G hr) (Nat.le_refl _)
  have e2 := sWhile_of e
  unfold stA at e2
  rw [List.map_cons, List.map_nil] at e2
  unfold F__law_waves
  simp only [EV, reduceIte, Nat.reduceAdd, Nat.reduceLT, Nat.reduceLeDiff, Nat.reduceEqDiff, Int.reduceEq, Int.reduceLT, Int.reduceLE, seats_spec (show rs.length ≤ 60 by omega), zl1, at0, v_tnew, v_tnew_s]
  rw [show ((0 : Nat) : Int) = 0 from rfl] at e2
  rw [e2]
  simp only [EV, reduceIte, Nat.reduceAdd, Nat.reduceLT, Nat.reduceLeDiff, Nat.reduceEqDiff, Int.reduceEq, Int.reduceLT, Int.reduceLE]
end
theorem ch_len {rs : List Int} {qs : List (Int × Int)} {f : Int} {r : List Int} (G : Gst rs qs) (h : Ch rs qs f r) : 1 ≤ f → (r.length : Int) < f := by
  induction h with
  | stop c => intro hf; simp; omega
  | step c c2 hr ih =>
    intro hf
    have := ih (lw_pos G c2)
    simp only [List.length_cons]
    omega
theorem ly_s {s : Str} (h : PyData.strOk s = true) : ly 1 (.str s) := ⟨by rw [PyData.canLay0]; exact h, by simp [PyData.depth]⟩
theorem ne_in : gNe (.str "in") (.str "in") = some (.bool false) := ne_self (ly_le (ly_s (by decide +kernel)) (by decide))
theorem ne_full : gNe (.str "full") (.str "full") = some (.bool false) := ne_self (ly_le (ly_s (by decide +kernel)) (by decide))
theorem told {rs : List Int} {qs : List (Int × Int)} {k : Nat} (G : Gst rs qs) (hn : rs.length ≤ 6) (hr : ∀ r ∈ rs, 1 ≤ r ∧ r ≤ 4) (h1 : 1 ≤ k) (h2 : k ≤ 100) :
    (∃ L, F_admitted [.list (rs.map .int), dcD qs, .int (k : Int)] = some (.tuple [.str "full", .int L]) ∧ F__law_waves [.list (rs.map .int), dcD qs, .int (k : Int)] = some .none) ∨
    ∃ (n : Nat) (ms : List D) (g f : D), F_admitted [.list (rs.map .int), dcD qs, .int (k : Int)] = some (.tuple [.str "in", .list ms, g, f]) ∧ ms.length = n ∧ F__law_waves [.list (rs.map .int), dcD qs, .int (k : Int)] = some (.int (n : Int)) := by
  rcases ch_or G k (k : Int) (by omega) (by omega) with ⟨r, hc⟩ | hd
  · right
    obtain ⟨pre, l, he, hne⟩ := ch_last hc
    obtain ⟨g0, gs, hg⟩ : ∃ g0 gs, frR rs qs l = g0 :: gs := by
      cases e : frR rs qs l with
      | nil => exact absurd e hne
      | cons a b => exact ⟨a, b, rfl⟩
    have hlen : ((k : Int) :: r).length ≤ 1000 := by
      have := ch_len G hc (by omega)
      simp only [List.length_cons]
      omega
    refine ⟨r.length, _, _, _, admitted_in G (by omega) (by omega) (by omega) hc he hlen hg, ?_, waves_in G hn hr hc⟩
    rw [List.length_map]
    refine mvF_len _ _ ?_
    rw [List.length_reverse, List.length_zip]
    simp only [List.length_cons]
    omega
  · left
    obtain ⟨L0, g1, g2, g3⟩ := dead_level G hd (by omega)
    obtain ⟨L, hL⟩ : ∃ L, lvM rs qs k = some L := by
      cases e : lvM rs qs k with
      | none => rw [lvM_none e L0 g1 g2] at g3; cases g3
      | some L => exact ⟨L, rfl⟩
    exact ⟨L, admitted_full G (by omega) (by omega) (by omega) hd hL, waves_dead G hn hr hd⟩
theorem law_true (ns : List Int) (h : ns.length ≤ 63) : F_law [.list (ns.map .int)] = some (.bool true) := by
  obtain ⟨rs0, e1, l1, hr0⟩ := rooms_spec (ns := ns) (a := 0) (m := 5) (by decide) (by decide) (by decide)
  have p0 := partF_range ns 0 2 (m := 4) (by decide)
  have s0 := part_spec (ns := ns) (i := 0) (k := 2) (m := 4) (by decide) (by decide) (by decide) (by decide)
  generalize partF ns 0 2 4 = x0 at p0 s0
  have p1 := partF_range ns 4 0 (m := 4) (by decide)
  have s1 := part_spec (ns := ns) (i := 4) (k := 0) (m := 4) (by decide) (by decide) (by decide) (by decide)
  obtain ⟨k0, hk0⟩ : ∃ k : Nat, 1 + partF ns 4 0 4 = (k : Int) := ⟨(1 + partF ns 4 0 4).toNat, by omega⟩
  have b0 : 1 ≤ k0 ∧ k0 ≤ 100 := by omega
  have hr : ∀ r ∈ (1 + x0) :: rs0, 1 ≤ r ∧ r ≤ 4 := fun r h => by
    rcases List.mem_cons.mp h with rfl | h
    · omega
    · exact hr0 r h
  have hn : ((1 + x0) :: rs0).length ≤ 6 := by simp only [List.length_cons]; omega
  have em : PyData.int (1 + x0) :: rs0.map PyData.int = ((1 + x0) :: rs0).map PyData.int := rfl
  have ec : [PyData.int (1 + x0)].length + (rs0.map PyData.int).length ≤ 1000000 := by rw [List.length_map]; simp only [List.length_cons, List.length_nil]; omega
  have ec' : gCat (.list [.int (1 + x0)]) (.list (rs0.map .int)) = some (.list (((1 + x0) :: rs0).map .int)) := by rw [n_cat, if_pos ec]; rfl
  generalize (1 + x0) :: rs0 = rs at hr hn ec'
  obtain ⟨qs, e2, G⟩ := small_spec (ns := ns) (a := 2) (rs := rs) (by decide) (by decide) hr (by omega)
  obtain ⟨δ', e, x, y, z, rfl⟩ := for_inv (g := (gNl 3)) (b := (sSeq (sSetl 4 (dCall F__law_waves (dCons (dVar 1) (dCons (dVar 2) (dCons (dVar 3) (dNil)))))) (sSeq (sSetl 5 (dCall F_admitted (dCons (dVar 1) (dCons (dVar 2) (dCons (dVar 3) (dNil)))))) (sSeq (sIf (D3.tAnd (tBool (dUn gIsN (dVar 4))) (tBool (dOp gNe (dOp gIx (dVar 5) (dC (.int 0))) (dC (.str "full"))))) (sRet (dC (.bool false))) (sNil)) (sIf (D3.tAnd (tBool (dUn gNotN (dVar 4))) (D3.tOr (tBool (dOp gNe (dOp gIx (dVar 5) (dC (.int 0))) (dC (.str "in")))) (tBool (dOp gNe (dCall gLen (dCons (dOp gIx (dVar 5) (dC (.int 1))) (dNil))) (dVar 4))))) (sRet (dC (.bool false))) (sNil))))))
    (fun i δ => ∃ x y z, δ = [some (.d (.list (ns.map .int))), some (.d (.list (rs.map .int))), some (.d (dcD qs)), x, y, z]) [.int (k0 : Int), .int 4]
    [some (.d (.list (ns.map .int))), some (.d (.list (rs.map .int))), some (.d (dcD qs)), none, none, none] ⟨none, none, none, rfl⟩ (by
      rintro i d δ hd ⟨x, y, z, rfl⟩
      obtain ⟨k, rfl, hk⟩ : ∃ k : Nat, d = .int (k : Int) ∧ 1 ≤ k ∧ k ≤ 100 := by
        have hm := List.mem_of_getElem? hd
        simp only [List.mem_cons, List.not_mem_nil, or_false] at hm
        rcases hm with rfl | rfl
        · exact ⟨k0, rfl, b0⟩
        · exact ⟨4, rfl, by decide⟩
      rcases told (k := k) G hn hr hk.1 hk.2 with ⟨L, ad, wv⟩ | ⟨n, ms, g, f, ad, hm, wv⟩
      · have i1 : isNone PyData.none = true := rfl
        refine ⟨_, [some (.d (.list (ns.map .int))), some (.d (.list (rs.map .int))), some (.d (dcD qs)), some (.d (.int (k : Int))), some (.d .none), some (.d (.tuple [.str "full", .int L]))], rfl, .inl ?_, ⟨_, _, _, rfl⟩⟩
        simp only [EV, reduceIte, Nat.reduceAdd, Nat.reduceLT, Nat.reduceLeDiff, Nat.reduceEqDiff, Int.reduceEq, Int.reduceLT, Int.reduceLE, wv, ad, i1, at0, ne_full]
      · have i1 : isNone (PyData.int (n : Int)) = false := rfl
        have nn : gNe (.int (ms.length : Int)) (.int (n : Int)) = some (.bool false) := by rw [n_neI, hm]; simp
        refine ⟨_, [some (.d (.list (ns.map .int))), some (.d (.list (rs.map .int))), some (.d (dcD qs)), some (.d (.int (k : Int))), some (.d (.int (n : Int))), some (.d (.tuple [.str "in", .list ms, g, f]))], rfl, .inl ?_, ⟨_, _, _, rfl⟩⟩
        simp only [EV, reduceIte, Nat.reduceAdd, Nat.reduceLT, Nat.reduceLeDiff, Nat.reduceEqDiff, Int.reduceEq, Int.reduceLT, Int.reduceLE, wv, ad, i1, at0, at1, ne_in, nn])
  unfold F_law
  simp only [EV, reduceIte, Nat.reduceAdd, Nat.reduceLT, Nat.reduceLeDiff, Nat.reduceEqDiff, Int.reduceEq, Int.reduceLT, Int.reduceLE, e1, s0, zl1, ec', e2, s1, hk0, zl2]
  rw [e]
  simp only [EV, reduceIte, Nat.reduceAdd, Nat.reduceLT, Nat.reduceLeDiff, Nat.reduceEqDiff, Int.reduceEq, Int.reduceLT, Int.reduceLE]
end K63
namespace K63
open PySem PySem.Spec PyProof.Rows L2 My D3 XK
def top (i : Nat) : Stmt := PySem.Challenge.pw_nightbook_k63_whole_fewest_moves.main.body.getD i (.Pass ⟨0, 0, 0, 0⟩)
section
seal PE PT PW PA PS PSs PG PGs PI PO PTs
variable {P : Program} {w : World} {K : PySem.W.Frag} {mg : Str → Option Value} {base : Heap} {n : Nat}
theorem ok_free_from (D : Dg K mg "free_from" (top 1) ["rooms", "guests", "kind"]) (B : Bl mg) : Has P w K mg base (n + 1) "free_from" ["rooms", "guests", "kind"] (spD K F_free_from) := by
  have sc : FnScope ["rooms", "guests", "kind"] ["rooms", "guests", "kind"] (defScope (top 1)) := ⟨rfl, rfl, rfl, by decide +kernel, rfl, by decide +kernel, by decide +kernel⟩
  exact dg_ok (fl := [.A, .A, .A]) D sc (by decide) (by decide) fun f cdv A outer s H E hr => dss_one (ds_ret (c_FC_R (de_comp (L := []) (fl' := [.A, .A, .A, .A]) rfl ["room", "own"] ["kind", "guests"] [2, 1] (di_enum (c_A_B (de_varA 0 rfl)) (by rfl) B.enumerate_) (fun _ _ _ _ _ => dg_tup rfl (dgs_cons (dg_name (i := 0) rfl (show (["room", "own", "kind", "guests"] : List Str).Nodup by decide +kernel) rfl (by first | exact Or.inl rfl | exact Or.inr rfl)) (dgs_cons (dg_name (i := 1) rfl (show (["room", "own", "kind", "guests"] : List Str).Nodup by decide +kernel) rfl (by first | exact Or.inl rfl | exact Or.inr rfl)) (dgs_nil)))) (fun _ _ _ _ _ => pts_one (dt_w (dw_and (dt_cmp op_ge b_ge (c_A_P (de_varA 1 rfl)) (c_A_P (de_varA 2 rfl)) (nomark _)) (dw_and1 (dt_cmp (op_notinK hr.units) b_notinK (c_A_P (de_varA 0 rfl)) (c_A_P (de_varA 3 rfl)) (by with_unfolding_all rfl)))))) (fun _ _ _ _ _ => c_FC_C (c_flat (c_A_P (de_varA 0 rfl)))))))
theorem ok_least_wished (D : Dg K mg "least_wished" (top 2) ["rooms", "guests", "kind"]) (B : Bl mg) : Has P w K mg base (n + 1) "least_wished" ["rooms", "guests", "kind"] (spD K F_least_wished) := by
  have sc : FnScope ["rooms", "guests", "kind"] ["rooms", "guests", "kind"] (defScope (top 2)) := ⟨rfl, rfl, rfl, by decide +kernel, rfl, by decide +kernel, by decide +kernel⟩
  exact dg_ok (fl := [.A, .A, .A]) D sc (by decide) (by decide) fun f cdv A outer s H E hr => dss_one (ds_ret (c_FC_R (de_minD rfl (db_cons rfl (c_FC_P (de_compK (fl' := [.A, .A, .A, .A]) rfl ["room"] ["guests", "kind", "rooms"] [1, 2, 0] (c_A_P (de_varA 1 rfl)) (fun _ _ _ _ _ => dg_name (i := 0) rfl (show (["room", "guests", "kind", "rooms"] : List Str).Nodup by decide +kernel) rfl (by first | exact Or.inl rfl | exact Or.inr rfl)) (fun _ _ _ _ _ => pts_one (dt_cmp op_ge b_ge (c_A_P (de_ix (c_A_B (de_varA 3 rfl)) (c_A_P (de_varA 0 rfl)) (fun _ _ => rfl))) (c_A_P (de_varA 2 rfl)) (nomark _))) (fun _ _ _ _ _ => c_FC_C (de_kget (hu1 hr.units) (c_A_P (de_varA 1 rfl)) (c_A_P (de_varA 0 rfl)) (fun _ _ => rfl))))) (db_nil)) (c_A_P (de_varA 2 rfl)) (by rfl) B.min_)))
theorem ok_falls_of (D : Dg K mg "falls_of" (top 3) ["rooms", "guests", "kind"]) (B : Bl mg) (hfree_from : Has P w K mg base n "free_from" ["rooms", "guests", "kind"] (spD K F_free_from)) (hleast_wished : Has P w K mg base n "least_wished" ["rooms", "guests", "kind"] (spD K F_least_wished)) : Has P w K mg base (n + 1) "falls_of" ["rooms", "guests", "kind"] (spD K F_falls_of) := by
  have sc : FnScope ["rooms", "guests", "kind", "falls", "least"] ["rooms", "guests", "kind"] (defScope (top 3)) := ⟨rfl, rfl, rfl, by decide +kernel, rfl, by decide +kernel, by decide +kernel⟩
  exact dg_ok (fl := [.A, .A, .A, .O, .A]) D sc (by decide) (by decide) fun f cdv A outer s H E hr => dss_cons (ds_setO (i := 3) rfl sc.nd rfl (by first | exact Or.inl rfl | exact Or.inr rfl) (de_lstA (db_cons rfl (de_varA 2 rfl) (db_nil))))
    (dss_cons (ds_while PassesOwn.never (dt_cmp (op_eqD hr.units) b_eq (c_C_P (de_call hfree_from hr (db_cons rfl (c_A_P (de_varA 0 rfl)) (db_cons rfl (c_A_P (de_varA 1 rfl)) (db_cons rfl (c_A_P (de_ix (de_var 3) (c_FC_P (de_neg (c_FC_P (de_int)))) (fun _ _ => rfl))) (db_nil)))))) (c_FC_P (de_lstC (db_nil))) (nomark _)) (dss_cons (ds_setA (i := 4) rfl sc.nd rfl (by first | exact Or.inl rfl | exact Or.inr rfl) (c_C_A (de_call hleast_wished hr (db_cons rfl (c_A_P (de_varA 0 rfl)) (db_cons rfl (c_A_P (de_varA 1 rfl)) (db_cons rfl (c_A_P (de_ix (de_var 3) (c_FC_P (de_neg (c_FC_P (de_int)))) (fun _ _ => rfl))) (db_nil)))))))
    (dss_cons (ds_if (dt_cmp op_ge b_ge (c_A_P (de_varA 4 rfl)) (c_A_P (de_ix (de_var 3) (c_FC_P (de_neg (c_FC_P (de_int)))) (fun _ _ => rfl))) (nomark _)) (dss_one (ds_ret (c_FC_R (de_non)))) (dss_nil))
    (dss_one (ds_append (i := 3) rfl (de_varA 4 rfl) rfl)))))
    (dss_one (ds_ret (de_varR 3 (by decide)))))
theorem ok_guest_to_move (D : Dg K mg "guest_to_move" (top 4) ["rooms", "guests", "kind", "wished"]) (B : Bl mg) : Has P w K mg base (n + 1) "guest_to_move" ["rooms", "guests", "kind", "wished"] (spD K F_guest_to_move) := by
  have sc : FnScope ["rooms", "guests", "kind", "wished"] ["rooms", "guests", "kind", "wished"] (defScope (top 4)) := ⟨rfl, rfl, rfl, by decide +kernel, rfl, by decide +kernel, by decide +kernel⟩
  exact dg_ok (fl := [.A, .A, .A, .A]) D sc (by decide) (by decide) fun f cdv A outer s H E hr => dss_one (ds_ret (c_FC_R (c_flat (c_A_P (de_ix (c_A_B (c_FC_A (de_comp (L := []) (fl' := [.A, .A, .A, .A, .A]) rfl ["room"] ["kind", "wished", "rooms", "guests"] [2, 3, 0, 1] (di_list (c_A_B (c_FC_A (de_sortK rfl (db_cons rfl (c_A_P (de_varA 1 rfl)) (db_nil)) (by rfl) B.sorted_)))) (fun _ _ _ _ _ => dg_name (i := 0) rfl (show (["room", "kind", "wished", "rooms", "guests"] : List Str).Nodup by decide +kernel) rfl (by first | exact Or.inl rfl | exact Or.inr rfl)) (fun _ _ _ _ _ => pts_one (dt_w (dw_and (dt_cmp op_ge b_ge (c_A_P (de_ix (c_A_B (de_varA 3 rfl)) (c_A_P (de_varA 0 rfl)) (fun _ _ => rfl))) (c_A_P (de_varA 1 rfl)) (nomark _)) (dw_and1 (dt_cmp (op_eqD hr.units) b_eq (c_FC_P (de_kget (hu1 hr.units) (c_A_P (de_varA 4 rfl)) (c_A_P (de_varA 0 rfl)) (fun _ _ => rfl))) (c_A_P (de_varA 2 rfl)) (nomark _)))))) (fun _ _ _ _ _ => c_FC_C (c_flat (c_A_P (de_varA 0 rfl))))))) (c_FC_P (de_int)) (fun _ _ => rfl))))))
theorem ok_moves_by (D : Dg K mg "moves_by" (top 5) ["rooms", "guests", "falls"]) (B : Bl mg) (hfree_from : Has P w K mg base n "free_from" ["rooms", "guests", "kind"] (spD K F_free_from)) (hguest_to_move : Has P w K mg base n "guest_to_move" ["rooms", "guests", "kind", "wished"] (spD K F_guest_to_move)) : Has P w K mg base (n + 1) "moves_by" ["rooms", "guests", "falls"] (spD K F_moves_by) := by
  have sc : FnScope ["rooms", "guests", "falls", "goal", "moves", "kind", "wished", "room"] ["rooms", "guests", "falls"] (defScope (top 5)) := ⟨rfl, rfl, rfl, by decide +kernel, rfl, by decide +kernel, by decide +kernel⟩
  exact dg_ok (fl := [.A, .A, .A, .A, .O, .A, .A, .A]) D sc (by decide) (by decide) fun f cdv A outer s H E hr => dss_cons (ds_setA (i := 3) rfl sc.nd rfl (by first | exact Or.inl rfl | exact Or.inr rfl) (de_ix (c_A_B (c_C_A (de_call hfree_from hr (db_cons rfl (c_A_P (de_varA 0 rfl)) (db_cons rfl (c_A_P (de_varA 1 rfl)) (db_cons rfl (c_A_P (de_ix (c_A_B (de_varA 2 rfl)) (c_FC_P (de_neg (c_FC_P (de_int)))) (fun _ _ => rfl))) (db_nil))))))) (c_FC_P (de_int)) (fun _ _ => rfl)))
    (dss_cons (ds_setO (i := 4) rfl sc.nd rfl (by first | exact Or.inl rfl | exact Or.inr rfl) (c_FC_F (de_lstC (db_nil))))
    (dss_cons (ds_for (L := []) PassesOwn.never rfl (di_rev (c_A_B (c_FC_A (de_lzip (c_A_P (de_varA 2 rfl)) (c_F_P (de_sl (c_A_B (de_varA 2 rfl)) (do_part (c_FC_P (de_int))) do_none)) rfl (by rfl) B.list_ (by rfl) B.zip_))) (by rfl) B.reversed_) (dg_tup rfl (dgs_cons (dg_name (i := 5) rfl sc.nd rfl (by first | exact Or.inl rfl | exact Or.inr rfl)) (dgs_cons (dg_name (i := 6) rfl sc.nd rfl (by first | exact Or.inl rfl | exact Or.inr rfl)) (dgs_nil)))) (dss_cons (ds_setA (i := 7) rfl sc.nd rfl (by first | exact Or.inl rfl | exact Or.inr rfl) (c_C_A (de_call hguest_to_move hr (db_cons rfl (c_A_P (de_varA 0 rfl)) (db_cons rfl (c_A_P (de_varA 1 rfl)) (db_cons rfl (c_A_P (de_varA 5 rfl)) (db_cons rfl (c_A_P (de_varA 6 rfl)) (db_nil))))))))
    (dss_cons (ds_append (i := 4) rfl (de_tup rfl (db_cons rfl (de_varA 7 rfl) (db_cons rfl (de_varA 3 rfl) (db_nil)))) rfl)
    (dss_one (ds_setA (i := 3) rfl sc.nd rfl (by first | exact Or.inl rfl | exact Or.inr rfl) (de_varA 7 rfl))))))
    (dss_one (ds_ret (de_tup rfl (db_cons rfl (de_varR 4 (by decide)) (db_cons rfl (c_FC_R (c_flat (c_A_P (de_varA 3 rfl)))) (db_nil))))))))
theorem ok_is_level (D : Dg K mg "is_level" (top 6) ["rooms", "guests", "level"]) (B : Bl mg) : Has P w K mg base (n + 1) "is_level" ["rooms", "guests", "level"] (spD K F_is_level) := by
  have sc : FnScope ["rooms", "guests", "level"] ["rooms", "guests", "level"] (defScope (top 6)) := ⟨rfl, rfl, rfl, by decide +kernel, rfl, by decide +kernel, by decide +kernel⟩
  exact dg_ok (fl := [.A, .A, .A]) D sc (by decide) (by decide) fun f cdv A outer s H E hr => dss_one (ds_ret (c_FC_R (de_blt (call_allL rfl) b_all (by rfl) B.all_ (show bootBuiltins "all" = some (.builtin "all") by decide +kernel) (db_cons rfl (c_FC_P (de_comp (L := []) (fl' := [.A, .A, .A, .A]) rfl ["room", "own"] ["level", "guests"] [2, 1] (di_enum (c_A_B (de_varA 0 rfl)) (by rfl) B.enumerate_) (fun _ _ _ _ _ => dg_tup rfl (dgs_cons (dg_name (i := 0) rfl (show (["room", "own", "level", "guests"] : List Str).Nodup by decide +kernel) rfl (by first | exact Or.inl rfl | exact Or.inr rfl)) (dgs_cons (dg_name (i := 1) rfl (show (["room", "own", "level", "guests"] : List Str).Nodup by decide +kernel) rfl (by first | exact Or.inl rfl | exact Or.inr rfl)) (dgs_nil)))) (fun _ _ _ _ _ => pts_one (dt_cmp op_ge b_ge (c_A_P (de_varA 1 rfl)) (c_A_P (de_varA 2 rfl)) (nomark _))) (fun _ _ _ _ _ => c_FC_C (de_cmp op_ge b_ge (c_FC_P (de_kget2 (hu1 hr.units) (c_A_P (de_varA 3 rfl)) (c_A_P (de_varA 0 rfl)) (c_FC_P (de_int)) ⟨rfl, rfl, rfl, rfl⟩)) (c_A_P (de_varA 2 rfl)) (nomark _))))) (db_nil)))))
theorem ok_admitted (D : Dg K mg "admitted" (top 7) ["rooms", "guests", "kind"]) (B : Bl mg) (hfalls_of : Has P w K mg base n "falls_of" ["rooms", "guests", "kind"] (spD K F_falls_of)) (hmoves_by : Has P w K mg base n "moves_by" ["rooms", "guests", "falls"] (spD K F_moves_by)) (his_level : Has P w K mg base n "is_level" ["rooms", "guests", "level"] (spD K F_is_level)) : Has P w K mg base (n + 1) "admitted" ["rooms", "guests", "kind"] (spD K F_admitted) := by
  have sc : FnScope ["rooms", "guests", "kind", "falls", "found"] ["rooms", "guests", "kind"] (defScope (top 7)) := ⟨rfl, rfl, rfl, by decide +kernel, rfl, by decide +kernel, by decide +kernel⟩
  exact dg_ok (fl := [.A, .A, .A, .O, .N]) D sc (by decide) (by decide) fun f cdv A outer s H E hr => dss_cons (ds_setO (i := 3) rfl sc.nd rfl (by first | exact Or.inl rfl | exact Or.inr rfl) (c_FC_F (c_Cfl1 (de_call hfalls_of hr (db_cons rfl (c_A_P (de_varA 0 rfl)) (db_cons rfl (c_A_P (de_varA 1 rfl)) (db_cons rfl (c_A_P (de_varA 2 rfl)) (db_nil))))))))
    (dss_cons (ds_if (dt_isN (c_B_P (de_var 3))) (dss_one (ds_ret (de_tup rfl (db_cons rfl (c_FC_R (de_str)) (db_cons rfl (c_FC_R (de_blt (call_maxL rfl) b_maxL (by rfl) B.max_ PyProof.Rows.boot_max (db_cons rfl (c_FC_P (de_comp (L := []) (fl' := [.A, .A, .A]) rfl ["level"] ["rooms", "guests"] [0, 1] (di_range2 (by rfl) B.range_ (da_of (db_cons rfl (c_FC_P (de_int)) (db_cons rfl (c_FC_P (de_op op_add b_add (c_A_P (de_varA 2 rfl)) (c_FC_P (de_int)))) (db_nil))))) (fun _ _ _ _ _ => dg_name (i := 0) rfl (show (["level", "rooms", "guests"] : List Str).Nodup by decide +kernel) rfl (by first | exact Or.inl rfl | exact Or.inr rfl)) (fun _ _ _ _ _ => pts_one (dt_val (c_C_P (de_call his_level hr (db_cons rfl (c_A_P (de_varA 1 rfl)) (db_cons rfl (c_A_P (de_varA 2 rfl)) (db_cons rfl (c_A_P (de_varA 0 rfl)) (db_nil)))))))) (fun _ _ _ _ _ => c_FC_C (c_flat (c_A_P (de_varA 0 rfl)))))) (db_nil)))) (db_nil)))))) (dss_nil))
    (dss_cons (ds_setN (i := 4) rfl sc.nd rfl (by first | exact Or.inl rfl | exact Or.inr rfl) (c_C_T (de_call hmoves_by hr (db_cons rfl (c_A_P (de_varA 0 rfl)) (db_cons rfl (c_A_P (de_varA 1 rfl)) (db_cons rfl (c_B_P (de_var 3)) (db_nil)))))))
    (dss_one (ds_ret (de_tup rfl (db_cons rfl (c_FC_R (de_str)) (db_cons rfl (de_ixK rfl (de_varNR 4 rfl) (c_FC_P (de_int)) (fun _ _ => rfl)) (db_cons rfl (de_ixK rfl (de_varNR 4 rfl) (c_FC_P (de_int)) (fun _ _ => rfl)) (db_cons rfl (de_varR 3 (by decide)) (db_nil))))))))))
theorem ok__law_cell (D : Dg K mg "_law_cell" (top 9) ["_law_script", "_law_at"]) (B : Bl mg) : Has P w K mg base (n + 1) "_law_cell" ["_law_script", "_law_at"] (spD K F__law_cell) := by
  have sc : FnScope ["_law_script", "_law_at"] ["_law_script", "_law_at"] (defScope (top 9)) := ⟨rfl, rfl, rfl, by decide +kernel, rfl, by decide +kernel, by decide +kernel⟩
  exact dg_ok (fl := [.A, .A]) D sc (by decide) (by decide) fun f cdv A outer s H E hr => dss_cons (ds_if (dt_cmp op_lt b_lt (c_A_P (de_varA 1 rfl)) (c_FC_P (de_blt call_len_seq b_len (by rfl) B.len_ PySem.boot_len (db_cons rfl (c_A_P (de_varA 0 rfl)) (db_nil)))) (nomark _)) (dss_one (ds_ret (c_FC_R (de_op op_modN b_mod (c_A_P (de_ix (c_A_B (de_varA 0 rfl)) (c_A_P (de_varA 1 rfl)) (fun _ _ => rfl))) (c_FC_P (de_int)))))) (dss_nil))
    (dss_cons (ds_if (dt_cmp (op_eqD hr.units) b_eq (c_A_P (de_varA 0 rfl)) (c_FC_P (de_lstC (db_nil))) (nomark _)) (dss_one (ds_ret (c_FC_R (de_op op_add b_add (c_FC_P (de_op op_mulG b_mul (c_FC_P (de_int)) (c_A_P (de_varA 1 rfl)))) (c_FC_P (de_int)))))) (dss_nil))
    (dss_one (ds_ret (c_FC_R (de_op op_add b_add (c_FC_P (de_op op_modN b_mod (c_A_P (de_ix (c_A_B (de_varA 0 rfl)) (c_FC_P (de_op op_modN b_mod (c_FC_P (de_op op_mulG b_mul (c_A_P (de_varA 1 rfl)) (c_FC_P (de_int)))) (c_FC_P (de_blt call_len_seq b_len (by rfl) B.len_ PySem.boot_len (db_cons rfl (c_A_P (de_varA 0 rfl)) (db_nil)))))) (fun _ _ => rfl))) (c_FC_P (de_int)))) (c_FC_P (de_op op_mulG b_mul (c_FC_P (de_int)) (c_A_P (de_varA 1 rfl)))))))))
theorem ok__law_part (D : Dg K mg "_law_part" (top 10) ["_law_script", "_law_at", "_law_k", "_law_many"]) (B : Bl mg) (h_law_cell : Has P w K mg base n "_law_cell" ["_law_script", "_law_at"] (spD K F__law_cell)) : Has P w K mg base (n + 1) "_law_part" ["_law_script", "_law_at", "_law_k", "_law_many"] (spD K F__law_part) := by
  have sc : FnScope ["_law_script", "_law_at", "_law_k", "_law_many", "_law_number", "_law_j"] ["_law_script", "_law_at", "_law_k", "_law_many"] (defScope (top 10)) := ⟨rfl, rfl, rfl, by decide +kernel, rfl, by decide +kernel, by decide +kernel⟩
  exact dg_ok (fl := [.A, .A, .A, .A, .A, .A]) D sc (by decide) (by decide) fun f cdv A outer s H E hr => dss_cons (ds_if (dt_w (dw_and (dt_cmp op_lt b_lt (c_A_P (de_varA 1 rfl)) (c_FC_P (de_blt call_len_seq b_len (by rfl) B.len_ PySem.boot_len (db_cons rfl (c_A_P (de_varA 0 rfl)) (db_nil)))) (nomark _)) (dw_and1 (dt_cmp op_ge b_ge (c_A_P (de_ix (c_A_B (de_varA 0 rfl)) (c_A_P (de_varA 1 rfl)) (fun _ _ => rfl))) (c_FC_P (de_op op_pow b_pow (c_FC_P (de_int)) (c_FC_P (de_int)))) (nomark _))))) (dss_cons (ds_setA (i := 4) rfl sc.nd rfl (by first | exact Or.inl rfl | exact Or.inr rfl) (de_ix (c_A_B (de_varA 0 rfl)) (c_A_P (de_varA 1 rfl)) (fun _ _ => rfl)))
    (dss_cons (ds_for (L := []) PassesOwn.never rfl (di_range1 (by rfl) B.range_ (da_of (db_cons rfl (c_A_P (de_varA 2 rfl)) (db_nil)))) (dg_name (i := 5) rfl sc.nd rfl (by first | exact Or.inl rfl | exact Or.inr rfl)) (dss_one (ds_setA (i := 4) rfl sc.nd rfl (by first | exact Or.inl rfl | exact Or.inr rfl) (c_FC_A (de_op op_divG b_div (c_A_P (de_varA 4 rfl)) (c_FC_P (de_int)))))))
    (dss_one (ds_if (dt_cmp op_gt b_gt (c_A_P (de_varA 4 rfl)) (c_FC_P (de_int)) (nomark _)) (dss_one (ds_ret (c_FC_R (de_op op_modN b_mod (c_FC_P (de_op op_modN b_mod (c_A_P (de_varA 4 rfl)) (c_FC_P (de_int)))) (c_A_P (de_varA 3 rfl)))))) (dss_nil))))) (dss_nil))
    (dss_cons (ds_setA (i := 4) rfl sc.nd rfl (by first | exact Or.inl rfl | exact Or.inr rfl) (c_FC_A (de_op op_modN b_mod (c_FC_P (de_op op_mulG b_mul (c_FC_P (de_op op_add b_add (c_FC_P (de_op op_add b_add (c_C_P (de_call h_law_cell hr (db_cons rfl (c_A_P (de_varA 0 rfl)) (db_cons rfl (c_A_P (de_varA 1 rfl)) (db_nil))))) (c_FC_P (de_op op_mulG b_mul (c_FC_P (de_int)) (c_A_P (de_varA 1 rfl)))))) (c_FC_P (de_int)))) (c_FC_P (de_op op_add b_add (c_FC_P (de_int)) (c_FC_P (de_op op_mulG b_mul (c_FC_P (de_int)) (c_A_P (de_varA 2 rfl)))))))) (c_FC_P (de_int)))))
    (dss_cons (ds_setA (i := 4) rfl sc.nd rfl (by first | exact Or.inl rfl | exact Or.inr rfl) (c_FC_A (de_op op_add b_add (c_FC_P (de_op op_modN b_mod (c_FC_P (de_op op_mulG b_mul (c_A_P (de_varA 4 rfl)) (c_A_P (de_varA 4 rfl)))) (c_FC_P (de_int)))) (c_FC_P (de_int)))))
    (dss_one (ds_ret (c_FC_R (de_op op_modN b_mod (c_FC_P (de_op op_divG b_div (c_FC_P (de_op op_modN b_mod (c_FC_P (de_op op_mulG b_mul (c_A_P (de_varA 4 rfl)) (c_A_P (de_varA 4 rfl)))) (c_FC_P (de_int)))) (c_FC_P (de_int)))) (c_A_P (de_varA 3 rfl))))))))
theorem ok__law_rooms (D : Dg K mg "_law_rooms" (top 12) ["_law_script", "_law_at", "_law_most"]) (B : Bl mg) (h_law_part : Has P w K mg base n "_law_part" ["_law_script", "_law_at", "_law_k", "_law_many"] (spD K F__law_part)) : Has P w K mg base (n + 1) "_law_rooms" ["_law_script", "_law_at", "_law_most"] (spD K F__law_rooms) := by
  have sc : FnScope ["_law_script", "_law_at", "_law_most", "_law_kinds"] ["_law_script", "_law_at", "_law_most"] (defScope (top 12)) := ⟨rfl, rfl, rfl, by decide +kernel, rfl, by decide +kernel, by decide +kernel⟩
  exact dg_ok (fl := [.A, .A, .A, .A]) D sc (by decide) (by decide) fun f cdv A outer s H E hr => dss_cons (ds_setA (i := 3) rfl sc.nd rfl (by first | exact Or.inl rfl | exact Or.inr rfl) (de_ix (c_A_B (c_FC_A (de_lstC (db_cons rfl (c_FC_C (de_lstC (db_cons rfl (c_FC_C (de_int)) (db_cons rfl (c_FC_C (de_int)) (db_cons rfl (c_FC_C (de_int)) (db_cons rfl (c_FC_C (de_int)) (db_nil))))))) (db_cons rfl (c_FC_C (de_lstC (db_cons rfl (c_FC_C (de_int)) (db_cons rfl (c_FC_C (de_int)) (db_cons rfl (c_FC_C (de_int)) (db_cons rfl (c_FC_C (de_int)) (db_nil))))))) (db_cons rfl (c_FC_C (de_lstC (db_cons rfl (c_FC_C (de_int)) (db_cons rfl (c_FC_C (de_int)) (db_cons rfl (c_FC_C (de_int)) (db_cons rfl (c_FC_C (de_int)) (db_nil))))))) (db_cons rfl (c_FC_C (de_lstC (db_cons rfl (c_FC_C (de_int)) (db_cons rfl (c_FC_C (de_int)) (db_cons rfl (c_FC_C (de_int)) (db_cons rfl (c_FC_C (de_int)) (db_nil))))))) (db_nil)))))))) (c_C_P (de_call h_law_part hr (db_cons rfl (c_A_P (de_varA 0 rfl)) (db_cons rfl (c_A_P (de_varA 1 rfl)) (db_cons rfl (c_FC_P (de_int)) (db_cons rfl (c_FC_P (de_int)) (db_nil))))))) (fun _ _ => rfl)))
    (dss_one (ds_ret (c_FC_R (de_comp (L := []) (fl' := [.A, .A, .A, .A]) rfl ["_law_k"] ["_law_kinds", "_law_script", "_law_at"] [3, 0, 1] (di_range1 (by rfl) B.range_ (da_of (db_cons rfl (c_C_P (de_call h_law_part hr (db_cons rfl (c_A_P (de_varA 0 rfl)) (db_cons rfl (c_A_P (de_varA 1 rfl)) (db_cons rfl (c_FC_P (de_int)) (db_cons rfl (c_FC_P (de_op op_add b_add (c_A_P (de_varA 2 rfl)) (c_FC_P (de_int)))) (db_nil))))))) (db_nil)))) (fun _ _ _ _ _ => dg_name (i := 0) rfl (show (["_law_k", "_law_kinds", "_law_script", "_law_at"] : List Str).Nodup by decide +kernel) rfl (by first | exact Or.inl rfl | exact Or.inr rfl)) (fun _ _ _ _ _ => pts_yes) (fun _ _ _ _ _ => c_FC_C (c_flat (c_A_P (de_ix (c_A_B (de_varA 1 rfl)) (c_C_P (de_call h_law_part hr (db_cons rfl (c_A_P (de_varA 2 rfl)) (db_cons rfl (c_FC_P (de_op op_add b_add (c_A_P (de_varA 3 rfl)) (c_FC_P (de_int)))) (db_cons rfl (c_A_P (de_varA 0 rfl)) (db_cons rfl (c_FC_P (de_int)) (db_nil))))))) (fun _ _ => rfl)))))))))
theorem ok__law_small_guests (D : Dg K mg "_law_small_guests" (top 15) ["_law_script", "_law_at", "_law_rooms_here"]) (B : Bl mg) (h_law_part : Has P w K mg base n "_law_part" ["_law_script", "_law_at", "_law_k", "_law_many"] (spD K F__law_part)) : Has P w K mg base (n + 1) "_law_small_guests" ["_law_script", "_law_at", "_law_rooms_here"] (spD K F__law_small_guests) := by
  have sc : FnScope ["_law_script", "_law_at", "_law_rooms_here", "_law_guests_here", "_law_room"] ["_law_script", "_law_at", "_law_rooms_here"] (defScope (top 15)) := ⟨rfl, rfl, rfl, by decide +kernel, rfl, by decide +kernel, by decide +kernel⟩
  exact dg_ok (fl := [.A, .A, .A, .N, .A]) D sc (by decide) (by decide) fun f cdv A outer s H E hr => dss_cons (ds_setN (i := 3) rfl sc.nd rfl (by first | exact Or.inl rfl | exact Or.inr rfl) (de_dicT))
    (dss_cons (ds_for (L := []) PassesOwn.never rfl (di_range1 (by rfl) B.range_ (da_of (db_cons rfl (c_FC_P (de_blt call_len_seq b_len (by rfl) B.len_ PySem.boot_len (db_cons rfl (c_A_P (de_varA 2 rfl)) (db_nil)))) (db_nil)))) (dg_name (i := 4) rfl sc.nd rfl (by first | exact Or.inl rfl | exact Or.inr rfl)) (dss_one (ds_if (dt_cmp op_lt b_lt (c_C_P (de_call h_law_part hr (db_cons rfl (c_A_P (de_varA 0 rfl)) (db_cons rfl (c_A_P (de_varA 1 rfl)) (db_cons rfl (c_A_P (de_varA 4 rfl)) (db_cons rfl (c_FC_P (de_int)) (db_nil))))))) (c_FC_P (de_int)) (nomark _)) (dss_one (ds_kput (hu1 hr.units) (i := 3) rfl (c_FC_P (de_op op_add b_add (c_FC_P (de_int)) (c_C_P (de_call h_law_part hr (db_cons rfl (c_A_P (de_varA 0 rfl)) (db_cons rfl (c_FC_P (de_op op_add b_add (c_A_P (de_varA 1 rfl)) (c_FC_P (de_int)))) (db_cons rfl (c_A_P (de_varA 4 rfl)) (db_cons rfl (c_A_P (de_ix (c_A_B (de_varA 2 rfl)) (c_A_P (de_varA 4 rfl)) (fun _ _ => rfl))) (db_nil))))))))) (c_A_P (de_varA 4 rfl)) rfl)) (dss_nil))))
    (dss_one (ds_ret (de_varNR 3 rfl))))
theorem ok__law_seats (D : Dg K mg "_law_seats" (top 16) ["_law_rooms_here", "_law_guests_here"]) (B : Bl mg) : Has P w K mg base (n + 1) "_law_seats" ["_law_rooms_here", "_law_guests_here"] (spD K F__law_seats) := by
  have sc : FnScope ["_law_rooms_here", "_law_guests_here"] ["_law_rooms_here", "_law_guests_here"] (defScope (top 16)) := ⟨rfl, rfl, rfl, by decide +kernel, rfl, by decide +kernel, by decide +kernel⟩
  exact dg_ok (fl := [.A, .A]) D sc (by decide) (by decide) fun f cdv A outer s H E hr => dss_one (ds_ret (c_C_R (de_tupC (c_FC_C (de_comp (L := []) (fl' := [.A, .A]) rfl ["_law_room"] ["_law_guests_here"] [1] (di_range1 (by rfl) B.range_ (da_of (db_cons rfl (c_FC_P (de_blt call_len_seq b_len (by rfl) B.len_ PySem.boot_len (db_cons rfl (c_A_P (de_varA 0 rfl)) (db_nil)))) (db_nil)))) (fun _ _ _ _ _ => dg_name (i := 0) rfl (show (["_law_room", "_law_guests_here"] : List Str).Nodup by decide +kernel) rfl (by first | exact Or.inl rfl | exact Or.inr rfl)) (fun _ _ _ _ _ => pts_yes) (fun _ _ _ _ _ => c_FC_C (de_kget2 (hu1 hr.units) (c_A_P (de_varA 1 rfl)) (c_A_P (de_varA 0 rfl)) (c_FC_P (de_int)) ⟨rfl, rfl, rfl, rfl⟩)))) (by rfl) B.tuple_)))
theorem ok__law_next (D : Dg K mg "_law_next" (top 17) ["_law_rooms_here", "_law_seats_here"]) (B : Bl mg) : Has P w K mg base (n + 1) "_law_next" ["_law_rooms_here", "_law_seats_here"] (spD K F__law_next) := by
  have sc : FnScope ["_law_rooms_here", "_law_seats_here", "_law_found", "_law_room", "_law_other", "_law_some"] ["_law_rooms_here", "_law_seats_here"] (defScope (top 17)) := ⟨rfl, rfl, rfl, by decide +kernel, rfl, by decide +kernel, by decide +kernel⟩
  exact dg_ok (fl := [.A, .A, .O, .A, .A, .O]) D sc (by decide) (by decide) fun f cdv A outer s H E hr => dss_cons (ds_setO (i := 2) rfl sc.nd rfl (by first | exact Or.inl rfl | exact Or.inr rfl) (c_FC_F (de_lstC (db_nil))))
    (dss_cons (ds_for (L := []) PassesOwn.never rfl (di_range1 (by rfl) B.range_ (da_of (db_cons rfl (c_FC_P (de_blt call_len_seq b_len (by rfl) B.len_ PySem.boot_len (db_cons rfl (c_A_P (de_varA 0 rfl)) (db_nil)))) (db_nil)))) (dg_name (i := 3) rfl sc.nd rfl (by first | exact Or.inl rfl | exact Or.inr rfl)) (dss_one (ds_for (L := []) PassesOwn.never rfl (di_range1 (by rfl) B.range_ (da_of (db_cons rfl (c_FC_P (de_blt call_len_seq b_len (by rfl) B.len_ PySem.boot_len (db_cons rfl (c_A_P (de_varA 0 rfl)) (db_nil)))) (db_nil)))) (dg_name (i := 4) rfl sc.nd rfl (by first | exact Or.inl rfl | exact Or.inr rfl)) (dss_one (ds_if (dt_w (dw_and (dt_cmp op_gt b_gt (c_A_P (de_ix (c_A_B (de_varA 1 rfl)) (c_A_P (de_varA 3 rfl)) (fun _ _ => rfl))) (c_FC_P (de_int)) (nomark _)) (dw_and (dt_cmp (op_eqD hr.units) b_eq (c_A_P (de_ix (c_A_B (de_varA 1 rfl)) (c_A_P (de_varA 4 rfl)) (fun _ _ => rfl))) (c_FC_P (de_int)) (nomark _)) (dw_and1 (dt_cmp op_ge b_ge (c_A_P (de_ix (c_A_B (de_varA 0 rfl)) (c_A_P (de_varA 4 rfl)) (fun _ _ => rfl))) (c_A_P (de_ix (c_A_B (de_varA 1 rfl)) (c_A_P (de_varA 3 rfl)) (fun _ _ => rfl))) (nomark _)))))) (dss_cons (ds_setO (i := 5) rfl sc.nd rfl (by first | exact Or.inl rfl | exact Or.inr rfl) (de_list (c_A_B (de_varA 1 rfl)) (by rfl) B.list_))
    (dss_cons (ds_put (i := 5) rfl (de_ix (de_var 5) (c_A_P (de_varA 3 rfl)) (fun _ _ => rfl)) (c_A_P (de_varA 4 rfl)) rfl)
    (dss_cons (ds_put (i := 5) rfl (c_FC_A (de_int)) (c_A_P (de_varA 3 rfl)) rfl)
    (dss_one (ds_append (i := 2) rfl (de_tupL (de_var 5) (by rfl) B.tuple_) rfl))))) (dss_nil))))))
    (dss_one (ds_ret (de_varR 2 (by decide)))))
theorem ok__law_open (D : Dg K mg "_law_open" (top 18) ["_law_rooms_here", "_law_seats_here", "_law_kind"]) (B : Bl mg) : Has P w K mg base (n + 1) "_law_open" ["_law_rooms_here", "_law_seats_here", "_law_kind"] (spD K F__law_open) := by
  have sc : FnScope ["_law_rooms_here", "_law_seats_here", "_law_kind"] ["_law_rooms_here", "_law_seats_here", "_law_kind"] (defScope (top 18)) := ⟨rfl, rfl, rfl, by decide +kernel, rfl, by decide +kernel, by decide +kernel⟩
  exact dg_ok (fl := [.A, .A, .A]) D sc (by decide) (by decide) fun f cdv A outer s H E hr => dss_one (ds_ret (c_FC_R (de_cmp (op_neD hr.units) b_ne (c_FC_P (de_comp (L := []) (fl' := [.A, .A, .A, .A]) rfl ["_law_room"] ["_law_kind", "_law_seats_here", "_law_rooms_here"] [2, 1, 0] (di_range1 (by rfl) B.range_ (da_of (db_cons rfl (c_FC_P (de_blt call_len_seq b_len (by rfl) B.len_ PySem.boot_len (db_cons rfl (c_A_P (de_varA 0 rfl)) (db_nil)))) (db_nil)))) (fun _ _ _ _ _ => dg_name (i := 0) rfl (show (["_law_room", "_law_kind", "_law_seats_here", "_law_rooms_here"] : List Str).Nodup by decide +kernel) rfl (by first | exact Or.inl rfl | exact Or.inr rfl)) (fun _ _ _ _ _ => pts_one (dt_w (dw_and (dt_cmp (op_eqD hr.units) b_eq (c_A_P (de_ix (c_A_B (de_varA 2 rfl)) (c_A_P (de_varA 0 rfl)) (fun _ _ => rfl))) (c_FC_P (de_int)) (nomark _)) (dw_and1 (dt_cmp op_ge b_ge (c_A_P (de_ix (c_A_B (de_varA 3 rfl)) (c_A_P (de_varA 0 rfl)) (fun _ _ => rfl))) (c_A_P (de_varA 1 rfl)) (nomark _)))))) (fun _ _ _ _ _ => c_FC_C (c_flat (c_A_P (de_varA 0 rfl)))))) (c_FC_P (de_lstC (db_nil))) (nomark _))))
theorem ok__law_waves (D : Dg K mg "_law_waves" (top 19) ["_law_rooms_here", "_law_guests_here", "_law_kind"]) (B : Bl mg) (h_law_seats : Has P w K mg base n "_law_seats" ["_law_rooms_here", "_law_guests_here"] (spD K F__law_seats)) (h_law_next : Has P w K mg base n "_law_next" ["_law_rooms_here", "_law_seats_here"] (spD K F__law_next)) (h_law_open : Has P w K mg base n "_law_open" ["_law_rooms_here", "_law_seats_here", "_law_kind"] (spD K F__law_open)) : Has P w K mg base (n + 1) "_law_waves" ["_law_rooms_here", "_law_guests_here", "_law_kind"] (spD K F__law_waves) := by
  have sc : FnScope ["_law_rooms_here", "_law_guests_here", "_law_kind", "_law_wave", "_law_seen", "_law_moves", "_law_behind", "_law_seats_here", "_law_other"] ["_law_rooms_here", "_law_guests_here", "_law_kind"] (defScope (top 19)) := ⟨rfl, rfl, rfl, by decide +kernel, rfl, by decide +kernel, by decide +kernel⟩
  exact dg_ok (fl := [.A, .A, .A, .A, .N, .A, .O, .A, .A]) D sc (by decide) (by decide) fun f cdv A outer s H E hr => dss_cons (ds_setA (i := 3) rfl sc.nd rfl (by first | exact Or.inl rfl | exact Or.inr rfl) (c_FC_A (de_lstC (db_cons rfl (de_call h_law_seats hr (db_cons rfl (c_A_P (de_varA 0 rfl)) (db_cons rfl (c_A_P (de_varA 1 rfl)) (db_nil)))) (db_nil)))))
    (dss_cons (ds_setN (i := 4) rfl sc.nd rfl (by first | exact Or.inl rfl | exact Or.inr rfl) (XT.de_dicT (hu1 hr.units) (c_A_P (de_ix (c_A_B (de_varA 3 rfl)) (c_FC_P (de_int)) (fun _ _ => rfl))) pe_bl))
    (dss_cons (ds_setA (i := 5) rfl sc.nd rfl (by first | exact Or.inl rfl | exact Or.inr rfl) (c_FC_A (de_int)))
    (dss_cons (ds_while PassesOwn.never (dt_cmp (op_neD hr.units) b_ne (c_A_P (de_varA 3 rfl)) (c_FC_P (de_lstC (db_nil))) (nomark _)) (dss_cons (ds_if (dt_cmp (op_neD hr.units) b_ne (c_FC_P (de_comp (L := []) (fl' := [.A, .A, .A]) rfl ["_law_seats_here"] ["_law_rooms_here", "_law_kind"] [0, 2] (di_list (c_A_B (de_varA 3 rfl))) (fun _ _ _ _ _ => dg_name (i := 0) rfl (show (["_law_seats_here", "_law_rooms_here", "_law_kind"] : List Str).Nodup by decide +kernel) rfl (by first | exact Or.inl rfl | exact Or.inr rfl)) (fun _ _ _ _ _ => pts_one (dt_val (c_C_P (de_call h_law_open hr (db_cons rfl (c_A_P (de_varA 1 rfl)) (db_cons rfl (c_A_P (de_varA 0 rfl)) (db_cons rfl (c_A_P (de_varA 2 rfl)) (db_nil)))))))) (fun _ _ _ _ _ => c_FC_C (c_flat (c_A_P (de_varA 0 rfl)))))) (c_FC_P (de_lstC (db_nil))) (nomark _)) (dss_one (ds_ret (c_FC_R (c_flat (c_A_P (de_varA 5 rfl)))))) (dss_nil))
    (dss_cons (ds_setO (i := 6) rfl sc.nd rfl (by first | exact Or.inl rfl | exact Or.inr rfl) (c_FC_F (de_lstC (db_nil))))
    (dss_cons (ds_for (L := []) PassesOwn.never rfl (di_list (c_A_B (de_varA 3 rfl))) (dg_name (i := 7) rfl sc.nd rfl (by first | exact Or.inl rfl | exact Or.inr rfl)) (dss_one (ds_for (L := []) PassesOwn.never rfl (di_list (c_A_B (c_C_A (de_call h_law_next hr (db_cons rfl (c_A_P (de_varA 0 rfl)) (db_cons rfl (c_A_P (de_varA 7 rfl)) (db_nil))))))) (dg_name (i := 8) rfl sc.nd rfl (by first | exact Or.inl rfl | exact Or.inr rfl)) (dss_one (ds_if (dt_cmp (op_notinK hr.units) XT.b_notinT (c_A_P (de_varA 8 rfl)) (de_varP 4 rfl) (by with_unfolding_all rfl)) (dss_cons (XT.ds_tput (hu1 hr.units) (i := 4) rfl pe_bl (c_A_P (de_varA 8 rfl)) rfl)
    (dss_one (ds_append (i := 6) rfl (de_varA 8 rfl) rfl))) (dss_nil))))))
    (dss_cons (XV.ds_mov (i := 3) (j := 6) rfl rfl sc.nd rfl (by first | exact Or.inl rfl | exact Or.inr rfl))
    (dss_one (ds_setA (i := 5) rfl sc.nd rfl (by first | exact Or.inl rfl | exact Or.inr rfl) (c_FC_A (de_op op_add b_add (c_A_P (de_varA 5 rfl)) (c_FC_P (de_int)))))))))))
    (dss_one (ds_ret (c_FC_R (de_non)))))))
theorem fn_law {f : Addr} {fd : FuncData} (Fn : FunD K "law" (top 20) f fd) (B : Bl mg) (hadmitted : Has P w K mg base n "admitted" ["rooms", "guests", "kind"] (spD K F_admitted)) (h_law_part : Has P w K mg base n "_law_part" ["_law_script", "_law_at", "_law_k", "_law_many"] (spD K F__law_part)) (h_law_rooms : Has P w K mg base n "_law_rooms" ["_law_script", "_law_at", "_law_most"] (spD K F__law_rooms)) (h_law_small_guests : Has P w K mg base n "_law_small_guests" ["_law_script", "_law_at", "_law_rooms_here"] (spD K F__law_small_guests)) (h_law_waves : Has P w K mg base n "_law_waves" ["_law_rooms_here", "_law_guests_here", "_law_kind"] (spD K F__law_waves)) : FnOk P w K mg base CX0 (n + 1) f fd ["_law_script"] (spD K F_law) := by
  have sc : FnScope ["_law_script", "_law_rooms_here", "_law_guests_here", "_law_kind", "_law_due", "_law_found"] ["_law_script"] (defScope (top 20)) := ⟨rfl, rfl, rfl, by decide +kernel, rfl, by decide +kernel, by decide +kernel⟩
  exact fun_ok (fl := [.A, .A, .A, .A, .A, .A]) Fn sc (by decide) (by decide) fun f cdv A outer s H E hr => dss_cons (ds_setA (i := 1) rfl sc.nd rfl (by first | exact Or.inl rfl | exact Or.inr rfl) (c_F_A (de_cat (c_A_B (c_FC_A (de_lstC (db_cons rfl (c_FC_C (de_op op_add b_add (c_FC_P (de_int)) (c_C_P (de_call h_law_part hr (db_cons rfl (c_A_P (de_varA 0 rfl)) (db_cons rfl (c_FC_P (de_int)) (db_cons rfl (c_FC_P (de_int)) (db_cons rfl (c_FC_P (de_int)) (db_nil))))))))) (db_nil))))) (c_A_B (c_C_A (de_call h_law_rooms hr (db_cons rfl (c_A_P (de_varA 0 rfl)) (db_cons rfl (c_FC_P (de_int)) (db_cons rfl (c_FC_P (de_int)) (db_nil))))))))))
    (dss_cons (ds_setA (i := 2) rfl sc.nd rfl (by first | exact Or.inl rfl | exact Or.inr rfl) (c_C_A (de_call h_law_small_guests hr (db_cons rfl (c_A_P (de_varA 0 rfl)) (db_cons rfl (c_FC_P (de_int)) (db_cons rfl (c_A_P (de_varA 1 rfl)) (db_nil)))))))
    (dss_cons (ds_for (L := []) PassesOwn.never rfl (di_list (c_A_B (c_FC_A (de_lstC (db_cons rfl (c_FC_C (de_op op_add b_add (c_FC_P (de_int)) (c_C_P (de_call h_law_part hr (db_cons rfl (c_A_P (de_varA 0 rfl)) (db_cons rfl (c_FC_P (de_int)) (db_cons rfl (c_FC_P (de_int)) (db_cons rfl (c_FC_P (de_int)) (db_nil))))))))) (db_cons rfl (c_FC_C (de_int)) (db_nil))))))) (dg_name (i := 3) rfl sc.nd rfl (by first | exact Or.inl rfl | exact Or.inr rfl)) (dss_cons (ds_setA (i := 4) rfl sc.nd rfl (by first | exact Or.inl rfl | exact Or.inr rfl) (c_C_A (de_call h_law_waves hr (db_cons rfl (c_A_P (de_varA 1 rfl)) (db_cons rfl (c_A_P (de_varA 2 rfl)) (db_cons rfl (c_A_P (de_varA 3 rfl)) (db_nil)))))))
    (dss_cons (ds_setA (i := 5) rfl sc.nd rfl (by first | exact Or.inl rfl | exact Or.inr rfl) (c_C_A (de_call hadmitted hr (db_cons rfl (c_A_P (de_varA 1 rfl)) (db_cons rfl (c_A_P (de_varA 2 rfl)) (db_cons rfl (c_A_P (de_varA 3 rfl)) (db_nil)))))))
    (dss_cons (ds_if (dt_w (dw_and (dt_isN (c_A_P (de_varA 4 rfl))) (dw_and1 (dt_cmp (op_neD hr.units) b_ne (c_A_P (de_ix (c_A_B (de_varA 5 rfl)) (c_FC_P (de_int)) (fun _ _ => rfl))) (c_FC_P (de_str)) (nomark _))))) (dss_one (ds_ret (c_FC_R (de_bl)))) (dss_nil))
    (dss_one (ds_if (dt_w (dw_and (dt_notN (c_A_P (de_varA 4 rfl))) (dw_and1 (dt_w (dw_or (dt_cmp (op_neD hr.units) b_ne (c_A_P (de_ix (c_A_B (de_varA 5 rfl)) (c_FC_P (de_int)) (fun _ _ => rfl))) (c_FC_P (de_str)) (nomark _)) (dw_or1 (dt_cmp (op_neD hr.units) b_ne (c_FC_P (de_blt call_len_seq b_len (by rfl) B.len_ PySem.boot_len (db_cons rfl (c_A_P (de_ix (c_A_B (de_varA 5 rfl)) (c_FC_P (de_int)) (fun _ _ => rfl))) (db_nil)))) (c_A_P (de_varA 4 rfl)) (nomark _)))))))) (dss_one (ds_ret (c_FC_R (de_bl)))) (dss_nil)))))))
    (dss_one (ds_ret (c_FC_R (de_bl))))))
end
end K63
namespace K63
open PySem L2 My D3
structure Txt (K : PySem.W.Frag) (mg : Str → Option Value) : Prop where
  d_free_from : Dg K mg "free_from" (top 1) ["rooms", "guests", "kind"]
  d_least_wished : Dg K mg "least_wished" (top 2) ["rooms", "guests", "kind"]
  d_falls_of : Dg K mg "falls_of" (top 3) ["rooms", "guests", "kind"]
  d_guest_to_move : Dg K mg "guest_to_move" (top 4) ["rooms", "guests", "kind", "wished"]
  d_moves_by : Dg K mg "moves_by" (top 5) ["rooms", "guests", "falls"]
  d_is_level : Dg K mg "is_level" (top 6) ["rooms", "guests", "level"]
  d_admitted : Dg K mg "admitted" (top 7) ["rooms", "guests", "kind"]
  d__law_cell : Dg K mg "_law_cell" (top 9) ["_law_script", "_law_at"]
  d__law_part : Dg K mg "_law_part" (top 10) ["_law_script", "_law_at", "_law_k", "_law_many"]
  d__law_rooms : Dg K mg "_law_rooms" (top 12) ["_law_script", "_law_at", "_law_most"]
  d__law_small_guests : Dg K mg "_law_small_guests" (top 15) ["_law_script", "_law_at", "_law_rooms_here"]
  d__law_seats : Dg K mg "_law_seats" (top 16) ["_law_rooms_here", "_law_guests_here"]
  d__law_next : Dg K mg "_law_next" (top 17) ["_law_rooms_here", "_law_seats_here"]
  d__law_open : Dg K mg "_law_open" (top 18) ["_law_rooms_here", "_law_seats_here", "_law_kind"]
  d__law_waves : Dg K mg "_law_waves" (top 19) ["_law_rooms_here", "_law_guests_here", "_law_kind"]
  d_law : Dl K mg "law" "_law_script" (top 20)
  blt : Bl mg
theorem law_fn {P : Program} {w : World} {K : PySem.W.Frag} {mg : Str → Option Value} {base : Heap} (T : Txt K mg) {f : Addr} {fd : FuncData} (F : FunD K "law" (top 20) f fd) : FnOk P w K mg base CX0 65 f fd ["_law_script"] (spLaw K) := by
  have h_free_from := ok_free_from (P := P) (w := w) (base := base) (n := 0) T.d_free_from T.blt
  have h_least_wished := ok_least_wished (P := P) (w := w) (base := base) (n := 0) T.d_least_wished T.blt
  have h_guest_to_move := ok_guest_to_move (P := P) (w := w) (base := base) (n := 0) T.d_guest_to_move T.blt
  have h_is_level := ok_is_level (P := P) (w := w) (base := base) (n := 0) T.d_is_level T.blt
  have h__law_cell := ok__law_cell (P := P) (w := w) (base := base) (n := 0) T.d__law_cell T.blt
  have h__law_seats := ok__law_seats (P := P) (w := w) (base := base) (n := 0) T.d__law_seats T.blt
  have h__law_next := ok__law_next (P := P) (w := w) (base := base) (n := 0) T.d__law_next T.blt
  have h__law_open := ok__law_open (P := P) (w := w) (base := base) (n := 0) T.d__law_open T.blt
  have h_falls_of := ok_falls_of (P := P) (w := w) (base := base) (n := 1) T.d_falls_of T.blt (h_free_from.mono (by decide)) (h_least_wished.mono (by decide))
  have h_moves_by := ok_moves_by (P := P) (w := w) (base := base) (n := 1) T.d_moves_by T.blt (h_free_from.mono (by decide)) (h_guest_to_move.mono (by decide))
  have h__law_part := ok__law_part (P := P) (w := w) (base := base) (n := 1) T.d__law_part T.blt (h__law_cell.mono (by decide))
  have h__law_waves := ok__law_waves (P := P) (w := w) (base := base) (n := 1) T.d__law_waves T.blt (h__law_seats.mono (by decide)) (h__law_next.mono (by decide)) (h__law_open.mono (by decide))
  have h_admitted := ok_admitted (P := P) (w := w) (base := base) (n := 2) T.d_admitted T.blt (h_falls_of.mono (by decide)) (h_moves_by.mono (by decide)) (h_is_level.mono (by decide))
  have h__law_rooms := ok__law_rooms (P := P) (w := w) (base := base) (n := 2) T.d__law_rooms T.blt (h__law_part.mono (by decide))
  have h__law_small_guests := ok__law_small_guests (P := P) (w := w) (base := base) (n := 2) T.d__law_small_guests T.blt (h__law_part.mono (by decide))
  exact ((fn_law (P := P) (w := w) (base := base) (n := 3) F T.blt (h_admitted.mono (by decide)) (h__law_part.mono (by decide)) (h__law_rooms.mono (by decide)) (h__law_small_guests.mono (by decide)) (h__law_waves.mono (by decide))).mono (by decide)).imp (law_imp K63.law_true)
end K63
open PySem PySem.W PyProof.Rows
set_option maxRecDepth 100000 in
set_option maxHeartbeats 0 in
theorem PySem.Challenge.cw_nightbook_k63_whole_fewest_moves_holds : PySem.Challenge.rw_nightbook_k63_whole_fewest_moves.Holds := by
  w_on; o_law; k_head; (case hw => w_witness2)
  k_fill
  refine L2.walk_ofK (l := PySem.Challenge.rw_nightbook_k63_whole_fewest_moves) (n := 63) (k := 65) (x := "_law_script") (CX := L2.CX0) (sp := D3.spLaw) rfl (by decide) rfl ⟨rfl, by decide, by decide⟩ (fun w h Y => PySem.W.kIn_of Y) ?F D3.tabs (fun _ _ _ => ⟨(fun _ h => nomatch (show _ ∈ ([] : List (Addr × Str × Pos)) from h)), (fun _ h => nomatch (show _ ∈ ([] : List (Addr × Str × Pos)) from h)), (fun _ h => nomatch (show _ ∈ ([] : List (Addr × Str × Pos)) from h))⟩) (fun _ h => nomatch (show _ ∈ ([] : List (Addr × Str × Pos)) from h)) ?S ?C
  case F =>
    intro w mg fa h KX G hmg
    have T : K63.Txt (L2.KOf KX) mg := by
      dsimp only [L2.KOf]
      have d_free_from : D3.Dg (L2.KOf KX) mg "free_from" (K63.top 1) ["rooms", "guests", "kind"] := by
        dsimp only [L2.KOf]
        refine' D3.dg_mk KX G ?b ?a ?l ?c ?k
        (case a => k_is); (case l => k_is); (case c => k_is); (case k => k_is)
        (case b => exact fun _ _ _ _ _ _ us hl => match us, hl with | [_, _, _], _ => rfl)
      have d_least_wished : D3.Dg (L2.KOf KX) mg "least_wished" (K63.top 2) ["rooms", "guests", "kind"] := by
        dsimp only [L2.KOf]
        refine' D3.dg_mk KX G ?b ?a ?l ?c ?k
        (case a => k_is); (case l => k_is); (case c => k_is); (case k => k_is)
        (case b => exact fun _ _ _ _ _ _ us hl => match us, hl with | [_, _, _], _ => rfl)
      have d_falls_of : D3.Dg (L2.KOf KX) mg "falls_of" (K63.top 3) ["rooms", "guests", "kind"] := by
        dsimp only [L2.KOf]
        refine' D3.dg_mk KX G ?b ?a ?l ?c ?k
        (case a => k_is); (case l => k_is); (case c => k_is); (case k => k_is)
        (case b => exact fun _ _ _ _ _ _ us hl => match us, hl with | [_, _, _], _ => rfl)
      have d_guest_to_move : D3.Dg (L2.KOf KX) mg "guest_to_move" (K63.top 4) ["rooms", "guests", "kind", "wished"] := by
        dsimp only [L2.KOf]
        refine' D3.dg_mk KX G ?b ?a ?l ?c ?k
        (case a => k_is); (case l => k_is); (case c => k_is); (case k => k_is)
        (case b => exact fun _ _ _ _ _ _ us hl => match us, hl with | [_, _, _, _], _ => rfl)
      have d_moves_by : D3.Dg (L2.KOf KX) mg "moves_by" (K63.top 5) ["rooms", "guests", "falls"] := by
        dsimp only [L2.KOf]
        refine' D3.dg_mk KX G ?b ?a ?l ?c ?k
        (case a => k_is); (case l => k_is); (case c => k_is); (case k => k_is)
        (case b => exact fun _ _ _ _ _ _ us hl => match us, hl with | [_, _, _], _ => rfl)
      have d_is_level : D3.Dg (L2.KOf KX) mg "is_level" (K63.top 6) ["rooms", "guests", "level"] := by
        dsimp only [L2.KOf]
        refine' D3.dg_mk KX G ?b ?a ?l ?c ?k
        (case a => k_is); (case l => k_is); (case c => k_is); (case k => k_is)
        (case b => exact fun _ _ _ _ _ _ us hl => match us, hl with | [_, _, _], _ => rfl)
      have d_admitted : D3.Dg (L2.KOf KX) mg "admitted" (K63.top 7) ["rooms", "guests", "kind"] := by
        dsimp only [L2.KOf]
        refine' D3.dg_mk KX G ?b ?a ?l ?c ?k
        (case a => k_is); (case l => k_is); (case c => k_is); (case k => k_is)
        (case b => exact fun _ _ _ _ _ _ us hl => match us, hl with | [_, _, _], _ => rfl)
      have d__law_cell : D3.Dg (L2.KOf KX) mg "_law_cell" (K63.top 9) ["_law_script", "_law_at"] := by
        dsimp only [L2.KOf]
        refine' D3.dg_mk KX G ?b ?a ?l ?c ?k
        (case a => k_is); (case l => k_is); (case c => k_is); (case k => k_is)
        (case b => exact fun _ _ _ _ _ _ us hl => match us, hl with | [_, _], _ => rfl)
      have d__law_part : D3.Dg (L2.KOf KX) mg "_law_part" (K63.top 10) ["_law_script", "_law_at", "_law_k", "_law_many"] := by
        dsimp only [L2.KOf]
        refine' D3.dg_mk KX G ?b ?a ?l ?c ?k
        (case a => k_is); (case l => k_is); (case c => k_is); (case k => k_is)
        (case b => exact fun _ _ _ _ _ _ us hl => match us, hl with | [_, _, _, _], _ => rfl)
      have d__law_rooms : D3.Dg (L2.KOf KX) mg "_law_rooms" (K63.top 12) ["_law_script", "_law_at", "_law_most"] := by
        dsimp only [L2.KOf]
        refine' D3.dg_mk KX G ?b ?a ?l ?c ?k
        (case a => k_is); (case l => k_is); (case c => k_is); (case k => k_is)
        (case b => exact fun _ _ _ _ _ _ us hl => match us, hl with | [_, _, _], _ => rfl)
      have d__law_small_guests : D3.Dg (L2.KOf KX) mg "_law_small_guests" (K63.top 15) ["_law_script", "_law_at", "_law_rooms_here"] := by
        dsimp only [L2.KOf]
        refine' D3.dg_mk KX G ?b ?a ?l ?c ?k
        (case a => k_is); (case l => k_is); (case c => k_is); (case k => k_is)
        (case b => exact fun _ _ _ _ _ _ us hl => match us, hl with | [_, _, _], _ => rfl)
      have d__law_seats : D3.Dg (L2.KOf KX) mg "_law_seats" (K63.top 16) ["_law_rooms_here", "_law_guests_here"] := by
        dsimp only [L2.KOf]
        refine' D3.dg_mk KX G ?b ?a ?l ?c ?k
        (case a => k_is); (case l => k_is); (case c => k_is); (case k => k_is)
        (case b => exact fun _ _ _ _ _ _ us hl => match us, hl with | [_, _], _ => rfl)
      have d__law_next : D3.Dg (L2.KOf KX) mg "_law_next" (K63.top 17) ["_law_rooms_here", "_law_seats_here"] := by
        dsimp only [L2.KOf]
        refine' D3.dg_mk KX G ?b ?a ?l ?c ?k
        (case a => k_is); (case l => k_is); (case c => k_is); (case k => k_is)
        (case b => exact fun _ _ _ _ _ _ us hl => match us, hl with | [_, _], _ => rfl)
      have d__law_open : D3.Dg (L2.KOf KX) mg "_law_open" (K63.top 18) ["_law_rooms_here", "_law_seats_here", "_law_kind"] := by
        dsimp only [L2.KOf]
        refine' D3.dg_mk KX G ?b ?a ?l ?c ?k
        (case a => k_is); (case l => k_is); (case c => k_is); (case k => k_is)
        (case b => exact fun _ _ _ _ _ _ us hl => match us, hl with | [_, _, _], _ => rfl)
      have d__law_waves : D3.Dg (L2.KOf KX) mg "_law_waves" (K63.top 19) ["_law_rooms_here", "_law_guests_here", "_law_kind"] := by
        dsimp only [L2.KOf]
        refine' D3.dg_mk KX G ?b ?a ?l ?c ?k
        (case a => k_is); (case l => k_is); (case c => k_is); (case k => k_is)
        (case b => exact fun _ _ _ _ _ _ us hl => match us, hl with | [_, _, _], _ => rfl)
      have d_law : D3.Dl (L2.KOf KX) mg "law" "_law_script" (K63.top 20) := by
        dsimp only [L2.KOf]
        refine' D3.dl_mk KX G ?b ?a ?l ?c ?k
        (case a => k_is); (case l => k_is); (case c => k_is); (case k => k_is)
        (case b => exact fun _ _ _ _ _ _ u => rfl)
      have b_len : mg "len" = none := by
        refine' PySem.W.mg_none_of KX G ?z
        (case z => k_is)
      have b_range : mg "range" = none := by
        refine' PySem.W.mg_none_of KX G ?z
        (case z => k_is)
      have b_abs : mg "abs" = none := by
        refine' PySem.W.mg_none_of KX G ?z
        (case z => k_is)
      have b_isinstance : mg "isinstance" = none := by
        refine' PySem.W.mg_none_of KX G ?z
        (case z => k_is)
      have b_int : mg "int" = none := by
        refine' PySem.W.mg_none_of KX G ?z
        (case z => k_is)
      have b_bool : mg "bool" = none := by
        refine' PySem.W.mg_none_of KX G ?z
        (case z => k_is)
      have b_tuple : mg "tuple" = none := by
        refine' PySem.W.mg_none_of KX G ?z
        (case z => k_is)
      have b_list : mg "list" = none := by
        refine' PySem.W.mg_none_of KX G ?z
        (case z => k_is)
      have b_str : mg "str" = none := by
        refine' PySem.W.mg_none_of KX G ?z
        (case z => k_is)
      have b_max : mg "max" = none := by
        refine' PySem.W.mg_none_of KX G ?z
        (case z => k_is)
      have b_min : mg "min" = none := by
        refine' PySem.W.mg_none_of KX G ?z
        (case z => k_is)
      have b_sorted : mg "sorted" = none := by
        refine' PySem.W.mg_none_of KX G ?z
        (case z => k_is)
      have b_sum : mg "sum" = none := by
        refine' PySem.W.mg_none_of KX G ?z
        (case z => k_is)
      have b_reversed : mg "reversed" = none := by
        refine' PySem.W.mg_none_of KX G ?z
        (case z => k_is)
      have b_enumerate : mg "enumerate" = none := by
        refine' PySem.W.mg_none_of KX G ?z
        (case z => k_is)
      have b_zip : mg "zip" = none := by
        refine' PySem.W.mg_none_of KX G ?z
        (case z => k_is)
      have b_set : mg "set" = none := by
        refine' PySem.W.mg_none_of KX G ?z
        (case z => k_is)
      have b_any : mg "any" = none := by
        refine' PySem.W.mg_none_of KX G ?z
        (case z => k_is)
      have b_all : mg "all" = none := by
        refine' PySem.W.mg_none_of KX G ?z
        (case z => k_is)
      have b_dict : mg "dict" = none := by
        refine' PySem.W.mg_none_of KX G ?z
        (case z => k_is)
      exact ⟨d_free_from, d_least_wished, d_falls_of, d_guest_to_move, d_moves_by, d_is_level, d_admitted, d__law_cell, d__law_part, d__law_rooms, d__law_small_guests, d__law_seats, d__law_next, d__law_open, d__law_waves, d_law, ⟨b_len, b_range, b_abs, b_isinstance, b_int, b_bool, b_tuple, b_list, b_str, b_max, b_min, b_sorted, b_sum, b_reversed, b_enumerate, b_zip, b_set, b_any, b_all, b_dict⟩⟩
    obtain ⟨f, fd, F, b, m⟩ := T.d_law.ex
    have e0 := hmg.symm.trans m
    cases e0
    exact ⟨fd, b, fun base kb nb => K63.law_fn T F⟩
  case S => exact fun K H a ns hl hO hS => ⟨a, ns, hO, rfl, hS, hl, fun _ => rfl⟩
  case C => exact fun _ _ _ _ z => z
