import PyProof.Rows.All
import Wide.All
import OpenK.AllK
import Wide.FinOn
import Lean
import PyProof.EqAt
import PyProof.EqKinds
import PyProof.TupleCall
import PyProof.EqLayable
import PyProof.NsDelKeeps
import KE.KIsAll
import PyProof.ExcAttrAll.ValueError
import KE.KxText
import PyProof.ExcInit
import PyProof.ExcClass2
import PyProof.InstStore
import PyProof.RaisesMany
import PyProof.RulesTry
import PyProof.ExcBaseAll.ValueError
import PyProof.InstStoreFacts
import PyProof.RulesAs
import PySem.Challenge.RW_nightbook_k18_refusals_apart
set_option Elab.async false
set_option linter.all false
set_option maxRecDepth 100000
set_option maxHeartbeats 4000000
set_option exponentiation.threshold 40000
open List renaming forall_mem_cons→aj,mem_cons_of_mem→aA,mem_cons_self→aB,mem_append_right→aK,getElem?_set_ne→aQ,length_replicate→aR,length_map→aX,mem_cons→bf,size_toArray→bh,mem_append_left→bB,replicate→bC,lookup_cons→bF,getElem?_map→bI,getElem?_append_right→bL,length_append→bM,mem_singleton→bN,getElem?_append_left→bO,forall_mem_nil→bQ,getElem?_eq_getElem→bR,lookup→bV,getElem?_set_self→bW,mem_append→bY,getElem?_eq_none→b_,all_eq_true→cj,getElem?_replicate→cD,length_set→cG,getElem?_eq_some_iff→cM,map_cons→cP,contains_cons→dg,nodup_cons→dD,getD_eq_getElem?_getD→dG,mem_map→dO,filterMap_cons→dX,mem_range→eF,range→fu,length_cons→fB,append_nil→fQ,of_mem_zip→fU,getElem?_drop→gb,drop_eq_getElem_cons→gq,drop_eq_nil_of_le→gZ,length_singleton→iG,getElem?_of_mem→iJ,getElem?_range→je,mem_filterMap→jk,length→jH
open Nat renaming reduceLeDiff→aq,reduceEqDiff→au,reduceAdd→aC,reduceLT→aF,lt_of_lt_of_le→aP,le_refl→aU,le_trans→aV,ne_of_lt→bx,not_lt→cQ,lt_irrefl→dZ,le_of_lt→fW,zero_le→gC,zero_add→g8
open Int renaming reduceEq→aG,reduceLT→aH,reduceLE→aJ,emod_lt_of_pos→dh,emod_nonneg→d7,toNat_natCast→eH
open Option renaming bind_some→aL,some→cN
open Bool renaming and_eq_true→aN,or_true→eG,false_ne_true→f9
open Array renaming getElem?_eq_some_iff→cH,mem_toList_iff→iI,length_toList→jd,find?_toList→jl
theorem dTr {p:Prop} [Decidable p] (h:p):decide p=true:=decide_eq_true h
theorem dFa {p:Prop} [Decidable p] (h:¬ p):decide p=false:=decide_eq_false h
theorem lMp {α β:Type} {f:α→β} {l:List α}:(l.map f).length=l.length:=aX f

namespace L2
open PySem PySem.Spec PyProof.Rows
abbrev Key:=Sum Int Str
def yO:Key→Value→Bool
 | .inl k,v=>Value.isInt k v
 | .inr x,v=>Value.isStrOf x v
def GF (w:World):Key→Int
 | .inl k=>hashInt k
 | .inr x=>hashStr w x
theorem cO:∀ {k:Key} {v:Value},yO k v=true→(∃ i t,k=Sum.inl i∧v=Value.int i t)∨(∃ x t,k=Sum.inr x∧v=Value.str x t)
 | .inl i,v,h=>by
  obtain ⟨t,e⟩:=Value.isInt_shape (k:=i) (v:=v) h
  exact .inl ⟨i,t,rfl,e⟩
 | .inr x,v,h=>by
  obtain ⟨t,e⟩:=Value.isStrOf_shape (x:=x) (v:=v) h
  exact .inr ⟨x,t,rfl,e⟩
theorem zJ (a b:Int):decide ((Sum.inl a:Key)=Sum.inl b)=(a == b):=by
 by_cases e:a=b
 ·subst e;simp
 ·have h:¬ (Sum.inl a:Key)=Sum.inl b:=fun q=>e (Sum.inl.inj q)
  rw [dFa h]
  exact (beq_eq_false_iff_ne.mpr e).symm
theorem zK (a b:Str):decide ((Sum.inr a:Key)=Sum.inr b)=decide (a=b):=by
 by_cases e:a=b
 ·subst e;simp
 ·have h:¬ (Sum.inr a:Key)=Sum.inr b:=fun q=>e (Sum.inr.inj q)
  rw [dFa h,dFa e]
theorem zL (a:Int) (b:Str):decide ((Sum.inl a:Key)=Sum.inr b)=false:=dFa (fun q=>nomatch q)
theorem zM (a:Str) (b:Int):decide ((Sum.inr a:Key)=Sum.inl b)=false:=dFa (fun q=>nomatch q)
def eN (prog:Program) (w:World):PySem.KeyKind prog w Key where
 is:=yO
 hash:=GF w
 inj:=fun v a b ha hb=>by
  rcases cO ha with ⟨i,t,rfl,rfl⟩ | ⟨x,t,rfl,rfl⟩
  ·rcases cO hb with ⟨j,u,rfl,e⟩ | ⟨y,u,rfl,e⟩
   ·injection e with e1 _;rw [e1]
   ·exact nomatch e
  ·rcases cO hb with ⟨j,u,rfl,e⟩ | ⟨y,u,rfl,e⟩
   ·exact nomatch e
   ·injection e with e1 _;rw [e1]
 byValue:=fun k v h=>by
  rcases cO h with ⟨i,t,rfl,rfl⟩ | ⟨x,t,rfl,rfl⟩ <;> rfl
 pyHash:=fun hv h=>by
  rcases cO hv with ⟨i,t,rfl,rfl⟩ | ⟨x,t,rfl,rfl⟩
  ·exact wpAny_pyHash_int h
  ·exact wpAny_pyHash_str h
 eqBool:=fun hu hv h=>by
  rcases cO hu with ⟨i,t,rfl,rfl⟩ | ⟨x,t,rfl,rfl⟩
  ·rcases cO hv with ⟨j,u,rfl,rfl⟩ | ⟨y,u,rfl,rfl⟩
   ·rw [zJ] at h;exact wpAny_eqBool_int h
   ·rw [zL] at h;exact SeqAt.EqAt.int_str i t y u _ _ _ _ h
  ·rcases cO hv with ⟨j,u,rfl,rfl⟩ | ⟨y,u,rfl,rfl⟩
   ·rw [zM] at h;exact SeqAt.EqAt.str_int x t j u _ _ _ _ h
   ·rw [zK] at h;exact wpAny_eqBool_str h
 «strs»:=fun k x t v h=>by
  rcases cO h with ⟨i,u,rfl,e⟩ | ⟨y,u,rfl,e⟩
  ·exact nomatch e
  ·injection e with e1 _
   subst e1
   cases v <;> rfl
end L2
namespace L2
open PySem PySem.Spec PyProof.Rows
inductive V where
 | non | bl (b:Bool) | int (i:Int) | str (x:Str) | byt (b:Array UInt8) | flt (b:UInt64) | ref (a:Addr) | ty (n:String)
 deriving DecidableEq
def RelV:V→Value→Prop
 | .non,u=>u=Value.none
 | .bl b,u=>u=Value.bool b
 | .int i,u=>∃ t,u=Value.int i t
 | .str x,u=>∃ t,u=Value.str x t
 | .byt b,u=>∃ t,u=Value.bytes b t
 | .flt b,u=>∃ t,u=Value.float b t
 | .ref a,u=>u=Value.ref a
 | .ty n,u=>u=Value.type n
abbrev Vals:List V→List Value→Prop:=Paired RelV
theorem Vals.length {xs:List V} {us:List Value} (r:Vals xs us):xs.length=us.length:=Paired.length r
theorem Vals.get:∀ {xs:List V} {us:List Value} {i:Nat} {x:V},Vals xs us→xs[i]? = some x→∃ u,us[i]? = some u∧RelV x u
 | _,_,_,_,.nil,e=>by simp at e
 | _,_,0,_,.cons r _,e=>by simp at e;subst e;exact ⟨_,rfl,r⟩
 | _,_,i + 1,x,.cons _ t,e=>by
  obtain ⟨u,h1,h2⟩:=Vals.get (i:=i) (x:=x) t (by simpa using e)
  exact ⟨u,by simpa using h1,h2⟩
theorem Vals.set {x:V} {u:Value} (r:RelV x u):∀ {xs:List V} {us:List Value} (i:Nat),Vals xs us→Vals (xs.set i x) (us.set i u)
 | _,_,_,.nil=>.nil
 | _,_,0,.cons _ t=>.cons r t
 | _,_,i + 1,.cons q t=>.cons q (Vals.set r i t)
theorem Vals.append:∀ {xs ys:List V} {us ws:List Value},Vals xs us→Vals ys ws→Vals (xs++ys) (us++ws)
 | _,_,_,_,.nil,s=>s
 | _,_,_,_,.cons r t,s=>.cons r (Vals.append t s)
theorem Vals.take:∀ {xs:List V} {us:List Value} (n:Nat),Vals xs us→Vals (xs.take n) (us.take n)
 | _,_,0,_=>.nil
 | _,_,_ + 1,.nil=>.nil
 | _,_,n + 1,.cons r t=>.cons r (Vals.take n t)
theorem Vals.drop:∀ {xs:List V} {us:List Value} (n:Nat),Vals xs us→Vals (xs.drop n) (us.drop n)
 | _,_,0,r=>r
 | _,_,_ + 1,.nil=>.nil
 | _,_,n + 1,.cons _ t=>Vals.drop n t
def zN:Option V→Option Value→Prop
 | some v,some u=>RelV v u
 | none,none=>True
 | _,_=>False
def KV {κ:Type}:List (κ × V)→List (κ × Value)→Prop:=Paired fun (p:κ × V) (q:κ × Value)=>p.1=q.1∧RelV p.2 q.2
def kV:Key→V
 | .inl i=>.int i
 | .inr x=>.str x
inductive HO where
 /-- a list -/
 | lst (xs:List V)
 /-- a tuple (never changes) -/
 | tup (xs:List V)
 /-- a dict whose keys are ints and texts;one whose keys are tuples of ints and texts (the empty one is both) -/
 | dK (kvs:List (Key × V)) | dT (kvs:List (List Key × V))
 /-- a set of ints: its members,its size -/
 | set (S:Int→Bool) (n:Nat)
 /-- an instance of the class at C,its dict at dx,its attributes -/
 | ins (C dx:Addr) (fs:List (Str × V))
 /-- the dict of the instance at x -/
 | own (x:Addr)
 /-- the dict of an exception -/
 | xd (fs:List (Str × V))
 /-- a bound method,f of x -/
 | met (f x:Addr)
 /-- a range object lo,lo + 1,.. below hi -/
 | rng (lo hi:Int)
 /-- a thing that is known to the object (the script;a dict while a loop walks it): read,never written while it is so -/
 | frz (o:Obj) (u:HO)
 /-- a code object's table -/
 | tbl (q:Str) (p:Pos)
 /-- any other thing,by what is true of its one object (a def of one's own: SetO a S n:=HO.ext fun h=>..) -/
 | ext (φ:Heap→Prop)
abbrev Hp:=Addr→Option HO
def upd (H:Hp) (a:Addr) (o:HO):Hp:=fun b=>if b=a then some o else H b
theorem dH {H:Hp} {a:Addr} {o:HO}:upd H a o a=some o:=by unfold upd;rw [if_pos rfl]
theorem bK {H:Hp} {a b:Addr} {o:HO} (h:b ≠ a):upd H a o b=H b:=by unfold upd;rw [if_neg h]
theorem ni {H:Hp} {a b:Addr} {o u:HO} (h:H a=some o) (h':H b=some u) (d:o ≠ u):a ≠ b:=by
 intro e;subst e;rw [h] at h';exact d (cN.inj h')
theorem d9 {H:Hp} {a b:Addr} {o:HO} (h:H a=some o) (h':H b=none):a ≠ b:=by
 intro e;subst e;rw [h] at h';cases h'
section
variable (P:Program) (w:World)
def dF (H:Hp) (h:Heap) (a:Addr):HO→Prop
 | .lst xs=>xs.length ≤ sizeLine∧∃ (its:List Value) (n:Nat),Vals xs its∧h.get? a=some { cls:=.type "list", data:=.seq its.toArray n }
 | .tup xs=>xs.length ≤ sizeLine∧∃ its:List Value,Vals xs its∧IsTup h a its.toArray
 | .dK kvs=>kvs.length ≤ sizeLine∧(a == sysModules)=false∧∃ vs,KV kvs vs∧h.DictOf (eN P w) a vs
 | .dT kvs=>kvs.length ≤ sizeLine∧(a == sysModules)=false∧∃ xs:List (List Key × Addr × Value),
  Paired (fun (p:List Key × V) (q:List Key × Addr × Value)=>p.1=q.1∧H q.2.1=some (.tup (p.1.map kV))∧RelV p.2 q.2.2) kvs xs ∧
  ∃ o es ep,h.get? a=some o∧o.ExactDict∧o.data = .dict es ep∧es.toList=xs.map (entryOfKey (tupleKind (eN P w)))∧(xs.map (·.1)).Nodup
 | .set S n=>h.SetOf (intKind P w) a S n
 | .ins C dx fs=>H dx=some (.own a)∧fs.length ≤ 1000∧dx ≠ a∧h.get? a=some (PySem.W.instObj C dx) ∧
  ∃ mA,h.Ns1 dx mA∧(∀ f,zN (fs.lookup f) (mA f))∧PySem.Within mA (fs.map (·.1))
 | .own _=>∃ o,h.get? a=some o
 | .xd fs=>∃ mA,h.Ns1 a mA∧∀ f,zN (fs.lookup f) (mA f)
 | .rng lo hi=>∃ t u v,h.get? a=some { cls:=.type "range", data:=.fields #[.int lo t,.int hi u,.int 1 v] }
 | .frz o u=>h.get? a=some o∧dF H h a u
 | .tbl q p=>∃ ps,h.get? a=some { cls:=.none,data:=.fields ps }∧(ps = #[]∨∃ c',ps = #[rawInt p.line,rawInt p.col,.ref c']∧H c'=some (.own a)∧h.CodeRec (.ref c') q)
 | .met f x=>h.get? a=some (PySem.W.methodObj (.ref f) (.ref x))
 | .ext φ=>φ h∧(∃ o,h.get? a=some o)∧∀ h1 h2:Heap,φ h1→(∀ o,h1.get? a=some o→h2.get? a=some o)→φ h2
def HOk (H:Hp) (h:Heap):Prop:=∀ a o,H a=some o→dF P w H h a o
end
section
variable {P:Program} {w:World} {H H':Hp} {h h':Heap} {a:Addr} {o:HO}
theorem dF.lt (x:dF P w H h a o):a < h.objs.size:=by
 cases o with
 | lst xs=>obtain ⟨_,_,_,_,e⟩:=x;exact Heap.lt_size e
 | tup xs=>obtain ⟨_,_,_,p⟩:=x;exact p.lt
 | dK kvs=>obtain ⟨_,_,_,_,o,_,_,e,_⟩:=x;exact Heap.lt_size e
 | dT kvs=>obtain ⟨_,_,_,_,o,_,_,e,_⟩:=x;exact Heap.lt_size e
 | set S n=>obtain ⟨o,_,_,_,e,_⟩:=x;exact Heap.lt_size e
 | ins C dx fs=>obtain ⟨_,_,_,e,_⟩:=x;exact Heap.lt_size e
 | own y=>obtain ⟨_,e⟩:=x;exact Heap.lt_size e
 | xd fs=>obtain ⟨_,⟨_,_,_,e,_⟩,_⟩:=x;exact Heap.lt_size e
 | rng lo hi=>obtain ⟨_,_,_,e⟩:=x;exact Heap.lt_size e
 | frz ob u=>obtain ⟨e,_⟩:=x;exact Heap.lt_size e
 | tbl q p=>obtain ⟨_,e,_⟩:=x;exact Heap.lt_size e
 | met f y=>exact Heap.lt_size (show h.get? a=some _ from x)
 | ext φ=>obtain ⟨_,⟨_,e⟩,_⟩:=x;exact Heap.lt_size e
theorem Paired.mapP {α β:Type} {F G:α→β→Prop}:∀ {l₁:List α} {l₂:List β},Paired F l₁ l₂→(∀ a b,F a b→G a b)→Paired G l₁ l₂
 | _,_,.nil,_=>.nil
 | _,_,.cons r t,f=>.cons (f _ _ r) (Paired.mapP t f)
theorem dF.stay (x:dF P w H h a o) (k:∀ b u,(b=a∨H b=some (.own a))→h.get? b=some u→h'.get? b=some u)
 (ho:∀ b,H b=some (.own a)→H' b=some (.own a)) (ht:∀ b xs,H b=some (.tup xs)→H' b=some (.tup xs)):dF P w H' h' a o:=by
 induction o with
 | lst xs=>obtain ⟨z,its,n,r,e⟩:=x;exact ⟨z,its,n,r,k _ _ (.inl rfl) e⟩
 | tup xs=>obtain ⟨z,its,r,ob,e,c⟩:=x;exact ⟨z,its,r,ob,k _ _ (.inl rfl) e,c⟩
 | dK kvs=>obtain ⟨z,y,vs,r,ob,es,ep,e,c⟩:=x;exact ⟨z,y,vs,r,ob,es,ep,k _ _ (.inl rfl) e,c⟩
 | dT kvs =>
  obtain ⟨z,y,xs,r,ob,es,ep,e,c⟩:=x
  exact ⟨z,y,xs,Paired.mapP r fun p q z=>⟨z.1,ht _ _ z.2.1,z.2.2⟩,ob,es,ep,k _ _ (.inl rfl) e,c⟩
 | set S n=>obtain ⟨ob,es,ep,t,e,c⟩:=x;exact ⟨ob,es,ep,t,k _ _ (.inl rfl) e,c⟩
 | ins C dx fs =>
  obtain ⟨d,z,ne,e,mA,⟨od,es,ep,e2,c⟩,r⟩:=x
  exact ⟨ho _ d,z,ne,k _ _ (.inl rfl) e,mA,⟨od,es,ep,k _ _ (.inr d) e2,c⟩,r⟩
 | own y=>obtain ⟨ob,e⟩:=x;exact ⟨ob,k _ _ (.inl rfl) e⟩
 | xd fs=>obtain ⟨mA,⟨od,es,ep,e,c⟩,r⟩:=x;exact ⟨mA,⟨od,es,ep,k _ _ (.inl rfl) e,c⟩,r⟩
 | rng lo hi=>obtain ⟨t,u,v,e⟩:=x;exact ⟨t,u,v,k _ _ (.inl rfl) e⟩
 | frz ob u ih=>obtain ⟨e,q⟩:=x;exact ⟨k _ _ (.inl rfl) e,ih q⟩
 | tbl q p =>
  obtain ⟨ps,e,z⟩:=x
  refine ⟨ps,k a _ (.inl rfl) e,?_⟩
  rcases z with z | ⟨c',z1,z2,z3⟩
  ·exact .inl z
  ·obtain ⟨c,oc,vs,tq,hc,hoc,hdc,hq⟩:=z3
   have hc':c'=c:=by injection hc
   exact .inr ⟨c',z1,ho _ z2,c,oc,vs,tq,hc,k _ _ (.inr (hc' ▸ z2)) hoc,hdc,hq⟩
 | met f y =>
  have e:h.get? a=some (PySem.W.methodObj (.ref f) (.ref y)):=x
  show h'.get? a=some (PySem.W.methodObj (.ref f) (.ref y))
  exact k a _ (.inl rfl) e
 | ext φ=>obtain ⟨p,⟨o,e⟩,st⟩:=x;exact ⟨st _ _ p fun o q=>k _ _ (.inl rfl) q,⟨o,k _ _ (.inl rfl) e⟩,st⟩
theorem HOk.lt (x:HOk P w H h) (e:H a=some o):a < h.objs.size:=(x a o e).lt
theorem HOk.fresh (x:HOk P w H h) (e:h.objs.size ≤ a):H a=none:=by
 cases q:H a with
 | none=>rfl
 | some u=>exact absurd (aP (x.lt q) e) (dZ _)
theorem HOk.kept (x:HOk P w H h) (k:∀ b u,h.get? b=some u→h'.get? b=some u):HOk P w H h':=fun a o e =>
 (x a o e).stay (fun b u _ q=>k b u q) (fun _ q=>q) fun _ _ q=>q
theorem HOk.laid (x:HOk P w H h) (k:∀ b u,h.get? b=some u→h'.get? b=some u) (hp:h.objs.size ≤ a) (new:dF P w (upd H a o) h' a o):HOk P w (upd H a o) h':=fun b u e=>by
 have hn:=x.fresh hp
 by_cases hb:b=a
 ·subst hb;rw [dH] at e;cases e;exact new
 ·rw [bK hb] at e
  exact (x b u e).stay (fun c v _ q=>k c v q) (fun c q=>by rw [bK (d9 q hn)];exact q) fun c xs q=>by rw [bK (d9 q hn)];exact q
end
def Rd (H:Hp) (a:Addr) (u:HO):Prop:=H a=some u∨∃ o,H a=some (.frz o u)
theorem Rd.ok {P:Program} {w:World} {H:Hp} {h:Heap} {a:Addr} {u:HO} (r:Rd H a u) (x:HOk P w H h):dF P w H h a u:=by
 rcases r with r | ⟨o,r⟩
 ·exact x a u r
 ·obtain ⟨_,q⟩:=x a _ r
  exact q
def Mut:Option HO→Prop
 | some (.lst _)=>True
 | some (.dK _)=>True
 | some (.dT _)=>True
 | some (.set _ _)=>True
 | some (.ins _ _ _)=>True
 | some (.ext _)=>True
 | _=>False
section
variable {P:Program} {w:World} {H:Hp} {h h':Heap} {x e:Addr} {o':HO}
theorem HOk.write (ok:HOk P w H h) (mu:Mut (H x)) (he:e=x∨H e=some (.own x)) (k:∀ b u,b ≠ e→h.get? b=some u→h'.get? b=some u) (heo:∃ u,h'.get? e=some u)
 (new:dF P w (upd H x o') h' x o'):HOk P w (upd H x o') h':=fun b u q=>by
 have nown:∀ c y,H c=some (.own y)→c ≠ x:=fun c y r z=>by subst z;rw [r] at mu;exact mu
 have ntup:∀ c xs,H c=some (.tup xs)→c ≠ x:=fun c xs r z=>by subst z;rw [r] at mu;exact mu
 by_cases hb:b=x
 ·subst hb;rw [dH] at q;cases q;exact new
 ·rw [bK hb] at q
  by_cases hbe:b=e
  ·have q':H b=some (.own x):=by
    rcases he with z | z
    ·exact absurd (hbe.trans z) hb
    ·rw [hbe];exact z
   rw [q] at q';cases q'
   obtain ⟨v,hv⟩:=heo
   exact ⟨v,by rw [hbe];exact hv⟩
  ·refine (ok b u q).stay (fun c v hc r=>k c v ?_ r) (fun c r=>by rw [bK (nown c b r)];exact r) fun c xs r=>by rw [bK (ntup c xs r)];exact r
   rcases hc with rfl | hc
   ·exact hbe
   ·rintro rfl
    rcases he with z | z
    ·exact nown c b hc z
    ·rw [hc] at z;cases z;exact hb rfl
end
structure Un (fs ex:List Addr) (H H':Hp) (h h':Heap):Prop where
 keep:∀ b o,h.get? b=some o→H b=none→b ∉ fs→b ∉ ex→h'.get? b=some o
 slot:∀ b o,h.get? b=some o→H b=none→b ∈ fs→b ∉ ex→∃ sl,h'.get? b=some { o with slots:=sl }
 free:∀ b o,h.get? b=some o→H b=none→b ∉ ex→H' b=none
 there:∀ b o,h.get? b=some o→b ∉ ex→∃ o',h'.get? b=some o'
 tups:∀ b xs,H b=some (.tup xs)→H' b=some (.tup xs)
 frzs:∀ b o u,H b=some (.frz o u)→H' b=some (.frz o u)
 tbls:∀ b q p,H b=some (.tbl q p)→H' b=some (.tbl q p)
section
variable {fs fs' ex ex':List Addr} {H H1 H2:Hp} {h h1 h2 h':Heap} {a x e:Addr} {o:HO}
theorem Un.any (u:Un fs ex H H1 h h1) {b:Addr} {ob:Obj} (q:h.get? b=some ob) (n:H b=none) (hx:b ∉ ex):∃ sl,h1.get? b=some { ob with slots:=sl }:=by
 by_cases hb:b ∈ fs
 ·exact u.slot b ob q n hb hx
 ·exact ⟨ob.slots,u.keep b ob q n hb hx⟩
theorem Un.kept (k:∀ b u,h.get? b=some u→h'.get? b=some u):Un fs ex H H h h' :=
 ⟨fun b ob q _ _ _=>k b ob q,fun b ob q _ _ _=>⟨ob.slots,k b ob q⟩,fun _ _ _ n _=>n,fun b ob q _=>⟨ob,k b ob q⟩,fun _ _ q=>q,fun _ _ _ q=>q,fun _ _ _ q=>q⟩
theorem Un.refl:Un fs ex H H h h:=Un.kept fun _ _ q=>q
theorem Un.laid (k:∀ b u,h.get? b=some u→h'.get? b=some u) (hp:h.objs.size ≤ a) (hn:H a=none):Un fs ex H (upd H a o) h h' where
 keep:=fun b u q _ _ _=>k b u q
 slot:=fun b u q _ _ _=>⟨u.slots,k b u q⟩
 free:=fun b u q n _=>by rw [bK (bx (aP (Heap.lt_size q) hp))];exact n
 there:=fun b u q _=>⟨u,k b u q⟩
 tups:=fun b xs q=>by rw [bK (d9 q hn)];exact q
 frzs:=fun b u xs q=>by rw [bK (d9 q hn)];exact q
 tbls:=fun b q p e=>by rw [bK (d9 e hn)];exact e
theorem Un.write (mu:Mut (H x)) (he:e=x∨H e=some (.own x)) (k:∀ b u,b ≠ e→h.get? b=some u→h'.get? b=some u) (heo:∃ u,h'.get? e=some u):Un fs ex H (upd H x o) h h':=by
 have hx:∀ b,H b=none→b ≠ x:=fun b n z=>by subst z;rw [n] at mu;exact mu
 have hb:∀ b,H b=none→b ≠ e:=fun b n z=>by
  subst z
  rcases he with r | r
  ·exact hx b n r
  ·rw [n] at r;cases r
 have hm:∀ b u,H b=some u→¬ Mut (some u)→b ≠ x:=fun b u q nm z=>by subst z;rw [q] at mu;exact nm mu
 refine ⟨fun b u q n _ _=>k b u (hb b n) q,fun b u q n _ _=>⟨u.slots,k b u (hb b n) q⟩,fun b u q n _=>by rw [bK (hx b n)];exact n,fun b u q _=>?_,
  fun b xs q=>by rw [bK (hm b _ q fun z=>z)];exact q,fun b u xs q=>by rw [bK (hm b _ q fun z=>z)];exact q,fun b q p e=>by rw [bK (hm b _ e fun z=>z)];exact e⟩
 by_cases hbe:b=e
 ·subst hbe;exact heo
 ·exact ⟨u,k b u hbe q⟩
end
def trk (h:Heap) (H:Hp):List Addr:=(fu h.objs.size).filter fun a=>(H a).isSome
def mz (h:Heap) (H:Hp):Heap:=PySem.W.hideAll h (trk h H)
theorem qW (h:Heap) (H:Hp):(mz h H).objs.size=h.objs.size:=PySem.W.hideAll_size _ _
theorem sH {h:Heap} {H:Hp} {b:Addr} {o:Obj} (e:h.get? b=some o) (n:H b=none):(mz h H).get? b=some o :=
 PySem.W.hideAll_get _ e fun hm=>by
  have q:(H b).isSome=true:=(List.mem_filter.mp hm).2
  rw [n] at q;simp at q
theorem vJ {h:Heap} {H:Hp} {b:Addr} {o:Obj} (e:(mz h H).get? b=some o):h.get? b=some o∧H b=none:=by
 have e':h.get? b=some o:=PySem.W.of_hideAll (trk h H) e
 refine ⟨e',?_⟩
 cases q:H b with
 | none=>rfl
 | some x =>
  have hm:b ∈ trk h H:=List.mem_filter.mpr ⟨eF.mpr (Heap.lt_size e'),by simp [q]⟩
  have z:(mz h H).get? b=none:=PySem.W.hideAll_none (trk h H) hm
  rw [z] at e;cases e
end L2
namespace L2
open PySem PySem.Spec PyProof.Rows
structure Mod (K:PySem.W.Frag) (mg:Str→Option Value) (base:Heap):Prop where
 kin:K.In base
 glob:base.Ns mainGlobals mg
 blt:∃ mb,base.Ns builtinsNs mb∧∀ x:Str,x ≠ "__name__" → mb x=bootBuiltins x
 nolimit:base.NoLimit
 bm:∃ bm ob,mg "__builtins__" = some (.ref bm)∧bm ≠ builtinsNs∧base.get? bm=some ob∧ob.cls = .type "module" ∧ ob.dict=some builtinsNs∧ob.data = .plain
structure Cx where
 prog:Program
 w:World
 K:PySem.W.Frag
 mg:Str→Option Value
 base:Heap
 A:Around
 N:List Str
 s₀:Shared
 H₀:Hp
 env:Env
 outer:List Env
 stack:List Env
 ex:List Addr
 fn:Str→Bool
 calm:Bool
 pn:List (Addr × Obj)
 xe:Value→Shared→Prop
def frs (l:List Env):List Addr:=l.filterMap (·.frame)
abbrev Cx.fs (X:Cx):List Addr:=frs X.outer
def Vis (sc:Scope) (x:Str):Prop:=sc.names.lookup x=some .local∨sc.names.lookup x=some .cell∨sc.names.lookup x=some .free
def Loc (sc:Scope) (x:Str):Prop:=sc.names.lookup x=some .local∨sc.names.lookup x=some .cell
def Look (env:Env) (h:Heap) (m:Str→Option Value) (x:Str) (u:Value):Prop :=
 (env.kindOf x=some .local∧m x=some u)∨((env.kindOf x=some .cell∨env.kindOf x=some .free)∧∃ c,env.cells.lookup x=some c∧h.IsCell c (some u))
structure Cx.Ok (X:Cx):Prop where
 mod:Mod X.K X.mg X.base
 kind:X.env.scope.kind = .function
 glob:X.env.globals=mainGlobals
 blt:X.env.builtins=builtinsNs
 above:X.s₀.heap.objs.size ≤ X.env.locals
 inj:∀ x y c,X.env.cells.lookup x=some c→X.env.cells.lookup y=some c→x=y
 has:∀ x,(X.env.kindOf x=some .cell∨X.env.kindOf x=some .free)→∃ c,X.env.cells.lookup x=some c
 cab:∀ x c,X.fn x=true→X.env.cells.lookup x=some c→X.s₀.heap.objs.size ≤ c
 hd:X.calm=true→X.A.handled=none
 frames:X.A.frames=some X.stack
 stk:X.stack=X.outer∨(X.stack=X.env :: X.outer∧X.env.frame=some X.env.locals)
 exf:∀ b ∈ X.ex,b ≠ X.env.locals∧∀ x c,X.env.cells.lookup x=some c→c ≠ b
 bs:∀ b o,X.base.get? b=some o→X.s₀.heap.get? b=some o∧X.H₀ b=none
 bsz:X.base.objs.size ≤ X.s₀.heap.objs.size
 noex:∀ b o,X.base.get? b=some o→b ∉ X.ex
 exfs:∀ b ∈ X.ex,b ∉ X.fs
 funs:X.s₀.heap.FunFrames X.base X.outer
 frf:∀ b ∈ X.fs,X.H₀ b=none
structure Inv (X:Cx) (pins:List (Addr × Obj)) (σ:List (Option V)) (H:Hp) (s:Shared):Prop where
 ok:X.Ok
 os:s.os=X.s₀.os
 bare:AllBare s.gens
 base:Un X.fs X.ex X.H₀ H X.s₀.heap s.heap
 loc:∃ m,s.heap.Ns X.env.locals m∧∀ (i:Nat) (x:Str) (v:V),X.N[i]? = some x→σ[i]? = some (some v)→Vis X.env.scope x→∃ u,RelV v u∧Look X.env s.heap m x u
 cell:∀ x c,X.env.cells.lookup x=some c→∃ v,s.heap.IsCell c v
 free:H X.env.locals=none
 freeC:∀ x c,X.env.cells.lookup x=some c→H c=none
 pin:∀ p ∈ X.pn++pins,s.heap.get? p.1=some p.2∧H p.1=none∧p.1 ≠ X.env.locals∧p.1 ∉ X.fs∧∀ v,p.2.data ≠ .cell v
 hok:HOk X.prog X.w H s.heap
 len:σ.length=X.N.length
section
variable {X:Cx} {pins:List (Addr × Obj)} {σ:List (Option V)} {H H':Hp} {s:Shared} {h':Heap}
theorem Cx.Ok.nofr (ok:X.Ok) {b:Addr} {o:Obj} (e:X.base.get? b=some o):b ∉ X.fs:=fun hb=>by
 have:=(ok.funs.mem hb).1
 rw [e] at this;cases this
theorem Inv.bs (I:Inv X pins σ H s):∀ b o,X.base.get? b=some o→s.heap.get? b=some o∧H b=none:=fun b o e =>
 ⟨I.base.keep b o (I.ok.bs b o e).1 (I.ok.bs b o e).2 (I.ok.nofr e) (I.ok.noex b o e),I.base.free b o (I.ok.bs b o e).1 (I.ok.bs b o e).2 (I.ok.noex b o e)⟩
theorem Inv.bk (I:Inv X pins σ H s):∀ b o,X.base.get? b=some o→s.heap.get? b=some o:=fun b o e=>(I.bs b o e).1
theorem Inv.mod (I:Inv X pins σ H s):Mod X.K X.mg X.base:=I.ok.mod
theorem Inv.kIn (I:Inv X pins σ H s):X.K.In s.heap:=I.ok.mod.kin.keeps I.bk
theorem Inv.lt (I:Inv X pins σ H s):X.env.locals < s.heap.objs.size:=let ⟨_,hn,_⟩:=I.loc;hn.lt
theorem Inv.sz (I:Inv X pins σ H s):X.s₀.heap.objs.size ≤ s.heap.objs.size:=aV I.ok.above (fW I.lt)
theorem Inv.nofs (I:Inv X pins σ H s) {a:Addr} (h:s.heap.objs.size ≤ a):a ∉ X.fs:=fun hb=>by
 obtain ⟨_,o,ho,_⟩:=I.ok.funs.mem hb
 exact absurd (aP (Heap.lt_size ho) (aV I.sz h)) (dZ _)
theorem Inv.cne (I:Inv X pins σ H s):∀ x c,X.env.cells.lookup x=some c→c ≠ X.env.locals:=fun x c e z=>by
 obtain ⟨v,o,ho,hd⟩:=I.cell x c e
 obtain ⟨m,⟨o',es,ep,ho',hd',_⟩,_⟩:=I.loc
 rw [z,ho'] at ho;cases ho;rw [hd'] at hd;cases hd
theorem Inv.funs (I:Inv X pins σ H s):s.heap.FunFrames X.base X.outer:=by
 have all:∀ (l:List Env),(∀ b ∈ frs l,b ∈ X.fs)→X.s₀.heap.FunFrames X.base l→s.heap.FunFrames X.base l:=by
  intro l
  induction l with
  | nil=>intro _ _;trivial
  | cons env r ih =>
   intro hs hl
   obtain ⟨hk,⟨L,o,hf,hn,ho,hd⟩,hr⟩:=hl
   have hL:L ∈ X.fs:=hs L (by unfold frs;rw [dX,hf];exact aB)
   obtain ⟨sl,e⟩:=I.base.slot L o ho (I.ok.frf L hL) hL fun z=>I.ok.exfs L z hL
   exact ⟨hk,⟨L,_,hf,hn,e,hd⟩,ih (fun b hb=>hs b (by unfold frs;rw [dX,hf];exact aA _ hb)) hr⟩
 exact all X.outer (fun _ hb=>hb) I.ok.funs
theorem Inv.stack (I:Inv X pins σ H s):s.heap.FunFrames X.base X.stack:=by
 rcases I.ok.stk with e | ⟨e,hf⟩
 ·rw [e];exact I.funs
 ·rw [e]
  obtain ⟨m,hn,_⟩:=I.loc
  refine .cons (by rw [I.ok.kind];decide) hf hn ?_ I.funs
  exact Heap.get?_none_of_le (aV I.ok.bsz I.ok.above)
theorem Inv.stkSub (I:Inv X pins σ H s):∀ b ∈ frs X.stack,b ∈ X.env.locals :: X.fs:=fun b hb=>by
 rcases I.ok.stk with e | ⟨e,hf⟩
 ·rw [e] at hb;exact aA _ hb
 ·rw [e] at hb
  unfold frs at hb
  rw [dX,hf] at hb
  exact hb
theorem Inv.stkFree (I:Inv X pins σ H s):∀ b ∈ frs X.stack,H b=none:=fun b hb=>by
 rcases bf.mp (I.stkSub b hb) with e | hb
 ·rw [e];exact I.free
 ·obtain ⟨_,o,ho,_⟩:=I.ok.funs.mem hb
  exact I.base.free b o ho (I.ok.frf b hb) fun z=>I.ok.exfs b z hb
theorem Inv.step {g':Array GenState} {t':Nat} {d':Drawn} {ch:List Addr} (I:Inv X pins σ H s)
 (hch:∀ b ∈ ch,(b ∈ X.ex∨X.s₀.heap.objs.size ≤ b)∧b ≠ X.env.locals∧(∀ x c,X.env.cells.lookup x=some c→c ≠ b)∧∀ p ∈ X.pn++pins,p.1 ≠ b)
 (keep:∀ b o,b ≠ X.env.locals→b ∉ X.fs→b ∉ ch→s.heap.get? b=some o→H b=none→h'.get? b=some o)
 (slot:∀ b o,b ≠ X.env.locals→b ∈ X.fs→b ∉ ch→s.heap.get? b=some o→H b=none→∃ sl,h'.get? b=some { o with slots:=sl }) (free:∀ b o,b ∉ ch→s.heap.get? b=some o→H b=none→H' b=none)
 (there:∀ b o,b ∉ ch→s.heap.get? b=some o→∃ o',h'.get? b=some o')
 (tups:∀ b xs,H b=some (.tup xs)→H' b=some (.tup xs)) (frzs:∀ b o u,H b=some (.frz o u)→H' b=some (.frz o u)) (tbls:∀ b q p,H b=some (.tbl q p)→H' b=some (.tbl q p))
 (ns:∀ m,s.heap.Ns X.env.locals m→h'.Ns X.env.locals m) (hok:HOk X.prog X.w H' h') (hg:AllBare g') :
 Inv X pins σ H' { s with heap:=h',gens:=g',drawn:=d',toks:=t' }:=by
 have neL:∀ b o,X.s₀.heap.get? b=some o→b ≠ X.env.locals:=fun b o e=>bx (aP (Heap.lt_size e) I.ok.above)
 have neC:∀ b o,X.s₀.heap.get? b=some o→b ∉ X.ex→b ∉ ch:=fun b o e hx hb=>by
  rcases (hch b hb).1 with z | z
  ·exact hx z
  ·exact absurd (aP (Heap.lt_size e) z) (dZ _)
 have cellK:∀ x c,X.env.cells.lookup x=some c→∀ v,s.heap.IsCell c v→h'.IsCell c v:=fun x c e v ⟨o,ho,hd⟩=>by
  have nch:c ∉ ch:=fun z=>(hch c z).2.2.1 x c e rfl
  by_cases hc:c ∈ X.fs
  ·obtain ⟨sl,q⟩:=slot c o (I.cne x c e) hc nch ho (I.freeC x c e)
   exact ⟨_,q,hd⟩
  ·exact ⟨o,keep c o (I.cne x c e) hc nch ho (I.freeC x c e),hd⟩
 refine ⟨I.ok,I.os,hg,⟨fun b o e n hb hx=>?_,fun b o e n hb hx=>?_,fun b o e n hx=>?_,fun b o e hx=>?_,fun b xs e=>tups b xs (I.base.tups b xs e),fun b o xs e=>frzs b o xs (I.base.frzs b o xs e),fun b q p e=>tbls b q p (I.base.tbls b q p e)⟩,?_,fun x c e=>?_,?_,fun x c e=>?_,fun p hp=>?_,hok,I.len⟩
 ·exact keep b o (neL b o e) hb (neC b o e hx) (I.base.keep b o e n hb hx) (I.base.free b o e n hx)
 ·obtain ⟨sl,e1⟩:=I.base.slot b o e n hb hx
  obtain ⟨sl',e2⟩:=slot b _ (neL b o e) hb (neC b o e hx) e1 (I.base.free b o e n hx)
  exact ⟨sl',e2⟩
 ·obtain ⟨o',e1⟩:=I.base.there b o e hx
  exact free b o' (neC b o e hx) e1 (I.base.free b o e n hx)
 ·obtain ⟨o',e1⟩:=I.base.there b o e hx
  exact there b o' (neC b o e hx) e1
 ·obtain ⟨m,hn,hl⟩:=I.loc
  refine ⟨m,ns m hn,fun i x v e1 e2 e3=>?_⟩
  obtain ⟨u,r,l⟩:=hl i x v e1 e2 e3
  refine ⟨u,r,?_⟩
  rcases l with l | ⟨k,c,e,z⟩
  ·exact .inl l
  ·exact .inr ⟨k,c,e,cellK x c e _ z⟩
 ·obtain ⟨v,z⟩:=I.cell x c e
  exact ⟨v,cellK x c e v z⟩
 ·obtain ⟨m,⟨o,_,_,ho,_⟩,_⟩:=I.loc
  exact free _ o (fun z=>(hch _ z).2.1 rfl) ho I.free
 ·obtain ⟨v,o,ho,hd⟩:=I.cell x c e
  exact free c o (fun z=>(hch c z).2.2.1 x c e rfl) ho (I.freeC x c e)
 ·obtain ⟨e,n,ne,nf,d⟩:=I.pin p hp
  have nch:p.1 ∉ ch:=fun z=>(hch p.1 z).2.2.2 p hp rfl
  exact ⟨keep p.1 p.2 ne nf nch e n,free p.1 p.2 nch e n,ne,nf,d⟩
theorem Inv.un {t':Nat} (I:Inv X pins σ H s) (u:Un X.fs [] H H' s.heap h') (hok:HOk X.prog X.w H' h'):Inv X pins σ H' { s with heap:=h',toks:=t' }:=by
 obtain ⟨m,⟨o,es,ep,ho,r⟩,_⟩:=id I.loc
 obtain ⟨sl,hL⟩:=u.any ho I.free (by simp)
 exact I.step (g':=s.gens) (d':=s.drawn) (ch:=[]) (fun _ z=>nomatch z) (fun b o _ hb _ e n=>u.keep b o e n hb (by simp)) (fun b o _ hb _ e n=>u.slot b o e n hb (by simp)) (fun b o _ e n=>u.free b o e n (by simp)) (fun b o _ e=>u.there b o e (by simp)) u.tups u.frzs u.tbls (fun m' hm=>by
  obtain ⟨o',es',ep',ho',r'⟩:=hm
  rw [ho] at ho';cases ho'
  exact ⟨_,es',ep',hL,r'⟩) hok I.bare
theorem Inv.call {g':Array GenState} {t':Nat} {d':Drawn} {ch:List Addr} (I:Inv X pins σ H s) (u:Un (frs X.stack) ch H H' s.heap h') (hok:HOk X.prog X.w H' h') (hg:AllBare g')
 (hch:∀ b ∈ ch,(b ∈ X.ex∨X.s₀.heap.objs.size ≤ b)∧b ≠ X.env.locals∧(∀ x c,X.env.cells.lookup x=some c→c ≠ b)∧∀ p ∈ X.pn++pins,p.1 ≠ b) :
 Inv X pins σ H' { s with heap:=h',gens:=g',drawn:=d',toks:=t' }:=by
 obtain ⟨m,⟨o,es,ep,ho,r⟩,_⟩:=id I.loc
 obtain ⟨sl,hL⟩:=u.any ho I.free fun z=>(hch _ z).2.1 rfl
 exact I.step (ch:=ch) hch (fun b o hL hb hc e n=>u.keep b o e n (fun z=>(bf.mp (I.stkSub b z)).elim hL hb) hc) (fun b o _ _ hc e n=>u.any e n hc) (fun b o hc e n=>u.free b o e n hc) (fun b o hc e=>u.there b o e hc) u.tups u.frzs u.tbls (fun m' hm=>by
  obtain ⟨o',es',ep',ho',r'⟩:=hm
  rw [ho] at ho';cases ho'
  exact ⟨_,es',ep',hL,r'⟩) hok hg
theorem Inv.turned {t':Nat} {it:Addr} (I:Inv X pins σ H s) (k:∀ b o,b ≠ it→s.heap.get? b=some o→h'.get? b=some o) (hn:H it=none) (hL:it ≠ X.env.locals)
 (h1:it ∈ X.ex∨X.s₀.heap.objs.size ≤ it) (h2:∀ x c,X.env.cells.lookup x=some c→c ≠ it) (h3:∀ p ∈ X.pn++pins,p.1 ≠ it):Inv X pins σ H { s with heap:=h',toks:=t' }:=by
 have nit:∀ b u,H b=some u→b ≠ it:=fun b u e z=>by rw [z,hn] at e;cases e
 refine I.step (g':=s.gens) (d':=s.drawn) (ch:=[it]) (fun b hb=>?_) (fun b o _ _ hc e _=>k b o (fun z=>hc (by simp [z])) e) (fun b o _ _ hc e _=>⟨o.slots,k b o (fun z=>hc (by simp [z])) e⟩) (fun _ _ _ _ n=>n)
  (fun b o hc e=>⟨o,k b o (fun z=>hc (by simp [z])) e⟩) (fun _ _ e=>e) (fun _ _ _ e=>e) (fun _ _ _ e=>e) (fun m hm=>?_) (fun b u e=>?_) I.bare
 ·have e:b=it:=by simpa using hb
  subst e
  exact ⟨h1,hL,h2,h3⟩
 ·obtain ⟨o,es,ep,ho,r⟩:=hm
  exact ⟨o,es,ep,k _ o (Ne.symm hL) ho,r⟩
 ·refine (I.hok b u e).stay (fun c v hc q=>k c v ?_ q) (fun _ q=>q) fun _ _ q=>q
  rcases hc with z | z
  ·rw [z];exact nit b u e
  ·exact nit c _ z
theorem Inv.tok (I:Inv X pins σ H s) (t:Nat):Inv X pins σ H { s with toks:=t }:=I.un (h':=s.heap) (t':=t) Un.refl I.hok
theorem Inv.kept {t':Nat} (I:Inv X pins σ H s) (k:∀ b u,s.heap.get? b=some u→h'.get? b=some u):Inv X pins σ H { s with heap:=h',toks:=t' }:=I.un (Un.kept k) (I.hok.kept k)
theorem Inv.laid {a:Addr} {o:HO} {t':Nat} (I:Inv X pins σ H s) (k:∀ b u,s.heap.get? b=some u→h'.get? b=some u) (hp:s.heap.objs.size ≤ a) (new:dF X.prog X.w (upd H a o) h' a o) :
 Inv X pins σ (upd H a o) { s with heap:=h',toks:=t' }:=I.un (Un.laid k hp (I.hok.fresh hp)) (I.hok.laid k hp new)
theorem Inv.write {x e:Addr} {o:HO} {t':Nat} (I:Inv X pins σ H s) (mu:Mut (H x)) (he:e=x∨H e=some (.own x)) (k:∀ b u,b ≠ e→s.heap.get? b=some u→h'.get? b=some u) (heo:∃ u,h'.get? e=some u)
 (new:dF X.prog X.w (upd H x o) h' x o):Inv X pins σ (upd H x o) { s with heap:=h',toks:=t' }:=I.un (Un.write mu he k heo) (I.hok.write mu he k heo new)
theorem Inv.pins_of {pins':List (Addr × Obj)} (I:Inv X pins σ H s) (h:∀ p ∈ pins',s.heap.get? p.1=some p.2∧H p.1=none∧p.1 ≠ X.env.locals∧p.1 ∉ X.fs∧∀ v,p.2.data ≠ .cell v):Inv X pins' σ H s :=
 ⟨I.ok,I.os,I.bare,I.base,I.loc,I.cell,I.free,I.freeC,fun p hp=>(bY.mp hp).elim (fun z=>I.pin p (bB _ z)) (h p),I.hok,I.len⟩
theorem jV {N:List Str} (hN:N.Nodup) {i j:Nat} {x:Str} (a:N[i]? = some x) (b:N[j]? = some x):i=j:=by
 obtain ⟨h1,e1⟩:=cM.mp a
 obtain ⟨h2,e2⟩:=cM.mp b
 exact (List.getElem_inj hN).mp (e1.trans e2.symm)
theorem qY {M:Model} {A:Around} {E:Value→Shared→Prop} {i:Nat} {x:Str} {v:V} {u:Value} {Q:Unit→Shared→Prop} (I:Inv X pins σ H s) (hN:X.N.Nodup) (hi:X.N[i]? = some x) (hx:Loc X.env.scope x) (r:RelV v u)
 (h:∀ s',Inv X pins (σ.set i (some v)) H s'→(∃ a,Heap.SameBut a s.heap s'.heap∧(a=X.env.locals∨X.env.cells.lookup x=some a))→Q () s') (hf:X.fn x=true∨X.env.scope.names.lookup x=some .local:=by first | exact .inl rfl | exact .inr rfl | assumption):wpAny M A (storeName X.env x u) Q E s:=by
 obtain ⟨m,hn,hl⟩:=id I.loc
 have hcls:(X.env.scope.kind == .class || (X.env.scope.kind == .module && X.env.locals != X.env.globals))=false:=by rw [I.ok.kind];rfl
 have hiσ:i < σ.length:=by rw [I.len];exact (cM.mp hi).1
 have cne:=I.cne
 have tracked:∀ {a:Addr} {h':Heap},(∃ o,s.heap.get? a=some o∧H a=none)→Heap.SameBut a s.heap h'→HOk X.prog X.w H h':=fun {a h'} ha hs b ob e=>by
  obtain ⟨_,_,hfree⟩:=ha
  refine (I.hok b ob e).stay (fun c w' hc q=>(hs.2 c ?_).trans q) (fun _ q=>q) fun _ _ q=>q
  rintro rfl
  rcases hc with rfl | hc
  ·rw [hfree] at e;cases e
  ·rw [hfree] at hc;cases hc
 rcases hx with hk | hk
 ·refine wpAny_storeName_local hk hn (fun h' hn' hs=>?_) hcls
  obtain ⟨oL,_,_,hoL,_⟩:=id hn
  refine h _ ⟨I.ok,I.os,I.bare,⟨fun b o e n hb hx=>?_,fun b o e n hb hx=>?_,I.base.free,fun b o e hx=>?_,I.base.tups,I.base.frzs,I.base.tbls⟩,⟨_,hn',fun j y v' e1 e2 e3=>?_⟩,fun y c e=>?_,I.free,I.freeC,fun p hp=>?_,tracked ⟨oL,hoL,I.free⟩ hs,by simpa using I.len⟩ ⟨_,hs,.inl rfl⟩
  ·exact (hs.2 b (bx (aP (Heap.lt_size e) I.ok.above))).trans (I.base.keep b o e n hb hx)
  ·obtain ⟨sl,e1⟩:=I.base.slot b o e n hb hx
   exact ⟨sl,(hs.2 b (bx (aP (Heap.lt_size e) I.ok.above))).trans e1⟩
  ·obtain ⟨o',e1⟩:=I.base.there b o e hx
   exact ⟨o',(hs.2 b (bx (aP (Heap.lt_size e) I.ok.above))).trans e1⟩
  ·by_cases hj:j=i
   ·subst hj
    rw [hi] at e1;cases e1
    rw [bW hiσ] at e2
    cases e2
    exact ⟨u,r,.inl ⟨hk,by simp⟩⟩
   ·rw [aQ (Ne.symm hj)] at e2
    obtain ⟨u',r',q⟩:=hl j y v' e1 e2 e3
    refine ⟨u',r',?_⟩
    rcases q with ⟨k,e⟩ | ⟨k,c,e,z⟩
    ·refine .inl ⟨k,?_⟩
     have:y ≠ x:=fun e=>hj (jV hN e1 (e ▸ hi))
     simp [this,e]
    ·exact .inr ⟨k,c,e,z.sameBut hs (cne y c e)⟩
  ·obtain ⟨w',z⟩:=I.cell y c e
   exact ⟨w',z.sameBut hs (cne y c e)⟩
  ·obtain ⟨e,n,ne,nf,d⟩:=I.pin p hp
   exact ⟨(hs.2 p.1 ne).trans e,n,ne,nf,d⟩
 ·have hfn:X.fn x=true:=by
   rcases hf with z | z
   ·exact z
   ·rw [z] at hk;cases hk
  obtain ⟨c,hc⟩:=I.ok.has x (.inl hk)
  obtain ⟨w',z⟩:=I.cell x c hc
  refine wpAny_storeName_cell I.ok.kind hk hc z (fun h' hc' hs=>?_)
  obtain ⟨oc,hoc,hocd⟩:=id z
  refine h { s with heap:=h' } ⟨I.ok,I.os,I.bare,⟨fun b o e n hb hx=>?_,fun b o e n hb hx=>?_,I.base.free,fun b o e hx=>?_,I.base.tups,I.base.frzs,I.base.tbls⟩,⟨m,hn.sameBut hs (Ne.symm (cne x c hc)),fun j y v' e1 e2 e3=>?_⟩,fun y c' e=>?_,I.free,I.freeC,fun p hp=>?_,tracked ⟨oc,hoc,I.freeC x c hc⟩ hs,by simpa using I.len⟩ ⟨c,hs,.inr hc⟩
  ·exact (hs.2 b (bx (aP (Heap.lt_size e) (I.ok.cab x c hfn hc)))).trans (I.base.keep b o e n hb hx)
  ·obtain ⟨sl,e1⟩:=I.base.slot b o e n hb hx
   exact ⟨sl,(hs.2 b (bx (aP (Heap.lt_size e) (I.ok.cab x c hfn hc)))).trans e1⟩
  ·obtain ⟨o',e1⟩:=I.base.there b o e hx
   exact ⟨o',(hs.2 b (bx (aP (Heap.lt_size e) (I.ok.cab x c hfn hc)))).trans e1⟩
  ·by_cases hj:j=i
   ·subst hj
    rw [hi] at e1;cases e1
    rw [bW hiσ] at e2
    cases e2
    exact ⟨u,r,.inr ⟨.inl hk,c,hc,hc'⟩⟩
   ·rw [aQ (Ne.symm hj)] at e2
    obtain ⟨u',r',q⟩:=hl j y v' e1 e2 e3
    refine ⟨u',r',?_⟩
    rcases q with q | ⟨k,c',e,z'⟩
    ·exact .inl q
    ·refine .inr ⟨k,c',e,z'.sameBut hs ?_⟩
     rintro rfl
     exact hj (jV hN e1 (I.ok.inj _ _ _ e hc ▸ hi))
  ·by_cases hcc:c'=c
   ·subst hcc;exact ⟨_,hc'⟩
   ·obtain ⟨w2,z2⟩:=I.cell y c' e
    exact ⟨w2,z2.sameBut hs hcc⟩
  ·obtain ⟨e,n,ne,nf,d⟩:=I.pin p hp
   refine ⟨(hs.2 p.1 ?_).trans e,n,ne,nf,d⟩
   intro q
   rw [q,hoc] at e
   have q':oc=p.2:=cN.inj e
   exact d w' (by rw [← q'];exact hocd)
theorem jW {M:Model} {A:Around} {E:Value→Shared→Prop} {i:Nat} {x:Str} {v:V} {u:Value} {Q:Unit→Shared→Prop} (I:Inv X pins σ H s) (hN:X.N.Nodup) (hi:X.N[i]? = some x) (hx:Loc X.env.scope x) (r:RelV v u)
 (h:∀ s',Inv X pins (σ.set i (some v)) H s'→Q () s') (hf:X.fn x=true∨X.env.scope.names.lookup x=some .local:=by first | exact .inl rfl | exact .inr rfl | assumption):wpAny M A (storeName X.env x u) Q E s :=
 qY I hN hi hx r (fun s' I' _=>h s' I') hf
end
abbrev XK:=Value→Option Addr→Hp→Prop
abbrev St:=List (Option V)
abbrev VK:=V→Hp→Prop
abbrev TE:=St→Hp→VK→Prop
abbrev TT:=St→Hp→(Bool→Hp→Prop)→Prop
abbrev TA:=St→Hp→(List V→Hp→Prop)→Prop
structure Ends where
 nx:St→Hp→Prop
 rt:VK
 bk:St→Hp→Prop:=fun _ _=>False
 ct:St→Hp→Prop:=fun _ _=>False
abbrev TS:=Ends→St→Hp→Prop
def EP (X:Cx) (pins:List (Addr × Obj)) (σ:St) (Q:VK) (u:Value) (s':Shared):Prop:=∃ v H',Inv X pins σ H' s'∧RelV v u∧Q v H'
def TP (X:Cx) (pins:List (Addr × Obj)) (σ:St) (Q:Bool→Hp→Prop) (b:Bool) (s':Shared):Prop:=∃ H',Inv X pins σ H' s'∧Q b H'
def AP (X:Cx) (pins:List (Addr × Obj)) (σ:St) (Q:List V→Hp→Prop) (us:List Value) (s':Shared):Prop:=∃ vs H',Inv X pins σ H' s'∧Vals vs us∧Q vs H'
def SP (X:Cx) (pins:List (Addr × Obj)) (D:Ends) (f:Flow) (s':Shared):Prop :=
 match f with
 | .next=>∃ σ' H',Inv X pins σ' H' s'∧D.nx σ' H'
 | .brk=>∃ σ' H',Inv X pins σ' H' s'∧D.bk σ' H'
 | .cont=>∃ σ' H',Inv X pins σ' H' s'∧D.ct σ' H'
 | .ret u=>∃ v σ' H',Inv X pins σ' H' s'∧RelV v u∧D.rt v H'
def PE (X:Cx) (e:Expr) (t:TE):Prop :=
 ∀ (pins:List (Addr × Obj)) (s:Shared) (σ:St) (H:Hp) (Q:VK),Inv X pins σ H s→t σ H Q→wpAny (model X.prog X.w) X.A (eval e X.env) (EP X pins σ Q) X.xe s
def PT (X:Cx) (e:Expr) (t:TT):Prop :=
 ∀ (pins:List (Addr × Obj)) (s:Shared) (σ:St) (H:Hp) (Q:Bool→Hp→Prop),Inv X pins σ H s→t σ H Q→wpAny (model X.prog X.w) X.A (isTrue e X.env (eval e X.env)) (TP X pins σ Q) X.xe s
def PW (X:Cx) (e:Expr) (t:TT):Prop :=
 ∀ (whole:Sem Value) (pins:List (Addr × Obj)) (s:Shared) (σ:St) (H:Hp) (Q:Bool→Hp→Prop),Inv X pins σ H s→t σ H Q→wpAny (model X.prog X.w) X.A (isTrue e X.env whole) (TP X pins σ Q) X.xe s
theorem PW.pt {X:Cx} {e:Expr} {t:TT} (h:PW X e t):PT X e t:=h _
def PA (X:Cx) (es:List Expr) (t:TA):Prop :=
 ∀ (pos:Pos) (pins:List (Addr × Obj)) (s:Shared) (σ:St) (H:Hp) (Q:List V→Hp→Prop),Inv X pins σ H s→t σ H Q→wpAny (model X.prog X.w) X.A (spliced (backTo pos (starEach es X.env))) (AP X pins σ Q) X.xe s
def PS (X:Cx) (st:Stmt) (t:TS):Prop :=
 ∀ (pins:List (Addr × Obj)) (s:Shared) (σ:St) (H:Hp) (D:Ends),Inv X pins σ H s→t D σ H→wpAny (model X.prog X.w) X.A (exec st X.env) (SP X pins D) X.xe s
def PSs (X:Cx) (st:List Stmt) (t:TS):Prop :=
 ∀ (pins:List (Addr × Obj)) (s:Shared) (σ:St) (H:Hp) (D:Ends),Inv X pins σ H s→t D σ H→wpAny (model X.prog X.w) X.A (execs st X.env) (SP X pins D) X.xe s
theorem thn {α:Type} {t:Sem α} {Q Q':α→Shared→Prop} {M:Model} {A:Around} {E:Value→Shared→Prop} {s:Shared} (h:wpAny M A t Q E s) (hQ:∀ a s,Q a s→Q' a s):wpAny M A t Q' E s:=wpAny_mono h hQ fun _ _ x=>x
end L2
namespace L2
open PySem PySem.Spec PyProof.Rows
section
variable {X:Cx}
def GJ (i:Nat):TE:=fun σ H Q=>∃ v,σ[i]? = some (some v)∧Q v H
def tC (v:V):TE:=fun _ H Q=>Q v H
theorem sI {i:Nat} {x:Str} {pos:Pos} (hN:X.N[i]? = some x) (hv:Vis X.env.scope x) (hd:(x == ("__debug__" : Str))=false:=by decide) (hcd:(x == ("__classdict__" : Str))=false:=by decide):PE X (.Name x pos) (GJ i):=by
 intro pins s σ H Q I h
 obtain ⟨v,e,h⟩:=h
 obtain ⟨m,hn,hl⟩:=I.loc
 obtain ⟨u,r,l⟩:=hl i x v hN e hv
 have fin:EP X pins σ Q u s:=⟨v,H,I,r,h⟩
 rcases l with ⟨hk,hm⟩ | ⟨hk,c,hc,hcell⟩
 ·exact wpAny_Name (wpAny_loadName_local I.ok.kind hk hn hm fin) hd
 ·rcases hk with hk | hk
  ·exact wpAny_Name (wpAny_loadName_cell I.ok.kind hk hc hcell fin) hd
  ·exact wpAny_Name (wpAny_loadName_free I.ok.kind hk hc hcell fin hcd) hd
theorem zO {i j pos}:PE X (.Constant (.int i) j pos) (tC (.int i)):=fun _ _ _ H _ I h=>wpAny_Constant_int ⟨.int i,H,I.tok _,⟨_,rfl⟩,h⟩
theorem Di {b j pos}:PE X (.Constant (.bool b) j pos) (tC (.bl b)):=fun _ _ _ H _ I h=>Constant_bool ⟨.bl b,H,I,rfl,h⟩
theorem zP {j pos}:PE X (.Constant .none j pos) (tC .non):=fun _ _ _ H _ I h=>Constant_none ⟨.non,H,I,rfl,h⟩
theorem zQ {x j pos}:PE X (.Constant (.str x) j pos) (tC (.str x)):=fun _ _ _ H _ I h=>Calls.Constant_str ⟨.str x,H,I.tok _,⟨_,rfl⟩,h⟩
def Gl (X:Cx) (x:Str):Prop:=X.env.kindOf x=some .globalImplicit
theorem jR {E:Value→Shared→Prop} {pins:List (Addr × Obj)} {s:Shared} {σ:St} {H:Hp} {x:Str} {u:Value} {pos:Pos} {Q:Value→Shared→Prop} (I:Inv X pins σ H s) (hg:Gl X x) (hm:X.mg x=some u) (h:Q u s)
 (hd:(x == ("__debug__" : Str))=false:=by decide):wpAny (model X.prog X.w) X.A (eval (.Name x pos) X.env) Q E s :=
 Calls.Name_function_global I.ok.kind hg (Calls.loadGlobal_global (by rw [I.ok.glob];exact I.mod.glob.keeps I.bk) hm h) hd
theorem jC {E:Value→Shared→Prop} {pins:List (Addr × Obj)} {s:Shared} {σ:St} {H:Hp} {x:Str} {u:Value} {pos:Pos} {Q:Value→Shared→Prop} (I:Inv X pins σ H s) (hg:Gl X x) (hm:X.mg x=none) (hv:bootBuiltins x=some u) (h:Q u s)
 (hn:x ≠ "__name__" := by decide) (hd:(x == ("__debug__" : Str))=false:=by decide):wpAny (model X.prog X.w) X.A (eval (.Name x pos) X.env) Q E s:=by
 obtain ⟨mb,h1,h2⟩:=I.mod.blt
 exact Calls.Name_function_global I.ok.kind hg (Calls.loadGlobal_builtin (by rw [I.ok.glob];exact I.mod.glob.keeps I.bk) hm (by rw [I.ok.blt];exact h1.keeps I.bk) ((h2 x hn).trans hv) h) hd
theorem pN {x:Str} {v:V} {u:Value} {pos:Pos} (hg:Gl X x) (hm:X.mg x=some u) (r:RelV v u) (hd:(x == ("__debug__" : Str))=false:=by decide):PE X (.Name x pos) (tC v) :=
 fun _ _ _ H _ I h=>jR I hg hm ⟨v,H,I,r,h⟩ hd
theorem pO {x:Str} {v:V} {u:Value} {pos:Pos} (hg:Gl X x) (hm:X.mg x=none) (hv:bootBuiltins x=some u) (r:RelV v u) (hn:x ≠ "__name__" := by decide) (hd:(x == ("__debug__" : Str))=false:=by decide):PE X (.Name x pos) (tC v) :=
 fun _ _ _ H _ I h=>jC I hg hm hv ⟨v,H,I,r,h⟩ hn hd
variable {a b:Expr} {ta tb:TE} {pos:Pos}
def PC (X:Cx) (op:CmpOp) (a b:Expr) (t:TE):Prop :=
 ∀ (pins:List (Addr × Obj)) (s:Shared) (σ:St) (H:Hp) (Q:VK),Inv X pins σ H s→t σ H Q →
  wpAny (model X.prog X.w) X.A (eval a X.env) (fun v s₁=>wpAny (model X.prog X.w) X.A (eval b X.env) (fun u s₂=>wpAny (model X.prog X.w) X.A (compareOp op v u) (EP X pins σ Q) X.xe s₂) X.xe s₁) X.xe s
theorem sJ (b:Expr) {op:CmpOp} (h:op ≠ .In) (h2:op ≠ .NotIn):behindInMarks op b=false:=by
 have e1:(op == CmpOp.In)=false:=by cases op <;> first | rfl | exact absurd rfl h
 have e2:(op == CmpOp.NotIn)=false:=by cases op <;> first | rfl | exact absurd rfl h2
 cases b <;> simp [behindInMarks,e1,e2]
def GK (ta:TE):TE:=fun σ H Q=>ta σ H fun x H1=>Q (.bl (decide (x = .non))) H1
theorem RelV.none_iff {x:V} {v:Value} (r:RelV x v):(v == Value.none)=decide (x = .non):=by
 cases x with
 | non=>cases r;rfl
 | bl _=>cases r;rfl
 | int _=>obtain ⟨t,rfl⟩:=r;rfl
 | str _=>obtain ⟨t,rfl⟩:=r;rfl
 | byt _=>obtain ⟨t,rfl⟩:=r;rfl
 | flt _=>obtain ⟨t,rfl⟩:=r;rfl
 | ref _=>cases r;rfl
 | ty _=>cases r;rfl
theorem zR {j pos'} (ha:PE X a ta):PC X .Is a (.Constant .none j pos') (GK ta):=by
 intro pins s σ H Q I h
 refine thn (ha pins s σ H _ I h) fun v s1 ⟨x,H1,I1,r1,q1⟩=>?_
 exact Constant_none (is_none_gen ⟨.bl _,H1,I1,by rw [r1.none_iff];rfl,q1⟩)
def tB (t:TE):TT:=fun σ H Q=>t σ H fun x H1=>∃ c,x = .bl c∧Q c H1
theorem zT {op:CmpOp} {t:TE} (h:PC X op a b t) (h1:behindInMarks op b=false:=by first | exact sJ _ (by decide) (by decide) | rfl):PT X (.Compare a [op] [b] pos) (tB t):=by
 intro pins s σ H Q I hw
 refine wpAny_isTrue_Compare1 (thn (h pins s σ H _ I hw) fun v s1 h1=>thn h1 fun u s2 h2=>thn h2 fun c s3 ⟨x,H1,I1,r1,q1⟩=>?_) h1
 obtain ⟨d,rfl,q⟩:=q1
 cases r1
 exact wpAny_truthy_bool ⟨H1,I1,q⟩
theorem zU {e:Expr} {t:TE} (h:PE X e t) (he:∀ whole,isTrue e X.env whole=(do let v ← whole;standAt e.pos;holding [v] (truthy v)):=by intro _;rfl):PT X e (tB t):=by
 intro pins s σ H Q I hw
 refine isTrue_plain (thn (h pins s σ H _ I hw) fun v s1 ⟨x,H1,I1,r1,q1⟩=>?_) (he _)
 obtain ⟨d,rfl,q⟩:=q1
 cases r1
 exact wpAny_truthy_bool ⟨H1,I1,q⟩
variable {tA tB':TT} {rest:List Expr}
def q_ (t u:TT):TT:=fun σ H Q=>t σ H fun c H1=>if c=true then u σ H1 Q else Q false H1
def tOr (t u:TT):TT:=fun σ H Q=>t σ H fun c H1=>if c=true then Q true H1 else u σ H1 Q
def iH (t:TT):TT:=fun σ H Q=>t σ H fun c H1=>Q (!c) H1
theorem vK (ha:PT X a tA):PW X (.BoolOp .And [a] pos) tA:=by
 intro wh pins s σ H Q I h
 refine isTrue_and (thn (ha pins s σ H Q I h) fun c s1 e=>?_)
 cases c with
 | true=>exact isTrue_and_nil e
 | false=>exact e
theorem zV (ha:PT X a tA):PW X (.BoolOp .Or [a] pos) tA:=by
 intro wh pins s σ H Q I h
 refine isTrue_or (thn (ha pins s σ H Q I h) fun c s1 e=>?_)
 cases c with
 | false=>exact isTrue_or_nil e
 | true=>exact e
theorem zW (ha:PT X a tA) (hb:PW X (.BoolOp .And (b :: rest) pos) tB'):PW X (.BoolOp .And (a :: b :: rest) pos) (q_ tA tB'):=by
 intro wh pins s σ H Q I h
 refine isTrue_and (thn (ha pins s σ H _ I h) fun c s1 ⟨H1,I1,q1⟩=>?_)
 cases c with
 | true=>exact hb wh pins s1 σ H1 Q I1 q1
 | false=>exact ⟨H1,I1,q1⟩
theorem Dj (ha:PT X a tA) (hb:PW X (.BoolOp .Or (b :: rest) pos) tB'):PW X (.BoolOp .Or (a :: b :: rest) pos) (tOr tA tB'):=by
 intro wh pins s σ H Q I h
 refine isTrue_or (thn (ha pins s σ H _ I h) fun c s1 ⟨H1,I1,q1⟩=>?_)
 cases c with
 | true=>exact ⟨H1,I1,q1⟩
 | false=>exact hb wh pins s1 σ H1 Q I1 q1
theorem zX (ha:PT X a tA):PT X (.UnaryOp .Not a pos) (iH tA):=by
 intro pins s σ H Q I h
 exact isTrue_not (ha pins s σ H (fun c H1=>Q (!c) H1) I h)
def Dk (ta tb:TE):TE:=fun σ H Q=>ta σ H fun x H1=>∃ c,x = .bl c∧if c=true then tb σ H1 Q else Q (.bl false) H1
def Dm (ta:TE):TE:=fun σ H Q=>ta σ H fun x H1=>∃ c,x = .bl c∧Q (.bl (!c)) H1
theorem zY {op} {t:TE} (h:PE X a t):PE X (.BoolOp op [a] pos) t:=fun pins s σ H Q I hw=>BoolOp_one (h pins s σ H Q I hw)
theorem zZ (ha:PE X a ta) (hb:PE X (.BoolOp .And (b :: rest) pos) tb):PE X (.BoolOp .And (a :: b :: rest) pos) (Dk ta tb):=by
 intro pins s σ H Q I h
 refine BoolOp_and (thn (ha pins s σ H _ I h) fun v s1 ⟨x,H1,I1,r1,q1⟩=>?_)
 obtain ⟨c,rfl,q1⟩:=q1
 cases r1
 refine wpAny_truthy_bool ?_
 cases c with
 | true=>exact hb pins s1 σ H1 Q I1 q1
 | false=>exact ⟨.bl false,H1,I1,rfl,q1⟩
theorem z_ (ha:PE X a ta):PE X (.UnaryOp .Not a pos) (Dm ta):=by
 intro pins s σ H Q I h
 refine UnaryOp_ (thn (ha pins s σ H _ I h) fun v s1 ⟨x,H1,I1,r1,q1⟩=>?_)
 obtain ⟨c,rfl,q1⟩:=q1
 cases r1
 exact not_of (wpAny_truthy_bool ⟨.bl (!c),H1,I1,rfl,q1⟩)
end
end L2
namespace L2
open PySem PySem.Spec PyProof.Rows
def SqL (K:PySem.W.Frag) (H:Hp) (a:Addr) (xs:List V):Prop :=
 Rd H a (.lst xs) ∨
  ∃ (o:Obj) (its:Array Value) (n:Nat),K.lookup a=some o∧o.cls = .type "list" ∧ o.dict=none∧o.data = .seq its n∧its.size ≤ sizeLine∧Vals xs its.toList
def SqT (K:PySem.W.Frag) (H:Hp) (a:Addr) (xs:List V):Prop :=
 Rd H a (.tup xs) ∨
  ∃ (o:Obj) (its:Array Value) (n:Nat),K.lookup a=some o∧o.cls = .type "tuple" ∧ o.data = .seq its n∧its.size ≤ sizeLine∧Vals xs its.toList
def GP:Value→Option V
 | .none=>some .non
 | .bool b=>some (.bl b)
 | .int i _=>some (.int i)
 | .str x _=>some (.str x)
 | .bytes b _=>some (.byt b)
 | .float b _=>some (.flt b)
 | .ref a=>some (.ref a)
 | .type n=>some (.ty n)
 | _=>none
theorem RelV.abs {x:V} {u:Value} (r:RelV x u):GP u=some x:=by
 cases x with
 | non=>cases r;rfl
 | bl _=>cases r;rfl
 | int _=>obtain ⟨t,rfl⟩:=r;rfl
 | str _=>obtain ⟨t,rfl⟩:=r;rfl
 | byt _=>obtain ⟨t,rfl⟩:=r;rfl
 | flt _=>obtain ⟨t,rfl⟩:=r;rfl
 | ref _=>cases r;rfl
 | ty _=>cases r;rfl
theorem RelV.inj {x y:V} {u:Value} (r:RelV x u) (q:RelV y u):x=y:=cN.inj (r.abs.symm.trans q.abs)
theorem Vals.inj:∀ {xs ys:List V} {us:List Value},Vals xs us→Vals ys us→xs=ys
 | _,_,_,.nil,.nil=>rfl
 | _,_,_,.cons r t,.cons r' t'=>by rw [r.inj r',Vals.inj t t']
section
variable {X:Cx} {pins:List (Addr × Obj)} {σ:St} {H:Hp} {s:Shared} {a:Addr} {xs ys:List V}
theorem SqL.of {K:PySem.W.Frag} (h:H a=some (.lst xs)):SqL K H a xs:=.inl (.inl h)
theorem Inv.list (I:Inv X pins σ H s) (h:SqL X.K H a xs):∃ its:List Value,Vals xs its∧PlainL s.heap a its.toArray∧xs.length ≤ sizeLine:=by
 rcases h with h | ⟨o,its,n,hk,hc,hd,hs,hz,r⟩
 ·obtain ⟨z,its,n,r,e⟩:=h.ok I.hok
  exact ⟨its,r,⟨_,n,e,rfl,rfl,rfl⟩,z⟩
 ·refine ⟨its.toList,r,⟨o,n,I.kIn a o hk,hc,hd,by simpa using hs⟩,?_⟩
  have e:=r.length
  simp only [jd] at e
  omega
theorem Inv.tuple (I:Inv X pins σ H s) (h:SqT X.K H a xs):∃ its:List Value,Vals xs its∧IsTup s.heap a its.toArray∧xs.length ≤ sizeLine:=by
 rcases h with h | ⟨o,its,n,hk,hc,hs,hz,r⟩
 ·obtain ⟨z,its,r,p⟩:=h.ok I.hok
  exact ⟨its,r,p,z⟩
 ·refine ⟨its.toList,r,⟨o,I.kIn a o hk,hc,n,by simpa using hs⟩,?_⟩
  have e:=r.length
  simp only [jd] at e
  omega
theorem Inv.list_inj (I:Inv X pins σ H s) (h:SqL X.K H a xs) (h':SqL X.K H a ys):xs=ys:=by
 obtain ⟨its,r,⟨o,n,e,_,_,d⟩,_⟩:=I.list h
 obtain ⟨its',r',⟨o',n',e',_,_,d'⟩,_⟩:=I.list h'
 rw [e] at e';cases e'
 rw [d] at d'
 injection d' with d1 _
 have:its=its':=by simpa using congrArg Array.toList d1
 subst this
 exact r.inj r'
end
abbrev Cx.wish (X:Cx) (E:Value→Shared→Prop):Cx:={ X with xe:=E }
abbrev Cx.nox (X:Cx):Cx:=X.wish fun _ _=>False
theorem Cx.Ok.wish {X:Cx} (ok:X.Ok) (E:Value→Shared→Prop):(X.wish E).Ok :=
 ⟨ok.mod,ok.kind,ok.glob,ok.blt,ok.above,ok.inj,ok.has,ok.cab,ok.hd,ok.frames,ok.stk,ok.exf,ok.bs,ok.bsz,ok.noex,ok.exfs,ok.funs,ok.frf⟩
theorem Cx.Ok.unwish {X:Cx} {E:Value→Shared→Prop} (ok:(X.wish E).Ok):X.Ok :=
 ⟨ok.mod,ok.kind,ok.glob,ok.blt,ok.above,ok.inj,ok.has,ok.cab,ok.hd,ok.frames,ok.stk,ok.exf,ok.bs,ok.bsz,ok.noex,ok.exfs,ok.funs,ok.frf⟩
section
variable {X:Cx} {pins:List (Addr × Obj)} {σ:St} {H:Hp} {s:Shared} {E:Value→Shared→Prop}
theorem Inv.wish (I:Inv X pins σ H s) (E:Value→Shared→Prop):Inv (X.wish E) pins σ H s:=⟨I.ok.wish E,I.os,I.bare,I.base,I.loc,I.cell,I.free,I.freeC,I.pin,I.hok,I.len⟩
theorem Inv.unwish (I:Inv (X.wish E) pins σ H s):Inv X pins σ H s:=⟨I.ok.unwish,I.os,I.bare,I.base,I.loc,I.cell,I.free,I.freeC,I.pin,I.hok,I.len⟩
theorem SP.unwish {D:Ends} {f:Flow} {s':Shared} (h:SP (X.wish E) pins D f s'):SP X pins D f s':=by
 cases f with
 | next=>obtain ⟨σ',H',I,q⟩:=h;exact ⟨σ',H',I.unwish,q⟩
 | brk=>obtain ⟨σ',H',I,q⟩:=h;exact ⟨σ',H',I.unwish,q⟩
 | cont=>obtain ⟨σ',H',I,q⟩:=h;exact ⟨σ',H',I.unwish,q⟩
 | ret u=>obtain ⟨v,σ',H',I,r,q⟩:=h;exact ⟨v,σ',H',I.unwish,r,q⟩
theorem PSs.nox {st:List Stmt} {t:TS} (h:PSs X.nox st t):PSs X st t:=fun pins s σ H D I hw =>
 wpAny_mono (h pins s σ H D (I.wish _) hw) (fun _ _ q=>q.unwish) fun _ _ z=>False.elim z
end
section
variable {X:Cx} {st:Stmt} {rest:List Stmt} {t u:TS} {e:Expr} {te:TE} {pos:Pos}
def Dp:TS:=fun D σ H=>D.nx σ H
def GQ (t u:TS):TS:=fun D σ H=>t { D with nx:=u D } σ H
theorem vL:PSs X [] Dp:=fun _ _ σ H _ I h=>wpAny_execs_nil ⟨σ,H,I,h⟩
theorem sO (h1:PS X st t) (h2:PSs X rest u):PSs X (st :: rest) (GQ t u):=by
 intro pins s σ H D I h
 refine wpAny_execs_cons (thn (h1 pins s σ H { D with nx:=u D } I h) fun f s1 q=>?_)
 cases f with
 | next =>
  obtain ⟨σ',H',I',q⟩:=q
  exact h2 pins s1 σ' H' D I' q
 | ret v=>exact q
 | brk=>exact q
 | cont=>exact q
theorem pP (h1:PS X st t):PSs X [st] t:=by
 intro pins s σ H D I h
 refine wpAny_execs_cons (thn (h1 pins s σ H D I h) fun f s1 q=>?_)
 cases f with
 | next=>exact wpAny_execs_nil q
 | ret v=>exact q
 | brk=>exact q
 | cont=>exact q
theorem Inv.quiet {pins:List (Addr × Obj)} {σ:St} {H:Hp} {s:Shared} (I:Inv X pins σ H s):interactive X.env=false:=by simp [interactive,I.ok.kind]
def GR (te:TE):TS:=fun D σ H=>te σ H D.rt
theorem Aa (he:PE X e te):PS X (.Return (some e) pos) (GR te):=by
 intro pins s σ H D I h
 exact wpAny_Return_some (thn (he pins s σ H _ I h) fun v s1 ⟨x,H1,I1,r1,q1⟩=>⟨x,σ,H1,I1,r1,q1⟩)
def GX (c:TT) (t u:TS):TS:=fun D σ H=>c σ H fun b H1=>if b=true then t D σ H1 else u D σ H1
theorem Dq {c:Expr} {a b:List Stmt} {tc:TT} (hc:PT X c tc) (ha:PSs X a t) (hb:PSs X b u):PS X (.If c a b pos) (GX tc t u):=by
 intro pins s σ H D I h
 refine wpAny_If (thn (hc pins s σ H _ I h) fun d s1 ⟨H1,I1,q1⟩=>?_)
 cases d with
 | true=>exact ha pins s1 σ H1 D I1 q1
 | false=>exact hb pins s1 σ H1 D I1 q1
end
abbrev TG:=V→St→Hp→(St→Hp→Prop)→Prop
abbrev TGs:=List V→St→Hp→(St→Hp→Prop)→Prop
def PG (X:Cx) (target:Expr) (t:TG):Prop :=
 ∀ (pins:List (Addr × Obj)) (s:Shared) (σ:St) (H:Hp) (v:V) (u:Value) (Q:St→Hp→Prop),Inv X pins σ H s→RelV v u→t v σ H Q →
  wpAny (model X.prog X.w) X.A (assign target X.env u) (fun _ s'=>∃ σ' H',Inv X pins σ' H' s'∧Q σ' H') X.xe s
def PGs (X:Cx) (ts:List Expr) (t:TGs):Prop :=
 ∀ (pins:List (Addr × Obj)) (s:Shared) (σ:St) (H:Hp) (vs:List V) (us:List Value) (Q:St→Hp→Prop),Inv X pins σ H s→Vals vs us→t vs σ H Q →
  wpAny (model X.prog X.w) X.A (assignInOrder ((assignEach ts X.env).map (·.2)) us) (fun _ s'=>∃ σ' H',Inv X pins σ' H' s'∧Q σ' H') X.xe s
section
variable {X:Cx} {pos:Pos}
def yP (i:Nat):TG:=fun v σ H Q=>Q (σ.set i (some v)) H
theorem vM {i:Nat} {x:Str} (hN:X.N.Nodup) (hi:X.N[i]? = some x) (hx:Loc X.env.scope x) (hf:X.fn x=true∨X.env.scope.names.lookup x=some .local:=by first | exact .inl rfl | exact .inr rfl | assumption):PG X (.Name x pos) (yP i):=by
 intro pins s σ H v u Q I r h
 exact wpAny_assign_Name (jW I hN hi hx r (fun s' I'=>⟨_,H,I',h⟩) hf)
def GZ (te:TE) (g:TG):TS:=fun D σ H=>te σ H fun x H1=>g x σ H1 D.nx
theorem sS {i:Nat} {x:Str} {e:Expr} {te:TE} {pos':Pos} (hN:X.N.Nodup) (hi:X.N[i]? = some x) (hx:Loc X.env.scope x) (he:PE X e te) (hs:swapsWith e (some (.Name x pos')) pos.line X.env=pure false:=by rfl) (hf:X.fn x=true∨X.env.scope.names.lookup x=some .local:=by first | exact .inl rfl | exact .inr rfl | assumption) :
 PS X (.Assign [.Name x pos'] e pos) (GZ te (yP i)):=by
 intro pins s σ H D I h
 refine wpAny_Assign_Name (thn (he pins s σ H _ I h) fun v s1 ⟨y,H1,I1,r1,q1⟩=>?_) hs
 exact jW I1 hN hi hx r1 (fun s2 I2=>⟨_,H1,I2,q1⟩) hf
end
section
variable {X:Cx} {pos:Pos}
end
structure It where
 go:Nat→Hp→Prop
 yld:Nat→Hp→V→Hp→Prop
 stop:Nat→Hp→Prop
def jN (X:Cx) (pins:List (Addr × Obj)) (H:Hp) (b:Addr):Prop :=
 H b=none∧b ≠ X.env.locals∧b ∉ X.fs∧(b ∈ X.ex∨X.s₀.heap.objs.size ≤ b)∧(∀ x c,X.env.cells.lookup x=some c→c ≠ b)∧∀ p ∈ X.pn++pins,p.1 ≠ b
theorem Inv.fpOk {X:Cx} {pins:List (Addr × Obj)} {σ:St} {H H':Hp} {s:Shared} {b:Addr} (I:Inv X pins σ H s) (hb:s.heap.objs.size ≤ b) (hn:H' b=none):jN X pins H' b:=by
 refine ⟨hn,Nat.ne_of_gt (aP I.lt hb),I.nofs hb,.inr (aV I.sz hb),fun x c e z=>?_,fun p hp z=>?_⟩
 ·obtain ⟨v,q⟩:=I.cell x c e
  exact absurd (aP q.lt (by rw [z];exact hb)) (dZ _)
 ·exact absurd (aP (Heap.lt_size (I.pin p hp).1) (by rw [z];exact hb)) (dZ _)
structure Turn (P:Program) (w:World) (K:PySem.W.Frag) (tg:Expr) (J:It) (fp:List Addr) (it:Addr) (tn:Nat→Heap→Prop):Prop where
 mem:it ∈ fp
 obj:∀ i h,tn i h→∀ b ∈ fp,∃ o,h.get? b=some o∧∀ v,o.data ≠ .cell v
 keep:∀ i h h',tn i h→(∀ b ∈ fp,∀ o,h.get? b=some o→h'.get? b=some o)→tn i h'
 item:∀ (X:Cx),X.prog=P→X.w=w→X.K=K→X.calm=true→∀ (i:Nat) (pins:List (Addr × Obj)) (s:Shared) (σ:St) (H:Hp) (E:Value→Shared→Prop),Inv X pins σ H s→(∀ b ∈ fp,jN X pins H b)→tn i s.heap→J.go i H →
  wpAny (model P w) X.A (pyNext (.ref it)) (fun r s1=>∃ u,r=some u ∧
   wpAny (model P w) X.A (letOwnedTupleGo tg (.ref it) u) (fun _ s2=>∃ x H',Inv X pins σ H' s2∧RelV x u∧J.yld i H x H'∧tn (i + 1) s2.heap∧∀ b ∈ fp,H' b=none) E s1) E s
 done:∀ (X:Cx),X.prog=P→X.w=w→X.K=K→X.calm=true→∀ (i:Nat) (pins:List (Addr × Obj)) (s:Shared) (σ:St) (H:Hp) (E:Value→Shared→Prop),Inv X pins σ H s→(∀ b ∈ fp,jN X pins H b)→tn i s.heap→J.stop i H →
  wpAny (model P w) X.A (pyNext (.ref it)) (fun r s1=>r=none∧Inv X pins σ H s1) E s
 self:∀ (A:Around) (i:Nat) (s:Shared) (Q:Value→Shared→Prop) (E:Value→Shared→Prop),tn i s.heap→Q (.ref it) s→wpAny (model P w) A (pyIter (.ref it)) Q E s
abbrev TI:=St→Hp→(It→Hp→Prop)→Prop
def PIE (X:Cx) (pins:List (Addr × Obj)) (σ:St) (tg:Expr) (R:It→Hp→Prop) (itv:Value) (s2:Shared):Prop :=
 ∃ (it:Addr) (fp:List Addr) (tn:Nat→Heap→Prop) (J:It) (H':Hp),itv = .ref it∧Inv X pins σ H' s2∧Turn X.prog X.w X.K tg J fp it tn∧tn 0 s2.heap∧(∀ b ∈ fp,jN X pins H' b)∧R J H'
def PI (X:Cx) (tg iter:Expr) (wi:TI):Prop :=
 ∀ (pins:List (Addr × Obj)) (s:Shared) (σ:St) (H:Hp) (R:It→Hp→Prop),Inv X pins σ H s→wi σ H R →
  wpAny (model X.prog X.w) X.A (eval iter X.env) (fun v s1=>wpAny (model X.prog X.w) X.A (pyIter v) (PIE X pins σ tg R) X.xe s1) X.xe s
theorem yQ {M:Model} {A:Around} {E:Value→Shared→Prop} {s:Shared} {tg:Expr} {it:Addr} {u:Value} {o:Obj} {n:String} {vs:Array Value} {Q:Unit→Shared→Prop} (ho:s.heap.get? it=some o) (hc:o.cls = .type n) (hd:o.data = .fields vs)
 (hn:["enumerate", "zip", "dict_itemiterator", "dict_reverseitemiterator", "odict_iterator", "itertools.zip_longest", "itertools.pairwise"].contains n=false) (hQ:Q () s):wpAny M A (letOwnedTupleGo tg (.ref it) u) Q E s:=by
 unfold letOwnedTupleGo
 cases tg <;> first
  | exact wpAny_pure hQ
  | (cases u <;> first
   | exact wpAny_pure hQ
   | (refine wpAny_bind (wpAny_load ho ?_)
      rw [hc,hd]
      show wpAny M A (if (["enumerate", "zip", "dict_itemiterator", "dict_reverseitemiterator", "odict_iterator", "itertools.zip_longest", "itertools.pairwise"].contains n && vs[0]? == some (rawInt _))=true then _ else _) Q E s
      rw [if_neg (by intro h;rw [hn,Bool.false_and] at h;cases h)]
      exact wpAny_pure hQ))
def Itl (K:PySem.W.Frag) (a:Addr):It :=
 ⟨fun i H=>∃ xs x,SqL K H a xs∧xs[i]? = some x,fun i H x H'=>H'=H∧∀ xs,SqL K H a xs→xs[i]? = some x,fun i H=>∃ xs,SqL K H a xs∧xs.length ≤ i⟩
def Itr (lo:Int) (n:Nat):It:=⟨fun i _=>i < n,fun i H x H'=>H'=H∧x = .int (lo + i),fun i _=>n ≤ i⟩
theorem rm {P:Program} {w:World} {K:PySem.W.Frag} {tg:Expr} (a it:Addr):Turn P w K tg (Itl K a) [it] it (fun i h=>h.IsListIter it a i) where
 mem:=by simp
 obj:=fun i h st b hb=>by
  have e:b=it:=by simpa using hb
  subst e
  obtain ⟨o,e,c,d⟩:=st
  exact ⟨o,e,fun v z=>by rw [d] at z;cases z⟩
 keep:=fun i h h' st k=>st.at fun o e=>k it (by simp) o e
 item:=by
  intro X hP hw hK hc i pins s σ H E I hf st hg
  subst hP hw hK
  obtain ⟨xs,x,hq,hx⟩:=hg
  obtain ⟨its,rv,p,hz⟩:=I.list hq
  obtain ⟨u,hu,ru⟩:=rv.get hx
  obtain ⟨f0,f1,f2,f3,f4,f5⟩:=hf it (by simp)
  refine wpAny_pyNext_list_item st p.isList (x:=u) (by simpa using hu) fun h' st' sb=>?_
  have I1:Inv X pins σ H { s with heap:=h' }:=I.turned (t':=s.toks) (fun b o hb e=>(sb.2 b hb).trans e) f0 f1 f3 f4 f5
  obtain ⟨o,e,c,d⟩:=id st'
  exact ⟨u,rfl,yQ (s:={ s with heap:=h' }) e c d (by decide) ⟨x,H,I1,ru,⟨rfl,fun ys hy=>by rw [I.list_inj hy hq];exact hx⟩,st',fun b hb=>(hf b hb).1⟩⟩
 done:=by
  intro X hP hw hK hc i pins s σ H E I hf st hg
  subst hP hw hK
  obtain ⟨xs,hq,hx⟩:=hg
  obtain ⟨its,rv,p,hz⟩:=I.list hq
  obtain ⟨f0,f1,f2,f3,f4,f5⟩:=hf it (by simp)
  have hl:=rv.length
  exact wpAny_pyNext_list_end (I.ok.hd hc) st p.isList (by simp;omega) fun h' eb=>⟨rfl,I.turned (t':=s.toks) (fun b o hb e=>eb b o hb e) f0 f1 f3 f4 f5⟩
 self:=fun _ _ _ _ _ st h=>wpAny_pyIter_listiter st h
theorem oR {P:Program} {w:World} {K:PySem.W.Frag} {tg:Expr} (it:Addr) (lo:Int) (n:Nat):Turn P w K tg (Itr lo n) [it] it (fun i h=>IsRangeIter h it (lo + (i:Nat) * 1) ((n:Int) - (i:Nat)) 1) where
 mem:=by simp
 obj:=fun i h st b hb=>by
  have e:b=it:=by simpa using hb
  subst e
  exact ⟨_,st,fun v z=>by
   have z':Data.fields _=Data.cell v:=z
   cases z'⟩
 keep:=fun i h h' st k=>k it (by simp) _ st
 item:=by
  intro X hP hw hK hc i pins s σ H E I hf st hg
  subst hP hw hK
  obtain ⟨f0,f1,f2,f3,f4,f5⟩:=hf it (by simp)
  have W:=Walks.range (prog:=X.prog) (w:=X.w) (I.ok.hd hc) it lo 1 n
  refine W.item i s _ _ hg st fun v h' tk hv st' kk=>?_
  obtain ⟨t,rfl⟩:=hv
  have I1:Inv X pins σ H { s with heap:=h',toks:=tk }:=I.turned (fun b o hb e=>kk b o (by simpa using hb) e) f0 f1 f3 f4 f5
  refine ⟨_,rfl,yQ (s:={ s with heap:=h',toks:=tk }) (n := "range_iterator") st' rfl rfl (by decide) ⟨.int (lo + i),H,I1,⟨t,?_⟩,⟨rfl,rfl⟩,st',fun b hb=>(hf b hb).1⟩⟩
  rw [Int.mul_one]
 done:=by
  intro X hP hw hK hc i pins s σ H E I hf st hg
  subst hP hw hK
  obtain ⟨f0,f1,f2,f3,f4,f5⟩:=hf it (by simp)
  exact wpAny_pyNext_range_end (I.ok.hd hc) st (by have:n ≤ i:=hg;omega) fun h' eb=>⟨rfl,I.turned (t':=s.toks) (fun b o hb e=>eb b o hb e) f0 f1 f3 f4 f5⟩
 self:=fun _ _ _ _ _ st h=>wpAny_pyIter_rangeiter st h
end L2
namespace L2
open PySem PySem.Spec PyProof.Rows
section
variable {X:Cx} {tg:Expr}
def Dr (K:PySem.W.Frag) (tl:TE):TI:=fun σ H R=>tl σ H fun x H1=>∃ a,x = .ref a∧(∃ xs,SqL K H1 a xs)∧R (Itl K a) H1
theorem vN {l:Expr} {tl:TE} (hl:PE X l tl):PI X tg l (Dr X.K tl):=by
 intro pins s σ H R I h
 refine thn (hl pins s σ H _ I h) fun v s1 ⟨x,H1,I1,r1,q1⟩=>?_
 obtain ⟨a,e,⟨xs,hq⟩,q⟩:=q1
 subst e
 cases r1
 obtain ⟨its,rv,p,hz⟩:=I1.list hq
 refine wpAny_pyIter_list p.isList ?_
 refine ⟨s1.heap.objs.size,[s1.heap.objs.size],_,_,H1,rfl,I1.kept (t':=s1.toks) fun b o e=>Heap.get?_push_of_some _ e,rm a _,⟨_,Heap.get?_push_size _ rfl,rfl,rfl⟩,fun b hb=>?_,q⟩
 have e:b=s1.heap.objs.size:=by simpa using hb
 subst e
 exact I1.fpOk (aU _) (I1.hok.fresh (aU _))
theorem sU {pins:List (Addr × Obj)} {σ:St} {H:Hp} {s:Shared} {R:It→Hp→Prop} {E:Value→Shared→Prop} {lo hi:Int} {t u v:Tok} {tk:Nat} (I:Inv X pins σ H s) (h1 : -(2 ^ 62) ≤ lo) (h2:lo < 2 ^ 62) (h3 : -(2 ^ 62) ≤ hi) (h4:hi < 2 ^ 62)
 (q:R (Itr lo (hi - lo).toNat) H):wpAny (model X.prog X.w) X.A (pyIter (.ref s.heap.objs.size)) (PIE X pins σ tg R) E { s with heap:=s.heap.push { cls:=.type "range", data:=.fields #[.int lo t,.int hi u,.int 1 v] },toks:=tk }:=by
 refine wpAny_pyIter_range (IsRange.new ..) (small_one h1 h2 h3 h4) ?_
 have I1:Inv X pins σ H { s with heap:=s.heap.push { cls:=.type "range", data:=.fields #[.int lo t,.int hi u,.int 1 v] },toks:=tk }:=I.kept fun b o e=>Heap.get?_push_of_some _ e
 refine ⟨(s.heap.push { cls:=.type "range", data:=.fields #[.int lo t,.int hi u,.int 1 v] }).objs.size,[(s.heap.push { cls:=.type "range", data:=.fields #[.int lo t,.int hi u,.int 1 v] }).objs.size],_,_,H,rfl,
  I1.kept (t':=tk) fun b o e=>Heap.get?_push_of_some _ e,oR _ lo (hi - lo).toNat,?_,fun b hb=>?_,q⟩
 ·have e1:lo + ((0:Nat):Int) * 1=lo:=by simp
  have e2:(((hi - lo).toNat:Nat):Int) - ((0:Nat):Int)=Builtin.Range.rangeSize lo hi 1:=by rw [rangeSize_one];split <;> omega
  show IsRangeIter _ _ (lo + ((0:Nat):Int) * 1) ((((hi - lo).toNat:Nat):Int) - ((0:Nat):Int)) 1
  rw [e1,e2]
  exact Heap.get?_push_size _ rfl
 ·have e:b=(s.heap.push { cls:=.type "range", data:=.fields #[.int lo t,.int hi u,.int 1 v] }).objs.size:=by simpa using hb
  subst e
  exact I1.fpOk (aU _) (I1.hok.fresh (aU _))
def Ds (ta:TA):TI:=fun σ H R=>ta σ H fun vs H1=>∃ j:Int,vs=[.int j]∧-(2 ^ 62) ≤ j∧j < 2 ^ 62∧R (Itr 0 j.toNat) H1
theorem rA {a:Expr} {ta:TA} {p pos:Pos} (hg:Gl X "range") (hm:X.mg "range" = none) (ha:PA X [a] ta) (hs:starEach [a] X.env=[(false,eval a X.env)]:=by rfl):PI X tg (.Call (.Name "range" p) [a] [] pos) (Ds ta):=by
 intro pins s σ H R I h
 refine Call_ (jC I hg hm boot_range (PyProof.Rows.callWith_type1 (thn (ha pos pins s σ H _ I h) fun us s1 ⟨vs,H1,I1,r1,q1⟩=>?_) hs rfl))
 obtain ⟨j,e,q1,q2,q⟩:=q1
 subst e
 cases r1 with
 | cons r rr =>
  cases rr
  obtain ⟨t,rfl⟩:=r
  exact call_range_1 (sU I1 (by omega) (by omega) q1 q2 (by simpa using q))
def G3 (wi:TI) (g:TG) (tb:TS):TS:=fun D σ H=>wi σ H fun J H1=>∃ W:Nat→Nat→St→Hp→Prop,(∃ m,W 0 m σ H1)∧∀ i m σ H,W i m σ H →
 (J.stop i H∧D.nx σ H)∨(J.go i H∧∃ N:St→Hp→Prop,(∀ σ' H',N σ' H'→∃ m',m' < m∧W (i + 1) m' σ' H')∧∀ x H',J.yld i H x H'→g x σ H' fun σ2 H2=>tb { D with nx:=N,ct:=N,bk:=D.nx } σ2 H2)
def jX (fp:List Addr) (h:Heap):List (Addr × Obj):=fp.filterMap fun b=>(h.get? b).map fun o=>(b,o)
theorem g_ {fp:List Addr} {h:Heap} {b:Addr} {o:Obj} (hb:b ∈ fp) (e:h.get? b=some o):(b,o) ∈ jX fp h:=jk.mpr ⟨b,hb,by rw [e];rfl⟩
theorem rB {fp:List Addr} {h:Heap} {p:Addr × Obj} (hp:p ∈ jX fp h):p.1 ∈ fp∧h.get? p.1=some p.2:=by
 obtain ⟨b,hb,e⟩:=jk.mp hp
 cases q:h.get? b with
 | none=>rw [q] at e;cases e
 | some o =>
  rw [q] at e
  have e':(b,o)=p:=cN.inj e
  subst e'
  exact ⟨hb,q⟩
theorem Inv.pinned {pins:List (Addr × Obj)} {σ:St} {H:Hp} {s:Shared} {fp:List Addr} (I:Inv X pins σ H s) (hf:∀ b ∈ fp,jN X pins H b) (ho:∀ b ∈ fp,∃ o,s.heap.get? b=some o∧∀ v,o.data ≠ .cell v):Inv X (pins++jX fp s.heap) σ H s :=
 I.pins_of fun p hp=>(bY.mp hp).elim (fun z=>I.pin p (aK _ z)) fun z=>by
  obtain ⟨hb,e⟩:=rB z
  obtain ⟨f0,f1,f2,_⟩:=hf p.1 hb
  obtain ⟨o,e',d⟩:=ho p.1 hb
  rw [e] at e';cases e'
  exact ⟨e,f0,f1,f2,d⟩
theorem Inv.unpinned {pins pl:List (Addr × Obj)} {σ:St} {H:Hp} {s:Shared} (I:Inv X (pins++pl) σ H s):Inv X pins σ H s:=I.pins_of fun p hp=>I.pin p (aK _ (bB _ hp))
theorem Ab {iter:Expr} {body:List Stmt} {wi:TI} {g:TG} {tb:TS} {pos:Pos} (hp:PassesOwn (model X.prog X.w) X.A X.env X.xe) (hc:X.calm=true) (hi:PI X tg iter wi) (hg:PG X tg g) (hb:PSs X body tb)
 (hs:∀ x,foldedSetIterable iter X.env x=pure x:=by intro _;rfl):PS X (.For tg iter body [] pos) (G3 wi g tb):=by
 intro pins s σ H D I h
 refine wpAny_For (thn (hi pins s σ H _ I h) fun v s1 h1=>thn h1 fun itv s2 h2=>?_) hs
 obtain ⟨it,fp,tn,J,H2,e,I2,T,st2,f2,W,⟨m0,w0⟩,turn⟩:=h2
 subst e
 have stat:∀ {H':Hp},(∀ b ∈ fp,H' b=none)→∀ b ∈ fp,jN X pins H' b:=fun hn b hb=>⟨hn b hb,(f2 b hb).2⟩
 refine codeAny_forLoop_any (fun n s'=>∃ i σ' H',Inv X pins σ' H' s'∧tn i s'.heap∧(∀ b ∈ fp,H' b=none)∧W i n σ' H') ?_ m0 ⟨0,σ,H2,I2,st2,fun b hb=>(f2 b hb).1,w0⟩
 rintro n s3 ⟨i,σ3,H3,I3,st3,fr3,w3⟩
 rcases turn i n σ3 H3 w3 with ⟨stop,qn⟩ | ⟨go,N,hN,step⟩
 ·refine wpAny_passesOwn hp (thn (T.done X rfl rfl rfl hc i pins s3 σ3 H3 X.xe I3 (stat fr3) st3 stop) fun r s4 ⟨hr,I4⟩=>?_)
  subst hr
  exact wpAny_execs_nil ⟨σ3,H3,I4,qn⟩
 ·refine wpAny_passesOwn hp (thn (T.item X rfl rfl rfl hc i pins s3 σ3 H3 X.xe I3 (stat fr3) st3 go) fun r s4 ⟨u,hr,h4⟩=>?_)
  subst hr
  refine wpAny_passesOwn hp (thn h4 fun _ s5 ⟨x,H5,I5,r5,y5,st5,fr5⟩=>?_)
  have I5':=I5.pinned (stat fr5) (T.obj _ _ st5)
  refine wpAny_passesOwn hp (thn (hg _ s5 σ3 H5 x u _ I5' r5 (step x H5 y5)) fun _ s6 ⟨σ6,H6,I6,q6⟩=>?_)
  refine wpAny_passesOwn hp (thn (hb _ s6 σ6 H6 _ I6 q6) fun f s7 q7=>?_)
  have again:∀ {σ7:St} {H7:Hp},Inv X (pins++jX fp s5.heap) σ7 H7 s7→N σ7 H7→∃ m,m < n∧∃ i σ' H',Inv X pins σ' H' s7∧tn i s7.heap∧(∀ b ∈ fp,H' b=none)∧W i m σ' H':=fun {σ7 H7} I7 n7=>by
   obtain ⟨m',hm,w7⟩:=hN σ7 H7 n7
   refine ⟨m',hm,i + 1,σ7,H7,I7.unpinned,T.keep _ _ _ st5 fun b hb o e=>(I7.pin (b,o) (aK _ (aK _ (g_ hb e)))).1,fun b hb=>?_,w7⟩
   obtain ⟨o,e,d⟩:=T.obj _ _ st5 b hb
   exact (I7.pin (b,o) (aK _ (aK _ (g_ hb e)))).2.1
  cases f with
  | next=>obtain ⟨σ7,H7,I7,n7⟩:=q7;exact again I7 n7
  | cont=>obtain ⟨σ7,H7,I7,n7⟩:=q7;exact again I7 n7
  | brk=>obtain ⟨σ7,H7,I7,q7⟩:=q7;exact ⟨σ7,H7,I7.unpinned,q7⟩
  | ret v=>obtain ⟨x7,σ7,H7,I7,r7,q7⟩:=q7;exact ⟨x7,σ7,H7,I7.unpinned,r7,q7⟩
end
end L2
namespace L2
open PySem PySem.Spec PyProof.Rows
abbrev R2:=V→V→Hp→VK→Prop
def OpR (X:Cx) (f:Value→Value→Sem Value) (r:R2):Prop :=
 ∀ (pins:List (Addr × Obj)) (s:Shared) (σ:St) (H:Hp) (x y:V) (v u:Value) (Q:VK),Inv X pins σ H s→RelV x v→RelV y u→r x y H Q →
  wpAny (model X.prog X.w) X.A (f v u) (EP X pins σ Q) X.xe s
def lE (X:Cx) (f:Value) (r:List V→Hp→VK→Prop):Prop :=
 ∀ (pins:List (Addr × Obj)) (s:Shared) (σ:St) (H:Hp) (xs:List V) (us:List Value) (Q:VK),Inv X pins σ H s→Vals xs us→r xs H Q →
  wpAny (model X.prog X.w) X.A (call f us) (EP X pins σ Q) X.xe s
def tOp (r:R2) (ta tb:TE):TE:=fun σ H Q=>ta σ H fun x H1=>tb σ H1 fun y H2=>r x y H2 Q
def rI (C:Int→Int→Prop) (g:Int→Int→V):R2:=fun x y H Q=>∃ i j,x = .int i∧y = .int j∧C i j∧Q (g i j) H
def rI0 (g:Int→Int→V):R2:=fun x y H Q=>∃ i j,x = .int i∧y = .int j∧Q (g i j) H
section
variable {X:Cx} {a b c:Expr} {ta tb tc:TE} {pos:Pos}
theorem Ac (ha:PE X a ta) (hb:PE X b tb) {pins:List (Addr × Obj)} {s:Shared} {σ:St} {H:Hp} {R:V→V→Hp→Prop} (I:Inv X pins σ H s)
 (h:ta σ H fun x H1=>tb σ H1 fun y H2=>R x y H2) {Q:Value→Shared→Prop} {f:Value→Value→Sem Value}
 (hf:∀ v u s2 x y H2,Inv X pins σ H2 s2→RelV x v→RelV y u→R x y H2→wpAny (model X.prog X.w) X.A (f v u) Q X.xe s2) :
 wpAny (model X.prog X.w) X.A (eval a X.env) (fun v s₁=>wpAny (model X.prog X.w) X.A (eval b X.env) (fun u s₂=>wpAny (model X.prog X.w) X.A (f v u) Q X.xe s₂) X.xe s₁) X.xe s:=by
 refine thn (ha pins s σ H _ I h) fun v s1 ⟨x,H1,I1,r1,q1⟩=>?_
 refine thn (hb pins s1 σ H1 _ I1 q1) fun u s2 ⟨y,H2,I2,r2,q2⟩=>?_
 exact hf v u s2 x y H2 I2 r1 r2 q2
theorem yR {op:Operator} {r:R2} (ho:OpR X (binaryOp op) r) (ha:PE X a ta) (hb:PE X b tb):PE X (.BinOp a op b pos) (tOp r ta tb):=by
 intro pins s σ H Q I h
 exact wpAny_BinOp (Ac ha hb I h fun v u s2 x y H2 I2 rx ry q=>ho pins s2 σ H2 x y v u Q I2 rx ry q)
theorem opI {f:Value→Value→Sem Value} {C:Int→Int→Prop} {g:Int→Int→Int}
 (rule:∀ (i j:Int) (t u:Tok) (s:Shared) (Q:Value→Shared→Prop) (E:Value→Shared→Prop),C i j→Q (.int (g i j) s.toks) { s with toks:=s.toks + 1 }→wpAny (model X.prog X.w) X.A (f (.int i t) (.int j u)) Q E s) :
 OpR X f (rI C fun i j=>.int (g i j)):=by
 intro pins s σ H x y v u Q I rx ry h
 obtain ⟨i,j,rfl,rfl,hc,q⟩:=h
 obtain ⟨t,rfl⟩:=rx
 obtain ⟨t',rfl⟩:=ry
 exact rule i j t t' s _ _ hc ⟨.int (g i j),H,I.tok _,⟨_,rfl⟩,q⟩
theorem Dt {f:Value→Value→Sem Value} {g:Int→Int→Int}
 (rule:∀ (i j:Int) (t u:Tok) (s:Shared) (Q:Value→Shared→Prop) (E:Value→Shared→Prop),Q (.int (g i j) s.toks) { s with toks:=s.toks + 1 }→wpAny (model X.prog X.w) X.A (f (.int i t) (.int j u)) Q E s) :
 OpR X f (rI0 fun i j=>.int (g i j)):=by
 intro pins s σ H x y v u Q I rx ry h
 obtain ⟨i,j,rfl,rfl,q⟩:=h
 obtain ⟨t,rfl⟩:=rx
 obtain ⟨t',rfl⟩:=ry
 exact rule i j t t' s _ _ ⟨.int (g i j),H,I.tok _,⟨_,rfl⟩,q⟩
theorem Ad {f:Value→Value→Sem Value} {g:Int→Int→Bool}
 (rule:∀ (i j:Int) (t u:Tok) (s:Shared) (Q:Value→Shared→Prop) (E:Value→Shared→Prop),Q (.bool (g i j)) s→wpAny (model X.prog X.w) X.A (f (.int i t) (.int j u)) Q E s) :
 OpR X f (rI0 fun i j=>.bl (g i j)):=by
 intro pins s σ H x y v u Q I rx ry h
 obtain ⟨i,j,rfl,rfl,q⟩:=h
 obtain ⟨t,rfl⟩:=rx
 obtain ⟨t',rfl⟩:=ry
 exact rule i j t t' s _ _ ⟨.bl (g i j),H,I,rfl,q⟩
def Ae (i j:Int):Prop:=0 ≤ j∧j ≤ 1000000∧i.natAbs < 2 ^ 64
theorem h_:OpR X (binaryOp .Add) (rI0 fun i j=>.int (i + j)):=Dt fun _ _ _ _ _ _ _ q=>add_int q
theorem Af:OpR X (binaryOp .Sub) (rI0 fun i j=>.int (i - j)):=Dt fun _ _ _ _ _ _ _ q=>sub_int q
theorem fH:OpR X (binaryOp .Mod) (rI (fun _ j=>j ≠ 0) fun i j=>.int (i.fmod j)):=opI fun _ _ _ _ _ _ _ hc q=>mod_int' hc q
theorem jY:OpR X (binaryOp .Pow) (rI Ae fun i j=>.int (i ^ j.toNat)):=opI fun _ _ _ _ _ _ _ hc q=>pow_int_small hc.1 hc.2.1 hc.2.2 q
end
section
variable {X:Cx} {a b c:Expr} {ta tb tc:TE} {pos:Pos}
theorem sV:OpR X (compareOp .Lt) (rI0 fun i j=>.bl (decide (i < j))):=Ad fun _ _ _ _ _ _ _ q=>lt_int q
theorem Du:OpR X (compareOp .Gt) (rI0 fun i j=>.bl (decide (j < i))):=Ad fun _ _ _ _ _ _ _ q=>gt_int q
theorem Dv:OpR X (compareOp .GtE) (rI0 fun i j=>.bl (decide (j ≤ i))):=Ad fun _ _ _ _ _ _ _ q=>ge_int q
theorem dj (b:Expr) {op:CmpOp} (h:op ≠ .In:=by decide) (h2:op ≠ .NotIn:=by decide):behindInMarks op b=false:=by
 have e1:(op == CmpOp.In)=false:=by cases op <;> first | rfl | exact absurd rfl h
 have e2:(op == CmpOp.NotIn)=false:=by cases op <;> first | rfl | exact absurd rfl h2
 cases b <;> simp [behindInMarks,e1,e2]
theorem vO {op:CmpOp} {r:R2} (ho:OpR X (compareOp op) r) (ha:PE X a ta) (hb:PE X b tb) (hm:behindInMarks op b=false):PE X (.Compare a [op] [b] pos) (tOp r ta tb):=by
 intro pins s σ H Q I h
 exact wpAny_Compare1 (Ac ha hb I h fun v u s2 x y H2 I2 rx ry q=>ho pins s2 σ H2 x y v u Q I2 rx ry q) hm
def Dw (t:TE):TT:=fun σ H Q=>t σ H fun x H'=>∃ k,x = .bl k∧Q k H'
theorem vQ {op:CmpOp} {r:R2} (ho:OpR X (compareOp op) r) (ha:PE X a ta) (hb:PE X b tb) (hm:behindInMarks op b=false):PT X (.Compare a [op] [b] pos) (Dw (tOp r ta tb)):=by
 intro pins s σ H Q I h
 refine wpAny_isTrue_Compare1 (thn (ha pins s σ H _ I h) fun v s1 ⟨x,H1,I1,r1,q1⟩=>thn (hb pins s1 σ H1 _ I1 q1) fun u s2 ⟨y,H2,I2,r2,q2⟩ =>
  thn (ho pins s2 σ H2 x y v u _ I2 r1 r2 q2) fun c s3 ⟨z,H3,I3,r3,k,e,q3⟩=>?_) hm
 subst e
 cases r3
 exact wpAny_truthy_bool ⟨H3,I3,q3⟩
theorem mC:(sizeLine:Nat) < 2 ^ 63:=by rw [sizeLine_eq];decide
theorem vals1 {x:V} {us:List Value} (r:Vals [x] us):∃ u,us=[u]∧RelV x u:=by
 cases r with
 | cons r1 r2=>cases r2;exact ⟨_,rfl,r1⟩
theorem vals2 {x y:V} {us:List Value} (r:Vals [x,y] us):∃ u w',us=[u,w']∧RelV x u∧RelV y w':=by
 cases r with
 | cons r1 r2 =>
  cases r2 with
  | cons r3 r4=>cases r4;exact ⟨_,_,rfl,r1,r3⟩
end
end L2
namespace L2
open PySem PySem.Spec PyProof.Rows
structure ObjM (h:Heap) (x dx C:Addr) (mA:Str→Option Value):Prop where
 obj:h.get? x=some (PySem.W.instObj C dx)
 ns:h.Ns1 dx mA
 ne:dx ≠ x
theorem jD {h:Heap} {dx:Addr} {mA:Str→Option Value} (n:h.Ns1 dx mA):∃ od,h.get? dx=some od∧∀ name,PySem.W.lookIn name od=some (mA name):=by
 obtain ⟨o,es,ep,ho,hd,hk,_,hm⟩:=n
 refine ⟨o,ho,fun name=>?_⟩
 have e:=hm name
 unfold nsFind findBy at e
 rw [← jl] at e
 unfold PySem.W.lookIn
 rw [hd]
 dsimp only
 split
 ·rename_i y q
  rw [q] at e
  exact congrArg some e
 ·rename_i q
  rw [q] at e
  have a:es.toList.any (·.refKey)=false:=by
   rw [List.any_eq_false]
   intro y hy
   obtain ⟨z,t,hkey⟩:=hk y (iI.mp hy)
   simp [DictEntry.refKey,hkey]
  have a':¬ es.toList.any (·.refKey)=true:=by rw [a];exact f9
  rw [if_neg a']
  exact congrArg some e
theorem ObjM.look {h:Heap} {x dx C:Addr} {mA:Str→Option Value} (I:ObjM h x dx C mA):∃ od,PySem.W.InstAt h x (PySem.W.instObj C dx) C (some od)∧∀ name,PySem.W.lookIn name od=some (mA name) :=
 let ⟨od,ho,hl⟩:=jD I.ns
 ⟨od,⟨I.obj,rfl,rfl,ho⟩,hl⟩
section
variable {prog:Program} {w:World} {A:Around} {E:Value→Shared→Prop} {s:Shared} {K:PySem.W.Frag} {x dx C f:Addr} {mA:Str→Option Value} {name:Str} {v:Value}
end
theorem lF {v:V} {u:Value} (r:RelV v u):PySem.W.handedIn u=true:=by
 cases v with
 | non=>cases (show u=Value.none from r);rfl
 | bl b=>cases (show u=Value.bool b from r);rfl
 | int i=>obtain ⟨t,e⟩:=(show ∃ t,u=Value.int i t from r);cases e;rfl
 | str x=>obtain ⟨t,e⟩:=(show ∃ t,u=Value.str x t from r);cases e;rfl
 | byt b=>obtain ⟨t,e⟩:=(show ∃ t,u=Value.bytes b t from r);cases e;rfl
 | flt b=>obtain ⟨t,e⟩:=(show ∃ t,u=Value.float b t from r);cases e;rfl
 | ref a=>cases (show u=Value.ref a from r);rfl
 | ty n=>cases (show u=Value.type n from r);rfl
section
variable {P:Program} {w:World} {H H':Hp} {h h':Heap} {a C dx:Addr} {fs fs':List (Str × V)}
theorem vR (hok:HOk P w H h) (e:H a=some (.ins C dx fs)):∃ mA,ObjM h a dx C mA∧(∀ f,zN (fs.lookup f) (mA f))∧PySem.Within mA (fs.map (·.1))∧fs.length ≤ 1000∧H dx=some (.own a):=by
 obtain ⟨d,z,ne,ob,mA,n,r,q⟩:=(show dF P w H h a (.ins C dx fs) from hok a _ e)
 exact ⟨mA,⟨ob,n,ne⟩,r,q,z,d⟩
end
structure Cls (K:PySem.W.Frag) (C:Addr):Prop where
 pg:PySem.W.plainGet K C Str.empty=true
 hd:PySem.W.hasDictIn K C=true
 po:PySem.W.plainOver K C=true
 sa:PySem.W.findIn K (.ref C) "__setattr__" = some (some (.builtin "object.__setattr__"))
theorem Cls.get {K:PySem.W.Frag} {C:Addr} (c:Cls K C) (f:Str):PySem.W.plainGet K C f=true:=c.pg
structure Con (K:PySem.W.Frag) (C:Addr) (f:Str) (v:V) (u:Value):Prop where
 at_:PySem.W.findIn K (.ref C) f=some (some u)
 rel:RelV v u
 get:PySem.W.specialIn K u "__get__" = some none
 cp:PySem.W.copiedNames.contains f=false
structure Meth (K:PySem.W.Frag) (C:Addr) (m:Str) (f:Addr):Prop where
 at_:PySem.W.findIn K (.ref C) m=some (some (.ref f))
 fn:PySem.W.isFn K (.ref f)=true
 kp:PySem.W.keepIn K (.ref f)=true
section
variable {X:Cx} {pins:List (Addr × Obj)} {σ:St} {H:Hp} {s:Shared} {a C dx:Addr} {fs:List (Str × V)} {f:Str} {v:V} {A:Around} {E:Value→Shared→Prop}
theorem pQ {prog:Program} {w:World} {env:Env} {e:Expr} {f:Str} {pos:Pos} {s:Shared} {Q:Value→Shared→Prop} (hb:attributeBase e f env (eval e env)=eval e env)
 (h:wpAny (model prog w) A (eval e env) (fun o s₁=>wpAny (model prog w) A (getAttr o f true) Q E s₁) E s):wpAny (model prog w) A (eval (.Attribute e f pos) env) Q E s :=
 Attribute_any_ h (by rw [arm_eval_Attribute,hb])
end
section
variable {X:Cx} {o e value:Expr} {f:Str} {pos pos' tpos:Pos} {ta tv:TE}
end
section
variable {X:Cx} {pins:List (Addr × Obj)} {σ:St} {H:Hp} {s:Shared} {A:Around} {E:Value→Shared→Prop} {Q:Value→Shared→Prop} {c:Value} {b:Bool}
inductive TyOf (K:PySem.W.Frag) (H:Hp):V→Value→Prop where
 | non:TyOf K H .non (.type "NoneType")
 | bl (x:Bool):TyOf K H (.bl x) (.type "bool")
 | int (i:Int):TyOf K H (.int i) (.type "int")
 | str (x:Str):TyOf K H (.str x) (.type "str")
 | flt (x:UInt64):TyOf K H (.flt x) (.type "float")
 | lst {a:Addr} {xs:List V} (e:H a=some (.lst xs)):TyOf K H (.ref a) (.type "list")
 | frz {a:Addr} {o:Obj} {xs:List V} (e:H a=some (.frz o (.lst xs))):TyOf K H (.ref a) (.type "list")
 | tup {a:Addr} {xs:List V} (e:H a=some (.tup xs)):TyOf K H (.ref a) (.type "tuple")
 | dK {a:Addr} {kvs:List (Key × V)} (e:H a=some (.dK kvs)):TyOf K H (.ref a) (.type "dict")
 | dT {a:Addr} {kvs:List (List Key × V)} (e:H a=some (.dT kvs)):TyOf K H (.ref a) (.type "dict")
 | ins {a C dx:Addr} {fs:List (Str × V)} (e:H a=some (.ins C dx fs)) (cl:Cls K C) (ha:PySem.W.findIn K (.ref C) "__class__" = some (some (.builtin "object.__class__")))
  (hn:PySem.W.specialIn K (.builtin "object.__class__") "__get__" = some (some (.builtin "getset_descriptor.__get__"))) (htk:PySem.W.takesIn K (.builtin "object.__class__")=some true)
  (hm:PySem.W.mroIn K C (.type "object")=some true):TyOf K H (.ref a) (.ref C)
theorem lG {x:V} {u t:Value} (I:Inv X pins σ H s) (rx:RelV x u) (ty:TyOf X.K H x t) (e:PySem.W.kitOne X.K t c=some b) (h:∀ tk,Q (.bool b) { s with toks:=tk }) :
 wpAny (model X.prog X.w) A (call (.builtin "isinstance") [u,c]) Q E s:=by
 cases ty with
 | non=>cases (show u=Value.none from rx);exact PySem.W.kia_one PySem.W.kitx_none I.kIn True.intro e (fun z=>nomatch z) h
 | bl y=>cases (show u=Value.bool y from rx);exact PySem.W.kia_one PySem.W.kitx_bool I.kIn True.intro e (fun z=>nomatch z) h
 | int i=>obtain ⟨t,q⟩:=(show ∃ t,u=Value.int i t from rx);cases q;exact PySem.W.kia_one PySem.W.kitx_int I.kIn True.intro e (fun z=>nomatch z) h
 | str y=>obtain ⟨t,q⟩:=(show ∃ t,u=Value.str y t from rx);cases q;exact PySem.W.kia_one PySem.W.kitx_str I.kIn True.intro e (fun z=>nomatch z) h
 | flt y=>obtain ⟨t,q⟩:=(show ∃ t,u=Value.float y t from rx);cases q;exact PySem.W.kia_one PySem.W.kitx_float I.kIn True.intro e (fun z=>nomatch z) h
 | @lst a xs ea =>
  cases (show u=Value.ref a from rx)
  obtain ⟨_,_,n,_,h1⟩:=(show dF X.prog X.w H s.heap a (.lst xs) from I.hok a _ ea)
  exact PySem.W.kia_one PySem.W.kitx_list I.kIn ⟨_,h1,rfl⟩ e (fun z=>nomatch z) h
 | @frz a ob xs ea =>
  cases (show u=Value.ref a from rx)
  obtain ⟨_,_,_,n,_,h1⟩:=(show dF X.prog X.w H s.heap a (.frz ob (.lst xs)) from I.hok a _ ea)
  exact PySem.W.kia_one PySem.W.kitx_list I.kIn ⟨_,h1,rfl⟩ e (fun z=>nomatch z) h
 | @tup a xs ea =>
  cases (show u=Value.ref a from rx)
  obtain ⟨_,_,_,p⟩:=(show dF X.prog X.w H s.heap a (.tup xs) from I.hok a _ ea)
  obtain ⟨o,h1,h2,_⟩:=p
  exact PySem.W.kia_one PySem.W.kitx_tuple I.kIn ⟨o,h1,h2⟩ e (fun z=>nomatch z) h
 | @dK a kvs ea =>
  cases (show u=Value.ref a from rx)
  obtain ⟨_,_,vs,_,p⟩:=(show dF X.prog X.w H s.heap a (.dK kvs) from I.hok a _ ea)
  obtain ⟨o,es,ep,h1,h2,_⟩:=p
  exact PySem.W.kia_one PySem.W.kitx_dict I.kIn ⟨o,h1,h2.1⟩ e (fun z=>nomatch z) h
 | @dT a kvs ea =>
  cases (show u=Value.ref a from rx)
  obtain ⟨_,_,xs,_,o,es,ep,h1,h2,_⟩:=(show dF X.prog X.w H s.heap a (.dT kvs) from I.hok a _ ea)
  exact PySem.W.kia_one PySem.W.kitx_dict I.kIn ⟨o,h1,h2.1⟩ e (fun z=>nomatch z) h
 | @ins a C dx fs ea cl ha hn htk hm =>
  cases (show u=Value.ref a from rx)
  obtain ⟨mA,O,_⟩:=vR I.hok ea
  obtain ⟨od,J,_⟩:=O.look
  exact PySem.W.kia_one (PySem.W.kitx_own (cl.get _) cl.hd ha hn htk hm) I.kIn J e (fun z=>nomatch z) h
end
end L2
namespace L2
open PySem PySem.Spec PyProof.Rows
structure Room (k:Nat) (A:Around):Prop where
 hd:A.handled=none
 dp:A.depth + 3 * k + 5 < recursionLimit
 un:A.units + 16 * k + 200 < cLine
theorem Room.mono {j k:Nat} {A:Around} (r:Room k A) (h:j ≤ k):Room j A:=⟨r.hd,by have:=r.dp;omega,by have:=r.un;omega⟩
theorem Room.deeper {k:Nat} {A:Around} (r:Room (k + 1) A) (env:Env):Room k (A.deeper env) :=
 ⟨r.hd,by have:=r.dp;show A.depth + 1 + 3 * k + 5 < _;omega,by have:=r.un;show A.units + 3 + 16 * k + 200 < _;omega⟩
theorem oU {A:Around} {C:Addr} {us:List Value} {kw:List (Str × Value)}:(A.under (.builtin "type.__call__" ⟨.ref C :: us,kw⟩)).depth=A.depth + 1:=by
 first | rfl | simp [Around.under,Code.weight,Code.isCreation,Code.isGuard,Code.isCaller,Code.frames,Code.isFrame,guardIds]
theorem oV {A:Around} {C:Addr} {us:List Value} {kw:List (Str × Value)}:(A.under (.builtin "type.__call__" ⟨.ref C :: us,kw⟩)).units=A.units + 1:=by
 first | rfl | simp [Around.under,Code.cUnits,Code.frames,Code.isFrame]
theorem Room.make {k:Nat} {A:Around} (r:Room (k + 1) A) (C:Addr) (us:List Value) (kw:List (Str × Value)):Room k (A.under (.builtin "type.__call__" ⟨.ref C :: us,kw⟩)) :=
 ⟨r.hd,by have:=r.dp;rw [oU];omega,by have:=r.un;rw [oV];omega⟩
theorem Room.depth {k:Nat} {A:Around} (r:Room k A):A.depth < recursionLimit:=by have:=r.dp;omega
theorem Room.units {k:Nat} {A:Around} (r:Room k A):A.units + 64 < cLine:=by have:=r.un;omega
def Dy:TA:=fun _ H Q=>Q [] H
def yS (ta:TE) (tr:TA):TA:=fun σ H Q=>ta σ H fun x H1=>tr σ H1 fun xs H2=>Q (x :: xs) H2
section
variable {X:Cx} {e:Expr} {es:List Expr} {te:TE} {t:TA} {pos:Pos}
theorem jm:PA X [] Dy:=fun _ _ _ _ H Q I h=>Calls.spliced_nil ⟨[],H,I,.nil,h⟩
theorem eO (ha:PE X e te) (hr:PA X es t) (hs:starEach (e :: es) X.env=(false,eval e X.env) :: starEach es X.env:=by rfl):PA X (e :: es) (yS te t):=by
 intro pos pins s σ H Q I h
 rw [hs]
 show wpAny _ _ (spliced ((false,eval e X.env) :: backTo pos (starEach es X.env))) _ _ s
 refine Calls.spliced_cons (thn (ha pins s σ H _ I h) fun u s1 ⟨x,H1,I1,r1,q1⟩=>?_)
 exact thn (hr pos pins s1 σ H1 _ I1 q1) fun us s2 ⟨xs,H2,I2,r2,q2⟩=>⟨x :: xs,H2,I2,.cons r1 r2,q2⟩
def G4 (t:TA):TE:=fun σ H Q=>t σ H fun xs H1=>xs.length ≤ sizeLine∧∀ p,H1 p=none→Q (.ref p) (upd H1 p (.tup xs))
def G5 (t:TA):TE:=fun σ H Q=>t σ H fun xs H1=>xs.length ≤ sizeLine∧∀ p,H1 p=none→Q (.ref p) (upd H1 p (.lst xs))
theorem Ag {x1} (h:PA X es t):PE X (.Tuple es x1 pos) (G4 t):=by
 intro pins s σ H Q I hq
 refine wpAny_Tuple_spliced (thn (h pos pins s σ H _ I hq) fun us s1 ⟨xs,H1,I1,r,z,q⟩=>⟨by rw [← r.length];exact z,?_⟩)
 have hf:H1 s1.heap.objs.size=none:=I1.hok.fresh (aU _)
 refine ⟨.ref s1.heap.objs.size,upd H1 s1.heap.objs.size (.tup xs),I1.laid (t':=s1.toks) (fun b u e=>Heap.get?_push_of_some _ e) (aU _) ?_,rfl,q _ hf⟩
 exact ⟨z,us,r,⟨_,Heap.get?_push_size _ rfl,rfl,_,rfl⟩⟩
theorem Ah (h:PA X es t):PE X (.List es pos) (G5 t):=by
 intro pins s σ H Q I hq
 refine wpAny_List_spliced (thn (h pos pins s σ H _ I hq) fun us s1 ⟨xs,H1,I1,r,z,q⟩=>⟨by rw [← r.length];exact z,?_⟩)
 have hf:H1 s1.heap.objs.size=none:=I1.hok.fresh (aU _)
 refine ⟨.ref s1.heap.objs.size,upd H1 s1.heap.objs.size (.lst xs),I1.laid (t':=s1.toks) (fun b u e=>Heap.get?_push_of_some _ e) (aU _) ?_,rfl,q _ hf⟩
 exact ⟨z,us,0,r,Heap.get?_push_size _ rfl⟩
end
abbrev Sp:=List V→Hp→VK→XK→Prop
abbrev CXT:=List Env→Hp→Shared→XK→Value→Shared→Prop
structure Env0 (P:Program) (w:World) (K:PySem.W.Frag) (mg:Str→Option Value) (base:Heap) (A:Around) (outer:List Env) (s:Shared) (H:Hp):Prop where
 frames:A.frames=some outer
 mod:Mod K mg base
 bs:∀ b o,base.get? b=some o→s.heap.get? b=some o∧H b=none
 bsz:base.objs.size ≤ s.heap.objs.size
 funs:s.heap.FunFrames base outer
 frf:∀ b ∈ frs outer,H b=none
 hok:HOk P w H s.heap
 bare:AllBare s.gens
def CE (outer:List Env) (P:Program) (w:World) (H:Hp) (s:Shared) (Q:VK) (u:Value) (s':Shared):Prop :=
 ∃ v H',s'.os=s.os∧AllBare s'.gens∧Un (frs outer) [] H H' s.heap s'.heap∧HOk P w H' s'.heap∧RelV v u∧Q v H'
def CR (CX:CXT) (outer:List Env) (P:Program) (w:World) (H:Hp) (s:Shared) (Q:VK) (E:XK) (r:Result) (s':Shared):Prop :=
 match r with
 | .ok (.ret u)=>CE outer P w H s Q u s'
 | .ok _=>False
 | .error e=>CX outer H s E e s'
structure FnOk (P:Program) (w:World) (K:PySem.W.Frag) (mg:Str→Option Value) (base:Heap) (CX:CXT) (k:Nat) (f:Addr) (fd:FuncData) (ps:List Str) (sp:Sp):Prop where
 len:∀ vs H Q E,sp vs H Q E→vs.length=ps.length
 run:∀ (A:Around) (outer:List Env) (s:Shared) (H:Hp) (args:Args) (us:List Value) (vs:List V) (Q:VK) (E:XK),Room k A→Env0 P w K mg base A outer s H→BindsTo s fd args (ps.zip us)→Vals vs us→sp vs H Q E →
  codeAny (model P w) A (.call (.ref f) args) (CR CX outer P w H s Q E) s
theorem FnOk.mono {P:Program} {w:World} {K:PySem.W.Frag} {mg:Str→Option Value} {base:Heap} {CX:CXT} {j k:Nat} {f:Addr} {fd:FuncData} {ps:List Str} {sp:Sp} (F:FnOk P w K mg base CX j f fd ps sp) (h:j ≤ k) :
 FnOk P w K mg base CX k f fd ps sp:=⟨F.len,fun A outer s H args us vs Q E hr=>F.run A outer s H args us vs Q E (hr.mono h)⟩
theorem FnOk.imp {P:Program} {w:World} {K:PySem.W.Frag} {mg:Str→Option Value} {base:Heap} {CX:CXT} {k:Nat} {f:Addr} {fd:FuncData} {ps:List Str} {sp sp':Sp} (F:FnOk P w K mg base CX k f fd ps sp)
 (h:∀ vs H Q E,sp' vs H Q E→sp vs H Q E):FnOk P w K mg base CX k f fd ps sp' :=
 ⟨fun vs H Q E q=>F.len vs H Q E (h _ _ _ _ q),fun A outer s H args us vs Q E hr he hb hv hs=>F.run A outer s H args us vs Q E hr he hb hv (h _ _ _ _ hs)⟩
theorem Env0.make {P:Program} {w:World} {K:PySem.W.Frag} {mg:Str→Option Value} {base:Heap} {A:Around} {outer:List Env} {s:Shared} {H:Hp} (e:Env0 P w K mg base A outer s H) (C:Addr) (us:List Value) (kw:List (Str × Value)) :
 Env0 P w K mg base (A.under (.builtin "type.__call__" ⟨.ref C :: us,kw⟩)) outer s H:=⟨by first | exact e.frames | (simpa [Around.under,Code.envs,Code.isFrame,pushEnvs] using e.frames),e.mod,e.bs,e.bsz,e.funs,e.frf,e.hok,e.bare⟩
section
variable {X:Cx} {pins:List (Addr × Obj)} {σ:St} {H:Hp} {s s':Shared}
theorem Inv.env0 (I:Inv X pins σ H s):Env0 X.prog X.w X.K X.mg X.base X.A X.stack s H :=
 ⟨I.ok.frames,I.ok.mod,I.bs,aV I.ok.bsz I.sz,I.stack,I.stkFree,I.hok,I.bare⟩
theorem Inv.after {Q:VK} {u:Value} (I:Inv X pins σ H s) (h:CE X.stack X.prog X.w H s Q u s'):EP X pins σ Q u s':=by
 obtain ⟨v,H',os,bare,un,hok,r,q⟩:=h
 obtain ⟨hh,g,d,t,os'⟩:=s'
 obtain rfl:os'=s.os:=os
 exact ⟨v,H',I.call (h':=hh) (g':=g) (d':=d) (t':=t) (ch:=[]) un hok bare (fun b z=>absurd z (by simp)),r,q⟩
end
def yU (sp:Sp) (dvs:List V) (E:XK) (t:TA):TE:=fun σ H Q=>t σ H fun vs H1=>sp (vs++dvs) H1 Q E
def Binds (K:PySem.W.Frag) (fd:FuncData) (ps:List Str) (ds:List Value):Prop :=
 ∀ (s:Shared) (us:List Value),K.In s.heap→(us++ds).length=ps.length→BindsTo s fd ⟨us,[]⟩ (ps.zip (us++ds))
theorem Binds.all {K:PySem.W.Frag} {fd:FuncData} {ps:List Str} (h:∀ us:List Value,us.length=ps.length→bindArgs fd ⟨us,[]⟩=pure (ps.zip us)):Binds K fd ps []:=fun s us _ hl=>by
 rw [fQ] at hl ⊢
 exact .of_eq (h us hl)
def Passes (CX:CXT) (X:Cx) (E:XK):Prop:=∀ (pins:List (Addr × Obj)) (σ:St) (H:Hp) (s:Shared) (e:Value) (s':Shared),Inv X pins σ H s→CX X.stack H s E e s'→X.xe e s'
section
variable {X:Cx} {CX:CXT} {k:Nat} {f C:Addr} {fd:FuncData} {ps:List Str} {sp:Sp} {dvs:List V} {ds:List Value} {E:XK} {x m:Str} {p pos apos:Pos} {e o:Expr} {es:List Expr} {ta:TE} {t:TA}
theorem Ai {pins:List (Addr × Obj)} {σ:St} {H:Hp} {s:Shared} {Q:VK} {us:List Value} {vs:List V} (F:FnOk X.prog X.w X.K X.mg X.base CX k f fd ps sp) (hr:Room k X.A) (hb:Binds X.K fd ps ds) (hd:Vals dvs ds) (hx:Passes CX X E)
 (I:Inv X pins σ H s) (r:Vals vs us) (h:sp (vs++dvs) H Q E):wpAny (model X.prog X.w) X.A (call (.ref f) us) (EP X pins σ Q) X.xe s:=by
 have r2:Vals (vs++dvs) (us++ds):=r.append hd
 have hl:(us++ds).length=ps.length:=by rw [← r2.length];exact F.len _ _ _ _ h
 refine wpAny_call (codeAny_mono (F.run X.A X.stack s H ⟨us,[]⟩ (us++ds) (vs++dvs) Q E hr I.env0 (hb s us I.kIn hl) r2 h) fun r s' hq=>?_)
 cases r with
 | error e=>exact hx pins σ H s e s' I hq
 | ok fl =>
  cases fl with
  | ret u=>exact I.after hq
  | next=>exact False.elim hq
  | brk=>exact False.elim hq
  | cont=>exact False.elim hq
theorem vU (F:FnOk X.prog X.w X.K X.mg X.base CX k f fd ps sp) (hr:Room k X.A) (hg:Gl X x) (hm:X.mg x=some (.ref f)) (hk:PySem.W.keepIn X.K (.ref f)=true) (hb:Binds X.K fd ps ds) (hd:Vals dvs ds) (hx:Passes CX X E)
 (ha:PA X (e :: es) t) (hdb:(x == ("__debug__" : Str))=false:=by decide) (he:starEach (e :: es) X.env=(false,eval e X.env) :: starEach es X.env:=by rfl) (hpl:(backTo pos (starEach es X.env)).any (·.1)=false:=by rfl) :
 PE X (.Call (.Name x p) (e :: es) [] pos) (yU sp dvs E t):=by
 intro pins s σ H Q I h
 refine wpAny_Call_Name_kw (jR I hg hm ?_ hdb)
 refine PySem.W.callWith_K (h₀:=X.base) I.ok.mod.kin hk (thn (ha pos pins s σ H _ I h) fun us s1 ⟨vs,H1,I1,r,q⟩=>⟨I1.kIn,?_⟩) he hpl
 exact Ai F hr hb hd hx I1 r q
structure Mk (K:PySem.W.Frag) (C f:Addr):Prop where
 makes:PySem.W.makesIn K C=true
 init:PySem.W.findIn K (.ref C) "__init__" = some (some (.ref f))
 fn:PySem.W.isFn K (.ref f)=true
 kp:PySem.W.keepIn K (.ref C)=true
end
section
variable {X:Cx} {CX:CXT} {k:Nat} {f C:Addr} {fd:FuncData} {ps ks:List Str} {sp:Sp} {E:XK} {x m:Str} {p pos apos kpos:Pos} {e o:Expr} {es:List Expr} {kws:List Keyword} {te ta:TE} {t tk:TA} {nm:Option Str}
structure KBinds (K:PySem.W.Frag) (fd:FuncData) (ps ks:List Str) (g:List Value→List Value→List Value) (gV:List V→List V→List V):Prop where
 to:∀ (s:Shared) (us ws:List Value),K.In s.heap→(g us ws).length=ps.length→BindsTo s fd ⟨us,ks.zip ws⟩ (ps.zip (g us ws))
 rel:∀ {vs:List V} {us:List Value} {zs:List V} {ws:List Value},Vals vs us→Vals zs ws→Vals (gV vs zs) (g us ws)
variable {g:List Value→List Value→List Value} {gV:List V→List V→List V}
end
structure FnScope (N P:List Str) (sc:Scope):Prop where
 kind:sc.kind = .function
 co:sc.isCoroutine=false
 gen:sc.isGenerator=false
 nd:N.Nodup
 pre:N.take P.length=P
 par:∀ x ∈ P,sc.names.lookup x=some .local∨sc.names.lookup x=some .cell
 nofree:∀ y ∈ sc.names,y.2 ≠ .free
theorem lH {kindOf:Str→Option NameKind} {x:Str}:∀ {binds:List (Str × Value)} {m:Str→Option Value},(∀ v,(x,v) ∉ binds)→bindL kindOf binds m x=m x
 | [],_,_=>rfl
 | (n,v) :: r,m,h=>by
  unfold bindL
  rw [lH fun w hw=>h w (aA _ hw)]
  split
  ·have:x ≠ n:=by rintro rfl;exact h v aB
   simp [this]
  ·rfl
theorem lJ {kindOf:Str→Option NameKind} {x:Str}:∀ {binds:List (Str × Value)} {m:Str→Option Value},(∀ v,(x,v) ∉ binds)→bindC kindOf binds m x=m x
 | [],_,_=>rfl
 | (n,v) :: r,m,h=>by
  unfold bindC
  rw [lJ fun w hw=>h w (aA _ hw)]
  split
  ·rfl
  ·have:x ≠ n:=by rintro rfl;exact h v aB
   simp [this]
theorem iY {kindOf:Str→Option NameKind} {x:Str} {v:Value}:∀ {P:List Str} {vs:List Value} {i:Nat} {m:Str→Option Value},P.Nodup→P[i]? = some x→vs[i]? = some v→kindOf x=some .local →
 bindL kindOf (P.zip vs) m x=some v
 | [],_,_,_,_,h,_,_=>by simp at h
 | _ :: _,[],_,_,_,_,h,_=>by simp at h
 | p :: P,w :: vs,0,m,nd,h1,h2,hk=>by
  simp at h1 h2;subst h1;subst h2
  show bindL kindOf ((p,w) :: P.zip vs) m p=_
  unfold bindL
  rw [lH fun v hv=>(dD.mp nd).1 (fU hv).1,if_pos hk]
  simp
 | p :: P,w :: vs,i + 1,m,nd,h1,h2,hk=>by
  show bindL kindOf ((p,w) :: P.zip vs) m x=_
  unfold bindL
  exact iY (i:=i) (dD.mp nd).2 (by simpa using h1) (by simpa using h2) hk
theorem lK {kindOf:Str→Option NameKind} {x:Str} {v:Value}:∀ {P:List Str} {vs:List Value} {i:Nat} {m:Str→Option Value},P.Nodup→P[i]? = some x→vs[i]? = some v→kindOf x ≠ some .local →
 bindC kindOf (P.zip vs) m x=some v
 | [],_,_,_,_,h,_,_=>by simp at h
 | _ :: _,[],_,_,_,_,h,_=>by simp at h
 | p :: P,w :: vs,0,m,nd,h1,h2,hk=>by
  simp at h1 h2;subst h1;subst h2
  show bindC kindOf ((p,w) :: P.zip vs) m p=_
  unfold bindC
  rw [lJ fun v hv=>(dD.mp nd).1 (fU hv).1,if_neg hk]
  simp
 | p :: P,w :: vs,i + 1,m,nd,h1,h2,hk=>by
  show bindC kindOf ((p,w) :: P.zip vs) m x=_
  unfold bindC
  exact lK (i:=i) (dD.mp nd).2 (by simpa using h1) (by simpa using h2) hk
def start (N:List Str) (vs:List V):St:=vs.map some++bC (N.length - vs.length) none
def oW (CX:CXT) (P:Program) (w:World) (K:PySem.W.Frag) (mg:Str→Option Value) (base:Heap) (N:List Str) (qual:Str) (scope:Scope) (f:Addr) (cd:Value) (A:Around) (outer:List Env) (s:Shared) (H:Hp) (E:XK):Cx where
 prog:=P
 w:=w
 K:=K
 mg:=mg
 base:=base
 A:=A.deeper (envOfC qual scope s.heap.objs.size f cd)
 N:=N
 s₀:=s
 H₀:=H
 env:=envOfC qual scope s.heap.objs.size f cd
 outer:=outer
 stack:=envOfC qual scope s.heap.objs.size f cd :: outer
 ex:=[]
 calm:=true
 fn:=fun _=>true
 pn:=[]
 xe:=fun e s'=>wpAny (model P w) (A.deeper (envOfC qual scope s.heap.objs.size f cd)) (leaving (envOfC qual scope s.heap.objs.size f cd) e) (fun _ s''=>CX outer H s E e s'') (fun e' s''=>CX outer H s E e' s'') s'
theorem nj {sc:Scope} {n:Nat} {x:Str} (h:sc.names.lookup x=some .cell):∃ c,(cellsFrom n sc.names []).lookup x=some c:=by
 have q:=PySem.W.cellsFrom_some sc.names n [] (.inl h)
 exact Option.isSome_iff_exists.mp q
theorem rC {CX:CXT} {P:Program} {w:World} {K:PySem.W.Frag} {mg:Str→Option Value} {base:Heap} {N ps:List Str} {qual:Str} {scope:Scope} {f:Addr} {cd:Value} {A:Around} {outer:List Env} {s s1:Shared} {H:Hp} {E:XK} {us:List Value} {vs:List V}
 (S:FnScope N ps scope) (hd:A.handled=none) (e0:Env0 P w K mg base A outer s H) (hl:vs.length=ps.length) (r:Vals vs us)
 (x:InCallC s s.heap.objs.size (bindL (envOfC qual scope s.heap.objs.size f cd).kindOf (ps.zip us) fun _=>none) (cellsFrom (s.heap.objs.size + 1) scope.names []) (bindC (envOfC qual scope s.heap.objs.size f cd).kindOf (ps.zip us) fun _=>none) s1) :
 Inv (oW CX P w K mg base N qual scope f cd A outer s H E) [] (start N vs) H s1:=by
 have hpl:ps.length ≤ N.length:=by have:=congrArg jH S.pre;rw [List.length_take] at this;omega
 obtain ⟨h1,tk,rfl,hk⟩:=x.done
 have noA:∀ b:Addr,b ∉ (oW CX P w K mg base N qual scope f cd A outer s H E).ex:=fun b z=>absurd (show b ∈ ([]:List Addr) from z) (by simp)
 refine ⟨⟨e0.mod,S.kind,rfl,rfl,aU _,fun y z c h1 h2=>?_,fun y hy=>?_,fun y c _ h=>?_,fun _=>hd,Around.frames_deeper e0.frames,.inr ⟨rfl,rfl⟩,fun b z=>absurd z (noA b),e0.bs,e0.bsz,fun b _ _=>noA b,fun b z=>absurd z (noA b),e0.funs,e0.frf⟩,
  rfl,e0.bare,Un.kept hk,⟨_,x.toInCall.ns,fun i y v h1 h2 h3=>?_⟩,fun y c h=>⟨_,x.cell y c h⟩,e0.hok.fresh (aU _),fun y c h=>?_,fun p hp=>absurd (show p ∈ ([]:List (Addr × Obj)) from hp) (by simp),e0.hok.kept hk,?_⟩
 ·exact name_of_addr x.apart (PySem.mem_of_lookup h1) (PySem.mem_of_lookup h2)
 ·have hy:scope.names.lookup y=some .cell∨scope.names.lookup y=some .free:=hy
  rcases hy with hy | hy
  ·exact nj hy
  ·exact absurd rfl (S.nofree _ (PySem.mem_of_lookup hy))
 ·exact fW (x.above y c (PySem.mem_of_lookup h))
 ·have hi:i < vs.length:=by
   unfold start at h2
   by_cases hi:i < vs.length
   ·exact hi
   ·rw [bL (by simpa using hi)] at h2
    rw [cD] at h2
    split at h2 <;> cases h2
  have ha:vs[i]? = some v:=by
   unfold start at h2
   rw [bO (by simpa using hi),bI] at h2
   cases e:vs[i]? with
   | none=>rw [e] at h2;cases h2
   | some a=>rw [e] at h2;cases h2;rfl
  obtain ⟨u,hu,rv⟩:=r.get ha
  have hp:ps[i]? = some y:=by
   rw [← S.pre,List.getElem?_take_of_lt (by omega)];exact h1
  have ndP:ps.Nodup:=by rw [← S.pre];exact S.nd.sublist (List.take_sublist _ _)
  refine ⟨u,rv,?_⟩
  rcases S.par y (List.mem_of_getElem? hp) with k | k
  ·exact .inl ⟨k,iY ndP hp hu k⟩
  ·obtain ⟨c,e⟩:=nj (n:=s.heap.objs.size + 1) k
   refine .inr ⟨.inl k,c,e,?_⟩
   have q:=x.cell y c e
   rw [lK ndP hp hu (by show scope.names.lookup y ≠ _;rw [k];decide)] at q
   exact q
 ·exact e0.hok.fresh (fW (x.above y c (PySem.mem_of_lookup h)))
 ·unfold start
  show _=N.length
  rw [bM,aX,aR]
  omega
theorem Dz {CX:CXT} {P:Program} {w:World} {K:PySem.W.Frag} {mg:Str→Option Value} {base:Heap} {k:Nat} {f:Addr} {name qual:Str} {params:Arguments} {body:List Stmt} {scope:Scope} {dV kV doc pm cdv ct oc:Value} {an od:Option Addr}
 {osl:Array (Option Value)} {N ps:List Str} {sp:Sp} (lk:K.lookup f=some ⟨oc,od,.func (PySem.W.fnOf name qual params body scope dV kV doc pm an cdv ct),osl⟩) (hcd:PySem.W.codeIn K cdv qual=true) (S:FnScope N ps scope)
 (len:∀ vs H Q E,sp vs H Q E→vs.length=ps.length)
 (hbody:∀ (A:Around) (outer:List Env) (s:Shared) (H:Hp) (vs:List V) (Q:VK) (E:XK),Room k (A.deeper (envOfC qual scope s.heap.objs.size f cdv))→sp vs H Q E →
  ∃ t,PSs (oW CX P w K mg base N qual scope f cdv A outer s H E) body t∧t { nx:=fun _ H'=>Q .non H',rt:=Q } (start N vs) H) :
 FnOk P w K mg base CX (k + 1) f (PySem.W.fnOf name qual params body scope dV kV doc pm an cdv ct) ps sp:=by
 refine ⟨len,fun A outer s H args us vs Q E hr e0 hb r hsp=>?_⟩
 have hl:=len _ _ _ _ hsp
 have KX:K.In s.heap:=e0.mod.kin.keeps fun b o e=>(e0.bs b o e).1
 have lim:s.heap.NoLimit:=e0.mod.nolimit.keeps fun b o e=>(e0.bs b o e).1
 have hkind:∀ y ∈ ps.zip us,scope.names.lookup y.1=some .local∨(scope.names.lookup y.1=some .cell∧((cellsFrom (s.heap.objs.size + 1) scope.names []).lookup y.1).isSome=true):=fun ⟨n,v⟩ hy=>by
  rcases S.par n (fU hy).1 with q | q
  ·exact .inl q
  ·exact .inr ⟨q,PySem.W.cellsFrom_some _ _ _ (.inl q)⟩
 refine codeAny_call_function hr.depth (KX _ _ lk) rfl S.co S.gen rfl (PySem.W.codeRec_of KX hcd) (hb _ _ _ _ ?_)
 refine wpAny_newFunctionEnv_cells S.kind hkind fun env he s1 x=>?_
 subst he
 refine ⟨lim.keeps x.toInCall.keep,codeAny_func ?_⟩
 obtain ⟨t,ht,hq⟩:=hbody A outer s H vs Q E (hr.deeper _) hsp
 have I:Inv (oW CX P w K mg base N qual scope f cdv A outer s H E) [] (start N vs) H s1:=rC S hr.hd e0 hl r x
 refine wpAny_mono (ht [] s1 (start N vs) H _ I hq) (fun fl s' hs=>?_) fun e s' hs=>hs
 have fin:∀ {σ':St} {H':Hp} {v:V} {u:Value},Inv (oW CX P w K mg base N qual scope f cdv A outer s H E) [] σ' H' s'→RelV v u→Q v H'→CE outer P w H s Q u s' :=
  fun {σ' H' v u} J rv q=>⟨v,H',J.os,J.bare,J.base,J.hok,rv,q⟩
 cases fl with
 | ret u =>
  obtain ⟨v,σ',H',J,rv,q⟩:=hs
  exact fin J rv q
 | next =>
  obtain ⟨σ',H',J,q⟩:=hs
  exact fin (v:=V.non) (u:=Value.none) J rfl q
 | brk =>
  obtain ⟨_,_,_,q⟩:=hs
  exact False.elim q
 | cont =>
  obtain ⟨_,_,_,q⟩:=hs
  exact False.elim q
end L2
namespace L2
open PySem PySem.Spec PyProof.Rows
section
variable {X:Cx} {x:Str} {p pos:Pos} {e:Expr} {es:List Expr} {t:TA} {id T:String} {r:List V→Hp→VK→Prop}
def tCB (r:List V→Hp→VK→Prop) (t:TA):TE:=fun σ H Q=>t σ H fun vs H1=>r vs H1 Q
theorem nq (hc:lE X (.builtin id) r) (hg:Gl X x) (hm:X.mg x=none) (hv:bootBuiltins x=some (.builtin id)) (ha:PA X (e :: es) t) (hn:x ≠ "__name__" := by decide) (hdb:(x == ("__debug__" : Str))=false:=by decide)
 (he:starEach (e :: es) X.env=(false,eval e X.env) :: starEach es X.env:=by rfl) (hpl:(backTo pos (starEach es X.env)).any (·.1)=false:=by rfl):PE X (.Call (.Name x p) (e :: es) [] pos) (tCB r t):=by
 intro pins s σ H Q I h
 refine wpAny_Call_Name_kw (jC I hg hm hv ?_ hn hdb)
 exact PyProof.Rows.callWith_builtin1 (thn (ha pos pins s σ H _ I h) fun us s1 ⟨vs,H1,I1,r1,q1⟩=>hc pins s1 σ H1 vs us Q I1 r1 q1) he hpl
end
end L2
namespace HT
open PySem PyProof.Rows
section
open PySem.SeqAt
open PySem.AutoSeq1 (wpAny_loadPart')
open PySem.MeetsSeq PySem.MeetsSeq2 PySem.MeetsSeq3
end
section
variable {prog:Program} {w:World} {A:Around} {E:Value→Shared→Prop} {s:Shared}
def sIx (n d:Nat):Option Int→Nat
 | none=>d
 | some v=>if v < 0 then (v + (n:Int)).toNat else min v.toNat n
end
end HT
namespace L2
open PySem PySem.Spec PyProof.Rows
abbrev TO:=St→Hp→(Option Int→Hp→Prop)→Prop
def PO (X:Cx) (e:Option Expr) (t:TO):Prop :=
 ∀ (pins:List (Addr × Obj)) (s:Shared) (σ:St) (H:Hp) (Q:Option Int→Hp→Prop),Inv X pins σ H s→t σ H Q →
  wpAny (model X.prog X.w) X.A (evalPart e X.env) (fun u s'=>∃ o H',Inv X pins σ H' s'∧IsPart u o∧Q o H') X.xe s
def vV:TO:=fun _ H Q=>Q none H
def DK (t:TE):TO:=fun σ H Q=>t σ H fun x H1=>∃ i,x = .int i∧Q (some i) H1
section
variable {X:Cx} {e:Expr} {te:TE} {lo hi:Option Expr} {tl th:TO} {pos p2:Pos}
theorem vW:PO X none vV:=by
 intro pins s σ H Q I h
 rw [evalPart_none]
 exact wpAny_pure ⟨none,H,I,.none,h⟩
theorem vX (h:PE X e te):PO X (some e) (DK te):=by
 intro pins s σ H Q I hw
 rw [evalPart_some]
 refine thn (h pins s σ H _ I hw) fun u s1 ⟨x,H1,I1,r1,q1⟩=>?_
 obtain ⟨i,rfl,q⟩:=q1
 obtain ⟨t,rfl⟩:=r1
 exact ⟨some i,H1,I1,.int i t,q⟩
def SlR (X:Cx) (r:V→Option Int→Option Int→Hp→VK→Prop):Prop :=
 ∀ (pins:List (Addr × Obj)) (s:Shared) (σ:St) (H:Hp) (x:V) (v vl vu:Value) (lo hi:Option Int) (sl:Addr) (Q:VK),Inv X pins σ H s→RelV x v→s.heap.IsSliceOf sl vl vu .none→IsPart vl lo→IsPart vu hi→r x lo hi H Q →
  ∃ T id,typeLookup (.type T) "__getitem__" = pure (some (.builtin id))∧s.TypeIs v T∧wpAny (model X.prog X.w) X.A (getItem v (.ref sl)) (EP X pins σ Q) X.xe s
def tSl (r:V→Option Int→Option Int→Hp→VK→Prop) (te:TE) (tl th:TO):TE:=fun σ H Q=>te σ H fun x H1=>tl σ H1 fun l H2=>th σ H2 fun u H3=>r x l u H3 Q
theorem sW {r:V→Option Int→Option Int→Hp→VK→Prop} (hr:SlR X r) (he:PE X e te) (hl:PO X lo tl) (hu:PO X hi th):PE X (.Subscript e (.Slice lo hi none p2) pos) (tSl r te tl th):=by
 intro pins s σ H Q I h
 refine Subscript_ (thn (he pins s σ H _ I h) fun v s1 ⟨x,H1,I1,r1,q1⟩=>?_)
 refine wpAny_Slice (thn (hl pins s1 σ H1 _ I1 q1) fun vl s2 ⟨l,H2,I2,pl,q2⟩=>thn (hu pins s2 σ H2 _ I2 q2) fun vu s3 ⟨u,H3,I3,pu,q3⟩=>?_)
 rw [evalPart_none]
 refine wpAny_pure ?_
 have I4:Inv X pins σ H3 { s3 with heap:=s3.heap.push { cls:=.type "slice", data:=.fields #[vl,vu,.none] } }:=I3.kept (t':=s3.toks) fun b ob q=>Heap.get?_push_of_some _ q
 obtain ⟨T,id,hT,ht,hg⟩:=hr pins { s3 with heap:=s3.heap.push { cls:=.type "slice", data:=.fields #[vl,vu,.none] } } σ H3 x v vl vu l u s3.heap.objs.size Q I4 r1 (Heap.IsSliceOf.new ..) pl pu q3
 show wpAny (model X.prog X.w) X.A (subscriptTail e (.Slice lo hi none p2) v (.ref s3.heap.objs.size)) (EP X pins σ Q) X.xe { s3 with heap:=s3.heap.push { cls:=.type "slice", data:=.fields #[vl,vu,.none] } }
 exact tail_any (ops:=[.ref s3.heap.objs.size,v]) ht hT hg (by with_unfolding_all rfl)
def rD (xs:List V) (lo hi:Option Int):List V:=(xs.drop (HT.sIx xs.length 0 lo)).take (HT.sIx xs.length xs.length hi - HT.sIx xs.length 0 lo)
theorem nu (xs:List V) (lo hi:Option Int):(rD xs lo hi).length ≤ xs.length:=by
 unfold rD
 rw [List.length_take,List.length_drop]
 omega
end
end L2
namespace L2
open PySem PySem.Spec PyProof.Rows
def ixN (n:Nat) (i:Int):Option Nat:=if 0 ≤ i then (if i < n then some i.toNat else none) else if -(n:Int) ≤ i then some (i + n).toNat else none
def atI {α:Type} (xs:List α) (i:Int):Option α:=(ixN xs.length i).bind fun j=>xs[j]?
theorem vY {n:Nat} {i:Int} {j:Nat} (h:ixN n i=some j):seqIndex? i n=some j∧j < n∧-(n:Int) ≤ i∧i < n:=by
 unfold ixN at h
 by_cases h0:0 ≤ i
 ·rw [if_pos h0] at h
  by_cases h1:i < n
  ·rw [if_pos h1] at h
   have e:i.toNat=j:=cN.inj h
   exact ⟨by rw [seqIndex_of h0 h1,e],by omega,by omega,h1⟩
  ·rw [if_neg h1] at h;cases h
 ·rw [if_neg h0] at h
  by_cases h1 : -(n:Int) ≤ i
  ·rw [if_pos h1] at h
   have e:(i + n).toNat=j:=cN.inj h
   exact ⟨by rw [seqIndex_neg (by omega) h1,e],by omega,h1,by omega⟩
  ·rw [if_neg h1] at h;cases h
theorem mD {α:Type} {xs:List α} {i:Int} {v:α} (h:atI xs i=some v):∃ j,seqIndex? i xs.length=some j∧xs[j]? = some v∧j < xs.length∧-(xs.length:Int) ≤ i∧i < xs.length:=by
 unfold atI at h
 cases e:ixN xs.length i with
 | none=>rw [e] at h;cases h
 | some j =>
  rw [e] at h
  obtain ⟨h1,h2,h3,h4⟩:=vY e
  exact ⟨j,h1,h,h2,h3,h4⟩
def jT (b:Expr):Prop:=∀ o i,subscripted b false o i=operate [o,i] (getItem o i)
def IxR (X:Cx) (r:R2):Prop :=
 ∀ (value slice:Expr) (pins:List (Addr × Obj)) (s:Shared) (σ:St) (H:Hp) (x y:V) (v u:Value) (Q:VK),Inv X pins σ H s→RelV x v→RelV y u→r x y H Q →
  subscripted slice false v u=operate [v,u] (getItem v u)→wpAny (model X.prog X.w) X.A (subscriptTail value slice v u) (EP X pins σ Q) X.xe s
def MtR (X:Cx) (id:String) (r:V→List V→Hp→VK→Prop):Prop :=
 ∀ (pins:List (Addr × Obj)) (s:Shared) (σ:St) (H:Hp) (x:V) (xs:List V) (v:Value) (us:List Value) (Q:VK),Inv X pins σ H s→RelV x v→Vals xs us→r x xs H Q →
  wpAny (model X.prog X.w) X.A (call (.builtin id) (v :: us)) (EP X pins σ Q) X.xe s
section
variable {X:Cx} {a b:Expr} {ta tb:TE} {pos:Pos}
theorem IxR.or {r r':R2} (h:IxR X r) (h':IxR X r'):IxR X (fun x y H Q=>r x y H Q∨r' x y H Q):=by
 intro value slice pins s σ H x y v u Q I rx ry q hs
 rcases q with q | q
 ·exact h value slice pins s σ H x y v u Q I rx ry q hs
 ·exact h' value slice pins s σ H x y v u Q I rx ry q hs
theorem yV {r:R2} (hr:IxR X r) (ha:PE X a ta) (hb:PE X b tb) (hs:jT b):PE X (.Subscript a b pos) (tOp r ta tb):=by
 intro pins s σ H Q I h
 exact Subscript_ (Ac ha hb I h fun v u s2 x y H2 I2 rx ry q=>hr a b pins s2 σ H2 x y v u Q I2 rx ry q (hs _ _))
def DN (K:PySem.W.Frag):R2:=fun x y H Q=>∃ p xs i v,x = .ref p∧y = .int i∧SqL K H p xs∧atI xs i=some v∧Q v H
def DP (K:PySem.W.Frag):R2:=fun x y H Q=>∃ p xs i v,x = .ref p∧y = .int i∧SqT K H p xs∧atI xs i=some v∧Q v H
def DQ:R2:=fun x y H Q=>∃ z i c,x = .str z∧y = .int i∧z.length ≤ sizeLine∧atI z.cps.toList i=some c∧Q (.str ⟨#[c]⟩) H
theorem vZ:IxR X (DN X.K):=by
 intro value slice pins s σ H x y v u Q I rx ry h hs
 obtain ⟨p,xs,i,z,rfl,rfl,hq,he,q⟩:=h
 cases rx
 obtain ⟨t,rfl⟩:=ry
 obtain ⟨its,r,pl,hz⟩:=I.list hq
 obtain ⟨j,h1,h2,h3,h4,h5⟩:=mD he
 obtain ⟨w,ew,rw'⟩:=r.get h2
 have hl:=r.length
 have hn:=mC
 have fin:EP X pins σ Q w s:=⟨z,H,I,rw',q⟩
 by_cases h0:0 ≤ i
 ·have hj:i.toNat=j:=by
   rw [seqIndex_of h0 h5] at h1
   exact cN.inj h1
  exact item_listR pl.isList h0 (by omega) (by rw [hj];simpa using ew) fin hs
 ·have hj:(i + (its.toArray.size:Int)).toNat=j:=by
   rw [seqIndex_neg (by omega) h4] at h1
   rw [bh,← hl]
   exact cN.inj h1
  exact subscriptTail_builtinR (x:=w) pl.isList.typeIs slot_list_getitem.lookup
   (wpAny_getItem_list_neg (Q:=fun r s'=>r=w∧EP X pins σ Q r s') pl.isList (by omega) (by rw [bh] <;> omega) (by omega) (by rw [hj];simpa using ew) ⟨rfl,fin⟩) hs
theorem Aj:IxR X (DP X.K):=by
 intro value slice pins s σ H x y v u Q I rx ry h hs
 obtain ⟨p,xs,i,z,rfl,rfl,hq,he,q⟩:=h
 cases rx
 obtain ⟨t,rfl⟩:=ry
 obtain ⟨its,r,pl,hz⟩:=I.tuple hq
 obtain ⟨j,h1,h2,h3,h4,h5⟩:=mD he
 obtain ⟨w,ew,rw'⟩:=r.get h2
 have hl:=r.length
 have hn:=mC
 have fin:EP X pins σ Q w s:=⟨z,H,I,rw',q⟩
 exact subscriptTail_builtinR (x:=w) pl.typeIs slot_tuple_getitem.lookup
  (getItem_tuple (j:=j) (Q:=fun r s'=>r=w∧EP X pins σ Q r s') pl (by omega) (by omega) (by rw [bh,← hl];exact h1) (by simpa using ew) ⟨rfl,fin⟩) hs
theorem sX:IxR X DQ:=by
 intro value slice pins s σ H x y v u Q I rx ry h hs
 obtain ⟨z,i,c,rfl,rfl,hz,he,q⟩:=h
 obtain ⟨t,rfl⟩:=rx
 obtain ⟨t',rfl⟩:=ry
 obtain ⟨j,h1,h2,h3,h4,h5⟩:=mD he
 have hl:z.cps.toList.length=z.length:=by simp [Str.length]
 rw [hl] at h1 h4 h5
 have hn:=mC
 exact tail_any (typeIs_str s z t) slot_str_getitem.lookup (getItem_str (c:=c) (by
  have e1:decide (i < -(2 ^ 63:Int))=false:=dFa (by omega)
  have e2:decide (i ≥ 2 ^ 63)=false:=dFa (by omega)
  rw [e1,e2,Bool.or_false]) (by rw [h1];simpa using h2) ⟨.str ⟨#[c]⟩,H,I.tok _,⟨_,rfl⟩,q⟩) hs
def rIx (K:PySem.W.Frag):R2:=fun x y H Q=>DN K x y H Q∨DP K x y H Q∨DQ x y H Q
theorem Ak:IxR X (rIx X.K):=vZ.or (Aj.or sX)
theorem Inv.lst {pins:List (Addr × Obj)} {σ:St} {H:Hp} {s:Shared} {p:Addr} {xs:List V} (I:Inv X pins σ H s) (h:H p=some (.lst xs)) :
 ∃ (its:List Value) (n:Nat),Vals xs its∧s.heap.get? p=some { cls:=.type "list", data:=.seq its.toArray n }∧xs.length ≤ sizeLine:=by
 obtain ⟨z,its,n,r,e⟩:=I.hok p _ h
 exact ⟨its,n,r,e,z⟩
theorem mF (lo hi:Option Int) (n:Nat):(sliceBounds lo hi none n).1=((HT.sIx n 0 lo:Nat):Int)∧(sliceBounds lo hi none n).2.1=((HT.sIx n n hi:Nat):Int)∧(sliceBounds lo hi none n).2.2=1:=by
 refine ⟨?_,?_,rfl⟩
 ·cases lo with
  | none=>simp [sliceBounds,HT.sIx]
  | some i =>
   simp only [sliceBounds,HT.sIx,Option.getD_none,show (1:Int) > 0 by decide,if_true]
   by_cases h:i < 0
   ·simp only [h,if_true] <;> omega
   ·simp only [h,if_false] <;> omega
 ·cases hi with
  | none=>simp [sliceBounds,HT.sIx]
  | some i =>
   simp only [sliceBounds,HT.sIx,Option.getD_none,show (1:Int) > 0 by decide,if_true]
   by_cases h:i < 0
   ·simp only [h,if_true] <;> omega
   ·simp only [h,if_false] <;> omega
theorem lg (its:List Value) (lo hi:Option Int):slicePick its.toArray lo hi none=((its.drop (HT.sIx its.length 0 lo)).take (HT.sIx its.length its.length hi - HT.sIx its.length 0 lo)).toArray:=by
 obtain ⟨h1,h2,h3⟩:=mF lo hi its.toArray.size
 unfold slicePick
 rw [h1,h2,h3]
 simp only [sliceRange_one,pick_run,bh] <;> rfl
def G6 (K:PySem.W.Frag):V→Option Int→Option Int→Hp→VK→Prop:=fun x lo hi H Q=>∃ a xs,x = .ref a∧SqL K H a xs∧∀ p,H p=none→Q (.ref p) (upd H p (.lst (rD xs lo hi)))
theorem v5:SlR X (G6 X.K):=by
 intro pins s σ H x v vl vu lo hi sl Q I rx hs pl pu h
 obtain ⟨a,xs,rfl,hx,q⟩:=h
 cases rx
 obtain ⟨its,r,ht,hz⟩:=I.list hx
 have hlen:=r.length
 refine ⟨"list", _,slot_list_getitem.lookup,ht.isList.typeIs,?_⟩
 refine wpAny_getItem_list_slice ht.isList hs pl pu .none (by simp) ?_ (by rw [bh] <;> omega)
 rw [lg,← hlen]
 refine ⟨.ref s.heap.objs.size,_,I.laid (t':=s.toks) (o:=.lst (rD xs lo hi)) (fun b ob q=>Heap.get?_push_of_some _ q) (aU _) ?_,rfl,q _ (I.hok.fresh (aU _))⟩
 exact ⟨aV (nu xs lo hi) hz,_,0,(r.drop (HT.sIx xs.length 0 lo)).take (HT.sIx xs.length xs.length hi - HT.sIx xs.length 0 lo),Heap.get?_push_size _ rfl⟩
theorem fX:lE X (.builtin "len") (fun xs H Q=>∃ p ys,xs=[.ref p]∧(SqL X.K H p ys∨SqT X.K H p ys)∧Q (.int ys.length) H):=by
 intro pins s σ H xs us Q I r h
 obtain ⟨p,ys,rfl,hq,q⟩:=h
 obtain ⟨u,rfl,rx⟩:=vals1 r
 cases rx
 have hn:=mC
 rcases hq with hq | hq
 ·obtain ⟨its,r',pl,hz⟩:=I.list hq
  have hlen:=r'.length
  exact Calls.call_len_list pl.isList (by simp only [bh] <;> omega) ⟨.int ys.length,H,I.tok _,⟨s.toks + 1,by rw [bh,hlen]⟩,q⟩
 ·obtain ⟨its,r',pl,hz⟩:=I.tuple hq
  have hlen:=r'.length
  exact len_tuple pl (by simp only [bh] <;> omega) ⟨.int ys.length,H,I.tok _,⟨s.toks + 1,by rw [bh,hlen]⟩,q⟩
def tyV (K:PySem.W.Frag) (T:String) (x:V) (H:Hp):Prop:=match x with
 | .str _=>T = "str"
 | .int _=>T = "int"
 | .ref p=>(T = "list" ∧ ∃ xs,SqL K H p xs)∨(T = "tuple" ∧ ∃ o,K.lookup p=some o∧o.cls = .type "tuple" ∧ o.dict=none) ∨
  (T = "dict" ∧ ((∃ kvs,H p=some (.dK kvs))∨∃ kvs,H p=some (.dT kvs)))∨(T = "set" ∧ ∃ S n,H p=some (.set S n))
 | _=>False
theorem Al {pins:List (Addr × Obj)} {σ:St} {H:Hp} {s:Shared} {T:String} {x:V} {v:Value} (I:Inv X pins σ H s) (r:RelV x v) (ty:tyV X.K T x H) :
 s.TypeIs v T∧∀ a,v = .ref a→∃ ob,s.heap.get? a=some ob∧ob.dict=none:=by
 cases x with
 | str z =>
  obtain ⟨t,rfl⟩:=r
  cases (show T = "str" from ty)
  exact ⟨typeIs_str s z t,fun _ e=>nomatch e⟩
 | int i =>
  obtain ⟨t,rfl⟩:=r
  cases (show T = "int" from ty)
  exact ⟨typeIs_int s i t,fun _ e=>nomatch e⟩
 | ref p =>
  cases r
  rcases ty with ⟨rfl,xs,hq⟩ | ⟨rfl,o,hk,hc,hd⟩ | ⟨rfl,hk⟩ | ⟨rfl,S,n,hk⟩
  ·obtain ⟨its,_,pl,_⟩:=I.list hq
   refine ⟨pl.isList.typeIs,fun a e=>?_⟩
   cases e
   obtain ⟨o,n,e,c,hd,_⟩:=pl
   exact ⟨o,e,hd⟩
  ·refine ⟨⟨o,I.kIn p o hk,hc⟩,fun a e=>?_⟩
   cases e
   exact ⟨o,I.kIn _ o hk,hd⟩
  ·have z:∃ o,s.heap.get? p=some o∧o.ExactDict:=by
    rcases hk with ⟨kvs,hk⟩ | ⟨kvs,hk⟩
    ·obtain ⟨_,_,_,_,o,_,_,e,ex,_⟩:=I.hok p _ hk
     exact ⟨o,e,ex⟩
    ·obtain ⟨_,_,_,_,o,_,_,e,ex,_⟩:=I.hok p _ hk
     exact ⟨o,e,ex⟩
   obtain ⟨o,e,ex⟩:=z
   refine ⟨⟨o,e,ex.1⟩,fun a e2=>?_⟩
   cases e2
   exact ⟨o,e,ex.2.1⟩
  ·obtain ⟨o,_,_,_,e,ex,_⟩:=I.hok p _ hk
   refine ⟨⟨o,e,ex.1⟩,fun a e2=>?_⟩
   cases e2
   exact ⟨o,e,ex.2.1⟩
 | _=>exact False.elim ty
def tBM (K:PySem.W.Frag) (T:String) (r:V→List V→Hp→VK→Prop) (to:TE) (t:TA):TE:=fun σ H Q=>to σ H fun x H1=>tyV K T x H1∧t σ H1 fun xs H2=>r x xs H2 Q
variable {o e:Expr} {es:List Expr} {to:TE} {t:TA} {name:Str} {apos cpos:Pos} {T id:String} {r:V→List V→Hp→VK→Prop}
theorem DR (pa:PlainAttrs T) (slot:Slot T name id) (hty:typeOf (.builtin id)=pure (.type "method_descriptor")) (hm:MtR X id r) (ho:PE X o to) (ha:PA X (e :: es) t)
 (hbase:attributeBase o name X.env (eval o X.env)=eval o X.env:=by rfl)
 (hfew:((backTo cpos (starEach (e :: es) X.env)).all (fun x=>!x.1) && (backToKw cpos (keywordEach [] X.env)).all (fun x=>x.1.isSome)
  && decide ((e :: es).length + ([]:List Keyword).length + (if ([]:List Keyword).isEmpty then 0 else 1) < 30))=true:=by rfl)
 (hline:(apos.endLine == cpos.line)=true:=by rfl) (hs:starEach (e :: es) X.env=(false,eval e X.env) :: starEach es X.env:=by rfl) (hplain:(backTo cpos (starEach es X.env)).any (·.1)=false:=by rfl) :
 PE X (.Call (.Attribute o name apos) (e :: es) [] cpos) (tBM X.K T r to t):=by
 intro pins s σ H Q I h
 refine wpAny_Call_method_late hbase hfew hline rfl (thn (ho pins s σ H _ I h) fun v s1 ⟨x,H1,I1,r1,ty,q1⟩=>?_)
 obtain ⟨h1,h2⟩:=Al I1 r1 ty
 refine ⟨T,id,pa,slot,hty,h1,h2,?_⟩
 have hA:=ha cpos pins s1 σ H1 _ I1 q1
 rw [hs] at hA ⊢
 refine Calls.callWith_builtin (by show (false || (backTo cpos (starEach es X.env)).any (·.1))=false;rw [hplain] <;> rfl) (Calls.evalArgs_plain ?_)
 exact thn hA fun us s2 ⟨vs,H2,I2,r2,q2⟩=>hm pins s2 σ H2 x vs v us Q I2 r1 r2 q2
/- xs.append(e),list.index on a module's tuple .. are MtR facts of 06m -/
end
end L2
namespace L2
open PySem PySem.Spec PyProof.Rows
def MtM (X:Cx) (id:String) (r:V→List V→Hp→VK→Prop):Prop :=
 ∀ (pins:List (Addr × Obj)) (s:Shared) (σ:St) (H:Hp) (x:V) (xs:List V) (v:Value) (us:List Value) (Q:VK),Inv X pins σ H s→RelV x v→Vals xs us→r x xs H Q →
  wpAny (model X.prog X.w) X.A (call (.builtin id) (v :: us)) (EP X pins σ Q) X.xe s
theorem Vals.one:∀ {x:V} {us:List Value},Vals [x] us→∃ u,us=[u]∧RelV x u
 | _,_,.cons r .nil=>⟨_,rfl,r⟩
theorem Vals.zero:∀ {us:List Value},Vals [] us→us=[]
 | _,.nil=>rfl
section
variable {X:Cx} {pins:List (Addr × Obj)} {σ:St} {H:Hp} {s:Shared} {l b:Addr} {xs ys zs:List V}
theorem Inv.lset {its its':List Value} {n:Nat} {f:Array Value→Array Value} {t':Nat} (I:Inv X pins σ H s) (hH:H l=some (.lst xs))
 (e:s.heap.get? l=some { cls:=.type "list", data:=.seq its.toArray n }) (hf:f its.toArray=its'.toArray) (hv:Vals ys its') (hz:ys.length ≤ sizeLine) :
 Inv X pins σ (upd H l (.lst ys)) { s with heap:=s.heap.update l (Obj.mapSeq f),toks:=t' }:=by
 have q:=PySem.IsL.update e f
 rw [hf] at q
 refine I.write (x:=l) (e:=l) (by rw [hH];exact trivial) (.inl rfl) (fun b' u hb hu=>(Heap.get?_update_other s.heap (Obj.mapSeq f) (Ne.symm hb)).trans hu) ⟨_,q⟩ ?_
 exact ⟨hz,its',_,hv,q⟩
theorem Inv.lnew {its:List Value} {t':Nat} (I:Inv X pins σ H s) (hv:Vals ys its) (hz:ys.length ≤ sizeLine) :
 Inv X pins σ (upd H s.heap.objs.size (.lst ys)) { s with heap:=s.heap.push { cls:=.type "list", data:=.seq its.toArray },toks:=t' } :=
 I.laid (fun _ _ q=>Heap.get?_push_of_some _ q) (aU _) ⟨hz,its,0,hv,Heap.get?_push_size _ rfl⟩
theorem Inv.fresh (I:Inv X pins σ H s):H s.heap.objs.size=none:=I.hok.fresh (aU _)
theorem Inv.lstM (I:Inv X pins σ H s) (hH:H l=some (.lst xs)):xs.length ≤ sizeLine∧∃ (its:List Value) (n:Nat),Vals xs its∧xs.length=its.length∧s.heap.get? l=some { cls:=.type "list", data:=.seq its.toArray n }:=by
 obtain ⟨z,its,n,r,e⟩:=I.hok l _ hH
 exact ⟨z,its,n,r,r.length,e⟩
end
section
variable {X:Cx}
def v7:V→List V→Hp→VK→Prop:=fun x vs H Q=>∃ l xs y,x = .ref l∧vs=[y]∧H l=some (.lst xs)∧xs.length < sizeLine∧Q .non (upd H l (.lst (xs++[y])))
theorem rE:MtM X "list.append" v7:=by
 intro pins s σ H x vs v us Q I rx rv h
 obtain ⟨l,xs,y,rfl,rfl,hH,hz,q⟩:=h
 cases rx
 obtain ⟨u,rfl,ru⟩:=rv.one
 obtain ⟨z,its,n,r,hl,e⟩:=I.lstM hH
 refine call_meets F.slot_list_append ⟨_,e,rfl⟩ F.entry_list_append (F.args_list_append_2 _ _) (PySem.list_append l its.toArray n u (by rw [bh];omega)) ⟨e,?_⟩
 refine ⟨.non,_,I.lset (its':=its++[u]) hH e (by simp) (r.append (.cons ru .nil)) ?_,rfl,q⟩
 rw [bM,iG]
 omega
end
section
variable {prog:Program} {w:World} {A:Around} {E:Value→Shared→Prop} {s:Shared}
set_option maxRecDepth 100000 in
end
section
variable {X:Cx}
end
end L2
namespace Att
open PySem PySem.W PySem.Calls PyProof.Rows
theorem jO {P:Params} {h:Heap}:∀ (ns:List Int) (vs:List Value),WellAll P h vs (ns.map WData.int)→IntsAre vs ns:=by
 intro ns
 induction ns with
 | nil =>
  intro vs w
  rw [List.map_nil] at w
  cases w
  exact .nil
 | cons n ns ih =>
  intro vs w
  rw [cP] at w
  cases w with
  | cons a b =>
   cases a
   exact .cons _ _ (ih _ b)
theorem rF {l:OpenLaw} {n:Nat} (hn:l.most=some n) {P:Params} {h:Heap} {args:List WData} {vals:List Value}
 (hpre:l.row.toRowW.claim.pre args=true) (hwl:WellAll P h vals args) :
 ∃ a vs ns,vals=[Value.ref a]∧args=[WData.list (ns.map WData.int)]∧h.get? a=some { cls:=.type "list", data:=.seq vs.toArray }∧IntsAre vs ns∧ns.length ≤ n:=by
 have hsh:WShape.hasAll [] args [.list .int]=true:=(pre_splitW hpre).1
 have hc:l.pre.holds [] { args:=args }=true:=(pre_splitW hpre).2
 obtain ⟨d,r,rfl,h1,h2⟩:=hasAllW_cons hsh
 obtain rfl:=hasAllW_nil h2
 obtain ⟨xs,rfl,h3⟩:=hasW_list h1
 obtain ⟨ns,rfl⟩:=items_int h3
 have hlen:ns.length ≤ n:=by
  unfold OpenLaw.pre at hc
  have h4:(WTm.not (.lt (.lit (.int (n:Int))) (.len (.arg 0)))).holds [] { args:=[.list (ns.map .int)] }=true:=by
   have h4:=(holds_andW hc).1
   rw [hn] at h4
   exact h4
  have h5:=condW_of h4 (w_not (w_lt w_lit (w_len_list (w_arg rfl))))
  rw [aX] at h5
  refine Nat.le_of_not_lt fun q=>?_
  have q':(n:Int) < ((ns.length:Nat):Int):=by omega
  first
   | (rw [dTr q'] at h5;exact absurd h5 (by decide))
   | (simp at h5;omega)
 cases hwl with
 | cons w1 w2 =>
  cases w2
  cases w1 with
  | list ho hall=>exact ⟨_,_,ns,rfl,rfl,ho,jO ns _ hall,hlen⟩
theorem rG (l:OpenLaw) (args:List WData):l.row.toRowW.claim.post args (.bool true) args=true :=
 postW_of (r:=l.row.toRowW) (X:=(true == true))
  (show WShape.has [] (.bool true) .bool=true by first | rfl | decide | simp [WShape.has,WShape.arms,WShape.armsAll])
  (show (WTm.eq .res (.lit (.bool true))).value [] { args:=args,res:=some (.bool true),after:=args }=some (.bool (true == true)) from w_eq_bool (w_res rfl) w_lit) rfl
theorem nA {l:OpenLaw} {n:Nat} {q:Program} {loose:List Str} {XP:(Str→Option Value)→Heap→Prop} {YP:World→Heap→Prop} {d:DefRec}
 (hn:l.most=some n) (hdf:d.params.defaults=[])
 (call:∀ (w:World) (s₀ s₁:Shared) (mg mb:Str→Option Value) (fa:Addr) (o:Obj) (pm cd doc:Value) (a:Addr) (vs:List Value) (ns:List Int),
  Ground q loose [] XP w s₀ mg mb s₁.heap→YP w s₁.heap →
  s₁.heap.get? fa=some o→o.data = .func (docDef d.name d.params d.body d.scope pm cd doc)→s₁.heap.CodeRec cd d.name→mg d.name=some (.ref fa) →
  s₁.heap.get? a=some { cls:=.type "list", data:=.seq vs.toArray }→IntsAre vs ns→ns.length ≤ n→s₁.gens = #[] →
  codeAny (model l.prog w) callerA (.call (.ref fa) ⟨[.ref a],[]⟩) (fun r s'=>r = .ok (.ret (.bool true))∧OldK s₁.heap s'.heap∧s'.os=s₁.os∧AllBare s'.gens) s₁) :
 WalkO q loose XP YP l.row.toRowW d [] (fun f vs=>PySem.call f vs):=by
 intro w s₀ s₁ mg mb G Y fa o pm cd doc dV kV ho hd hcd hD hmg hg args vals as hpre hlay hrd hwl hlo
 obtain rfl:dV = .none:=Dflts.none hD hdf
 obtain rfl:kV = .none:=Dflts.noKw hD
 obtain ⟨a,vs,ns,rfl,rfl,hobj,hints,hlen⟩:=rF hn hpre hwl
 refine enter_call (codeAny_mono (call w s₀ s₁ mg mb fa o pm cd doc a vs ns G Y ho (fd_plain hd) hcd hmg hobj hints hlen hg) fun r s' hq=>?_)
 obtain ⟨rfl,h2,h3,h4⟩:=hq
 exact ⟨.inl ⟨.bool true,.bool true,[],rfl,fun _=>rfl,.bool true,rG l _,fun _=>⟨List.Pairwise.nil,fun _ hm=>(nomatch hm)⟩⟩,h2,h3,h4⟩
section
variable {prog:Program} {w:World} {A:Around} {E:Value→Shared→Prop} {s:Shared} {K:Frag}
end
end Att
namespace L2
open PySem PySem.Spec PyProof.Rows
theorem lM:∀ {vs:List Value} {ns:List Int},IntsAre vs ns→Vals (ns.map V.int) vs
 | _,_,.nil=>.nil
 | _,_,.cons n t h=>.cons ⟨t,rfl⟩ (lM h)
def Only (H:Hp):Prop:=∀ b,H b=none∨∃ o xs,H b=some (.frz o (.lst xs))
def jZ (ts:List (Addr × Str × Pos)) (H:Hp):Hp:=fun b=>match ts.find? (fun t=>t.1 == b) with
 | some t=>some (.tbl t.2.1 t.2.2)
 | none=>H b
theorem sY (ts:List (Addr × Str × Pos)) (H:Hp) (b:Addr):(jZ ts H b=H b∧∀ t ∈ ts,t.1 ≠ b)∨∃ t ∈ ts,t.1=b∧jZ ts H b=some (.tbl t.2.1 t.2.2):=by
 unfold jZ
 cases e:ts.find? (fun t=>t.1 == b) with
 | none=>exact .inl ⟨rfl,fun t ht z=>by have:=List.find?_eq_none.mp e t ht;simp [z] at this⟩
 | some t =>
  have h1:=List.mem_of_find?_eq_some e
  have h2:=List.find?_some e
  exact .inr ⟨t,h1,by simpa using h2,rfl⟩
theorem sZ {P:Program} {w:World} {K:PySem.W.Frag} {mg mb:Str→Option Value} {CX:CXT} {k:Nat} {fa a:Addr} {fd:FuncData} {x:Str} {sp:Sp} {s₁:Shared} {vs:List Value} {ns:List Int}
 (KX:K.In s₁.heap) (hns:s₁.heap.Ns mainGlobals mg) (hb:s₁.heap.Ns builtinsNs mb) (hbb:∀ x:Str,x ≠ "__name__" → mb x=bootBuiltins x) (hlim:s₁.heap.NoLimit) (hbm:∃ bm ob,mg "__builtins__" = some (.ref bm)∧bm ≠ builtinsNs∧s₁.heap.get? bm=some ob∧ob.cls = .type "module" ∧ ob.dict=some builtinsNs∧ob.data = .plain) (hg:s₁.gens = #[])
 (ha:s₁.heap.get? a=some { cls:=.type "list", data:=.seq vs.toArray }) (hi:IntsAre vs ns) (hl:ns.length ≤ sizeLine) (hr:Room k callerA)
 (F:∀ base:Heap,K.In base→base.Ns mainGlobals mg→FnOk P w K mg base CX k fa fd [x] sp) (hbind:∀ (s:Shared) (u:Value),BindsTo s fd ⟨[u],[]⟩ [(x,u)])
 (ts:List (Addr × Str × Pos)) (hts:∀ t ∈ ts,s₁.heap.get? t.1=some { cls:=.none,data:=.fields #[] }) (hCT:∀ t ∈ ts,isCodeTable s₁.heap t.1) (hKt:∀ t ∈ ts,K.lookup t.1=none) (htu:∀ t ∈ ts,∀ t' ∈ ts,t.1=t'.1→t=t')
 (hsp:∀ H:Hp,(∀ t ∈ ts,H t.1=some (.tbl t.2.1 t.2.2))→SqL K H a (ns.map V.int)→sp [.ref a] H (fun v _=>v = .bl true) fun _ _ _=>False)
 (hCX:∀ H e s',CX [] H s₁ (fun _ _ _=>False) e s'→False) :
 codeAny (model P w) callerA (.call (.ref fa) ⟨[.ref a],[]⟩) (fun r s'=>r = .ok (.ret (.bool true))∧OldK s₁.heap s'.heap∧s'.os=s₁.os∧AllBare s'.gens) s₁:=by
 have rv:=lM hi
 have lenV:=hi.length
 have core:∀ H:Hp,(∀ b,H b=none∨(∃ o xs,H b=some (.frz o (.lst xs)))∨∃ t ∈ ts,t.1=b∧H b=some (.tbl t.2.1 t.2.2))→(∀ t ∈ ts,H t.1=some (.tbl t.2.1 t.2.2))→SqL K H a (ns.map V.int)→HOk P w H s₁.heap→(∀ b,H b ≠ none→b=a∨∃ t ∈ ts,t.1=b)→(H a ≠ none→K.lookup a=none) →
  codeAny (model P w) callerA (.call (.ref fa) ⟨[.ref a],[]⟩) (fun r s'=>r = .ok (.ret (.bool true))∧OldK s₁.heap s'.heap∧s'.os=s₁.os∧AllBare s'.gens) s₁:=by
  intro H hO hT hS hok hA hK
  have base_of:∀ {b:Addr} {o:Obj},s₁.heap.get? b=some o→H b=none→(mz s₁.heap H).get? b=some o:=fun e n=>sH e n
  have noA:∀ {b:Addr} {o:Obj} {es:Array DictEntry} {ep:Nat},s₁.heap.get? b=some o→o.data = .dict es ep→H b=none:=fun {b o es ep} e d=>by
   cases q:H b with
   | none=>rfl
   | some u =>
    rcases hA b (by rw [q];simp) with e' | ⟨t,ht,e'⟩
    case inr =>
     subst e'
     rw [hts t ht] at e;cases e
     have d':Data.fields #[]=Data.dict es ep:=d
     cases d'
    subst e'
    rw [ha] at e;cases e
    have d':Data.seq vs.toArray _=Data.dict es ep:=d
    cases d'
  have nsK:∀ {b:Addr} {m:Str→Option Value},s₁.heap.Ns b m→(mz s₁.heap H).Ns b m:=fun {b m} ⟨o,es,ep,e,d,r⟩=>⟨o,es,ep,base_of e (noA e d),d,r⟩
  have hKb:K.In (mz s₁.heap H):=fun b o e=>base_of (KX b o e) (by
   cases q:H b with
   | none=>rfl
   | some u =>
    rcases hA b (by rw [q];simp) with e' | ⟨t,ht,e'⟩
    ·subst e'
     rw [hK (by rw [q];simp)] at e;cases e
    ·subst e'
     rw [hKt t ht] at e;cases e)
  have hM:Mod K mg (mz s₁.heap H):=⟨hKb,nsK hns,⟨mb,nsK hb,hbb⟩,let ⟨mc,h1,h2⟩:=hlim;⟨mc,nsK h1,h2⟩,let ⟨bm,ob,g1,g2,g3,g4,g5,g6⟩:=hbm;⟨bm,ob,g1,g2,base_of g3 (by
   cases q:H bm with
   | none=>rfl
   | some u =>
    rcases hA bm (by rw [q];simp) with e' | ⟨t,ht,e'⟩
    ·rw [e',ha] at g3;cases g3
     have z:Value.type "list" = Value.type "module" := g4
     injection z with z
     exact absurd z (by decide)
    ·rw [← e',hts t ht] at g3;cases g3
     cases g4),g4,g5,g6⟩⟩
  have e0:Env0 P w K mg (mz s₁.heap H) callerA [] s₁ H:=⟨rfl,hM,fun b o e=>vJ e,Nat.le_of_eq (qW _ _),trivial,fun b hb=>absurd (show b ∈ ([]:List Addr) from hb) (by simp),hok,.of_eq hg⟩
  refine codeAny_mono ((F _ hKb (nsK hns)).run callerA [] s₁ H ⟨[.ref a],[]⟩ [.ref a] [.ref a] _ _ hr e0 (hbind s₁ (.ref a)) (.cons rfl .nil) (hsp H hT hS)) fun r s' h=>?_
  cases r with
  | error e=>exact (hCX H e s' h).elim
  | ok fl =>
   cases fl with
   | next=>exact False.elim h
   | brk=>exact False.elim h
   | cont=>exact False.elim h
   | ret u =>
    obtain ⟨v,H',os,bare,un,hok',r',q⟩:=h
    have q':v = .bl true:=q
    subst q'
    obtain rfl:u=Value.bool true:=r'
    refine ⟨rfl,⟨fun b o e=>?_,fun b o e=>un.there b o e (by simp)⟩,os,bare⟩
    cases q:H b with
    | none=>exact .inl <| un.keep b o e q (by intro z;exact absurd (show b ∈ ([]:List Addr) from z) (by simp)) (by simp)
    | some u =>
     rcases hO b with z | ⟨ob,xs,z⟩ | ⟨t,ht,rfl,z⟩
     case inr.inr =>
      have z2:=un.tbls _ _ _ z
      obtain ⟨ps,e2,_⟩:=hok' _ _ z2
      rw [hts t ht] at e;cases e
      exact .inr (.inl ⟨hCT t ht,rfl,#[],ps,rfl,by rw [e2];simp⟩)
     ·rw [q] at z;cases z
     ·have z2:=un.frzs b ob _ z
      obtain ⟨e1,_⟩:=hok b _ z
      obtain ⟨e2,_⟩:=hok' b _ z2
      rw [e] at e1;cases e1
      exact .inl e2
 have core1:∀ H:Hp,Only H→SqL K H a (ns.map V.int)→HOk P w H s₁.heap→(∀ b,H b ≠ none→b=a)→(H a ≠ none→K.lookup a=none) →
  codeAny (model P w) callerA (.call (.ref fa) ⟨[.ref a],[]⟩) (fun r s'=>r = .ok (.ret (.bool true))∧OldK s₁.heap s'.heap∧s'.os=s₁.os∧AllBare s'.gens) s₁:=by
  intro H hO hS hok hA hK
  have na:∀ t ∈ ts,t.1 ≠ a:=fun t ht z=>by
   have z2:=hts t ht
   rw [z,ha] at z2
   cases z2
  have cs:∀ b,(jZ ts H b=H b∧∀ t ∈ ts,t.1 ≠ b)∨∃ t ∈ ts,t.1=b∧jZ ts H b=some (.tbl t.2.1 t.2.2):=sY ts H
  have la:jZ ts H a=H a:=by
   rcases cs a with z | ⟨t,ht,z,_⟩
   ·exact z.1
   ·exact absurd z (na t ht)
  have noown:∀ b x,H b ≠ some (.own x):=fun b x z=>by rcases hO b with y | ⟨_,_,y⟩ <;> (rw [y] at z;cases z)
  have notup:∀ b x,H b ≠ some (.tup x):=fun b x z=>by rcases hO b with y | ⟨_,_,y⟩ <;> (rw [y] at z;cases z)
  refine core (jZ ts H) (fun b=>?_) (fun t ht=>?_) ?_ (fun b u z=>?_) (fun b z=>?_) (fun z=>hK (by rw [← la];exact z))
  ·rcases cs b with z | ⟨t,ht,z1,z2⟩
   ·rcases hO b with y | y
    ·exact .inl (z.1.trans y)
    ·obtain ⟨o,xs,y⟩:=y
     exact .inr (.inl ⟨o,xs,z.1.trans y⟩)
   ·exact .inr (.inr ⟨t,ht,z1,z2⟩)
  ·rcases cs t.1 with z | ⟨t',ht',z1,z2⟩
   ·exact absurd rfl (z.2 t ht)
   ·have:=htu t' ht' t ht z1
    subst this
    exact z2
  ·rcases hS with (z | ⟨o,z⟩) | z
   ·exact .inl (.inl (by rw [la];exact z))
   ·exact .inl (.inr ⟨o,by rw [la];exact z⟩)
   ·exact .inr z
  ·rcases cs b with y | ⟨t,ht,z1,z2⟩
   ·rw [y.1] at z
    exact (hok b u z).stay (fun _ _ _ q=>q) (fun c q=>absurd q (noown c b)) fun c xs q=>absurd q (notup c xs)
   ·rw [z2] at z
    cases z
    subst z1
    exact ⟨#[],hts t ht,.inl rfl⟩
  ·rcases cs b with y | ⟨t,ht,z1,z2⟩
   ·exact .inl (hA b (by rw [← y.1];exact z))
   ·exact .inr ⟨t,ht,z1⟩
 cases hk:K.lookup a with
 | some o =>
  have e:=KX a o hk
  rw [ha] at e
  cases e
  refine core1 (fun _=>none) (fun _=>.inl rfl) (.inr ⟨_,vs.toArray,_,hk,rfl,rfl,rfl,by rw [bh,lenV];exact hl,by simpa using rv⟩) (fun b u z=>by have z':(none:Option HO)=some u:=z;cases z') (fun b z=>absurd rfl z) fun z=>absurd rfl z
 | none =>
  refine core1 (fun b=>if b=a then some (.frz { cls:=.type "list", data:=.seq vs.toArray } (.lst (ns.map V.int))) else none) (fun b=>?_) (.inl (.inr ⟨{ cls:=.type "list", data:=.seq vs.toArray },if_pos rfl⟩)) (fun b u z=>?_) (fun b z=>?_) fun _=>hk
  ·by_cases hb:b=a
   ·exact .inr ⟨_,_,if_pos hb⟩
   ·exact .inl (if_neg hb)
  ·by_cases hb:b=a
   ·have z':=(if_pos hb).symm.trans z
    cases z'
    subst hb
    exact ⟨ha,by rw [aX];exact hl,vs,_,rv,ha⟩
   ·have z':=(if_neg hb).symm.trans z
    cases z'
  ·by_cases hb:b=a
   ·exact hb
   ·exact absurd (if_neg hb) z
end L2
namespace L2
open PySem PySem.Spec PyProof.Rows
abbrev KOf {K:PySem.W.Frag} {h:Heap} (_:K.In h):PySem.W.Frag:=K
theorem v8 {l:PySem.W.OpenLaw} {n k:Nat} {q:Program} {loose:List Str} {XP:(Str→Option Value)→Heap→Prop} {YP:World→Heap→Prop} {d:DefRec} {K:Params→PySem.W.Frag} {CX:World→CXT} {sp:World→Sp} {x:Str}
 (hn:l.most=some n) (hn2:n ≤ sizeLine) (hdf:d.params.defaults=[]) (hr:Room k callerA)
 (hY:∀ (w:World) (h:Heap),YP w h→(K w.params).In h)
 (F:∀ (w:World) (mg:Str→Option Value) (fa:Addr) (h:Heap),(K w.params).In h→h.Ns mainGlobals mg→mg d.name=some (.ref fa) →
  ∃ fd:FuncData,(∀ (s:Shared) (u:Value),BindsTo s fd ⟨[u],[]⟩ [(x,u)]) ∧
   ∀ base:Heap,(K w.params).In base→base.Ns mainGlobals mg→FnOk l.prog w (K w.params) mg base (CX w) k fa fd [x] (sp w))
 (ts:List (Addr × Str × Pos)) (hts:∀ (w:World) (h:Heap),YP w h→(∀ t ∈ ts,h.get? t.1=some { cls:=.none,data:=.fields #[] })∧(∀ t ∈ ts,isCodeTable h t.1)∧∀ t ∈ ts,(K w.params).lookup t.1=none) (htu:∀ t ∈ ts,∀ t' ∈ ts,t.1=t'.1→t=t')
 (hsp:∀ (w:World) (H:Hp) (a:Addr) (ns:List Int),ns.length ≤ n→(∀ t ∈ ts,H t.1=some (.tbl t.2.1 t.2.2))→SqL (K w.params) H a (ns.map V.int)→sp w [.ref a] H (fun v _=>v = .bl true) fun _ _ _=>False)
 (hCX:∀ (w:World) (H:Hp) (s:Shared) (e:Value) (s':Shared),CX w [] H s (fun _ _ _=>False) e s'→False) :
 PySem.W.WalkO q loose XP YP l.row.toRowW d [] (fun f vs=>PySem.call f vs):=by
 refine Att.nA hn hdf fun w s₀ s₁ mg mb fa o pm cd doc a vs ns G Y ho hd hcd hmg hobj hints hlen hg=>?_
 have KX:=hY w _ Y
 obtain ⟨fd,hb,hF⟩:=F w mg fa _ KX G.T.g hmg
 exact sZ KX G.T.g G.T.b G.T.builtins G.T.nolimit G.T.bmain hg hobj hints (aV hlen hn2) hr hF hb ts (hts w _ Y).1 (hts w _ Y).2.1 (hts w _ Y).2.2 htu (fun H hO hS=>hsp w H a ns hlen hO hS) fun H e s'=>hCX w H s₁ e s'
theorem tu {l:PySem.W.OpenLaw} {n k:Nat} {q:Program} {loose:List Str} {XP:(Str→Option Value)→Heap→Prop} {YP:World→Heap→Prop} {d:DefRec} {K:Params→PySem.W.Frag} {CX:CXT} {sp:PySem.W.Frag→Sp} {x:Str}
 (hn:l.most=some n) (hn2:n ≤ sizeLine) (hdf:d.params.defaults=[]) (hr:Room k callerA)
 (hY:∀ (w:World) (h:Heap),YP w h→(K w.params).In h)
 (F:∀ (w:World) (mg:Str→Option Value) (fa:Addr) (h:Heap),(K w.params).In h→h.Ns mainGlobals mg→mg d.name=some (.ref fa) →
  ∃ fd:FuncData,(∀ (s:Shared) (u:Value),BindsTo s fd ⟨[u],[]⟩ [(x,u)]) ∧
   ∀ base:Heap,(K w.params).In base→base.Ns mainGlobals mg→FnOk l.prog w (K w.params) mg base CX k fa fd [x] (sp (K w.params)))
 (ts:List (Addr × Str × Pos)) (hts:∀ (w:World) (h:Heap),YP w h→(∀ t ∈ ts,h.get? t.1=some { cls:=.none,data:=.fields #[] })∧(∀ t ∈ ts,isCodeTable h t.1)∧∀ t ∈ ts,(K w.params).lookup t.1=none) (htu:∀ t ∈ ts,∀ t' ∈ ts,t.1=t'.1→t=t')
 (hsp:∀ (K:PySem.W.Frag) (H:Hp) (a:Addr) (ns:List Int),ns.length ≤ n→(∀ t ∈ ts,H t.1=some (.tbl t.2.1 t.2.2))→SqL K H a (ns.map V.int)→sp K [.ref a] H (fun v _=>v = .bl true) fun _ _ _=>False)
 (hCX:∀ (H:Hp) (s:Shared) (e:Value) (s':Shared),CX [] H s (fun _ _ _=>False) e s'→False) :
 PySem.W.WalkO q loose XP YP l.row.toRowW d [] (fun f vs=>PySem.call f vs) :=
 v8 (K:=K) (CX:=fun _=>CX) (sp:=fun w=>sp (K w.params)) hn hn2 hdf hr hY F ts hts htu (fun w H a ns h1 h2 h3=>hsp (K w.params) H a ns h1 h2 h3) fun _ H s e s'=>hCX H s e s'
end L2
/- THE LAST THEOREM (shape;LID,My.* are yours):
   My.Adr: a structure of the addresses that your layer names (classes,functions);My.Txt K t: a structure (Prop) of the equations over K;
   My.txt_mk:{K} {implicit addresses ..} (e1:nsIn K mainGlobals "law" = some (some (.ref f))) (e2:K.lookup f=some ⟨oc,od,.func (fnOf "law" "law" params body scope dV kV doc pm an cdv ct),sl⟩) (e3:codeIn K cdv "law" = true) .. : ∃ t,My.Txt K t
set_option maxRecDepth 100000 in
set_option maxHeartbeats 0 in
(the tactic k_is has no namespace: write k_is) -/
namespace L2
open PySem PySem.Spec PyProof.Rows
def iZ (s:Stmt):Arguments:=match s with
 | .FunctionDef _ a _ _ _ _ _ _ _ _=>a
 | _=>{ posonlyargs:=[],args:=[],vararg:=none,kwonlyargs:=[],kw_defaults:=[],kwarg:=none,defaults:=[] }
def fY (s:Stmt):List Stmt:=match s with
 | .FunctionDef _ _ b _ _ _ _ _ _ _=>b
 | _=>[]
def bw (s:Stmt):Scope:=match s with
 | .FunctionDef _ _ _ _ _ _ sc _ _ _=>sc
 | _=>{ kind:=.function,names:=[],isGenerator:=false,isCoroutine:=false }
abbrev CX0:CXT:=fun _ _ _ _ _ _=>False
abbrev E0:XK:=fun _ _ _=>False
theorem DX {X:Cx}:Passes CX0 X E0:=fun _ _ _ _ _ _ _ h=>h.elim
structure Fun (K:PySem.W.Frag) (x qual:Str) (st:Stmt) (f:Addr) (fd:FuncData):Prop where
 ex:∃ (oc:Value) (od:Option Addr) (kV doc pm:Value) (an:Option Addr) (cdv ct:Value) (osl:Array (Option Value)),
  fd=PySem.W.fnOf x qual (iZ st) (fY st) (bw st) .none kV doc pm an cdv ct∧K.lookup f=some ⟨oc,od,.func fd,osl⟩∧PySem.W.codeIn K cdv qual=true
 kp:PySem.W.keepIn K (.ref f)=true
section
variable {P:Program} {w:World} {K:PySem.W.Frag} {mg:Str→Option Value} {base:Heap}
end
section
variable {X:Cx}
end
theorem v9 {A B:Prop} (h:B):if false=true then A else B:=by
 rw [if_neg f9]
 exact h
theorem wg {A B:Prop} (h:A):if true=true then A else B:=by
 rw [if_pos rfl]
 exact h
def Same (H H':Hp):Prop:=∀ b o,H b=some o→H' b=some o
theorem Same.refl (H:Hp):Same H H:=fun _ _ h=>h
theorem Same.trans {H H1 H2:Hp} (a:Same H H1) (b:Same H1 H2):Same H H2:=fun c o h=>b c o (a c o h)
theorem Same.free {H H':Hp} (e:Same H H') {l:Addr} (h:H' l=Option.none):H l=Option.none:=by
 cases q:H l with
 | none=>rfl
 | some o =>
  rw [e l o q] at h
  cases h
theorem Same.seq {K:PySem.W.Frag} {H H':Hp} {a:Addr} {xs:List V} (e:Same H H') (h:SqL K H a xs):SqL K H' a xs:=by
 rcases h with (h | ⟨o,h⟩) | h
 ·exact .inl (.inl (e _ _ h))
 ·exact .inl (.inr ⟨o,e _ _ h⟩)
 ·exact .inr h
end L2
namespace My
open PySem PySem.Spec PyProof.Rows L2
abbrev St:=L2.St
theorem eU {H:Hp} {p:Addr} (h:H p=none) (o:HO):Same H (upd H p o):=fun b u q=>by rw [bK (d9 q h)];exact q
structure Df (K:PySem.W.Frag) (mg:Str→Option Value) (x:Str) (st:Stmt) (ps:List Str):Prop where
 ex:∃ (f:Addr) (fd:FuncData),Fun K x x st f fd∧Binds K fd ps []∧mg x=some (.ref f)
structure Has (P:Program) (w:World) (K:PySem.W.Frag) (mg:Str→Option Value) (base:Heap) (n:Nat) (x:Str) (ps:List Str) (sp:Sp):Prop where
 ex:∃ (f:Addr) (fd:FuncData),FnOk P w K mg base CX0 n f fd ps sp∧Binds K fd ps []∧PySem.W.keepIn K (.ref f)=true∧mg x=some (.ref f)
section
variable {P:Program} {w:World} {K:PySem.W.Frag} {mg:Str→Option Value} {base:Heap} {x:Str} {ps N:List Str} {sp:Sp} {st:Stmt} {k n:Nat}
theorem Has.mono (h:Has P w K mg base k x ps sp) (l:k ≤ n):Has P w K mg base n x ps sp:=by
 obtain ⟨f,fd,F,b,kp,m⟩:=h.ex
 exact ⟨f,fd,F.mono l,b,kp,m⟩
end
section
variable {X:Cx} {x:Str} {ps:List Str} {sp:Sp} {n:Nat} {p pos:Pos} {e:Expr} {es:List Expr} {t:TA}
theorem tE (h:Has X.prog X.w X.K X.mg X.base n x ps sp) (hr:Room n X.A) (ha:PA X (e :: es) t) (hg:Gl X x:=by rfl) (hdb:(x == ("__debug__" : Str))=false:=by decide)
 (he:starEach (e :: es) X.env=(false,eval e X.env) :: starEach es X.env:=by rfl) (hpl:(backTo pos (starEach es X.env)).any (·.1)=false:=by rfl) :
 PE X (.Call (.Name x p) (e :: es) [] pos) (yU sp [] E0 t):=by
 obtain ⟨f,fd,F,b,kp,m⟩:=h.ex
 exact vU F hr hg m kp b .nil DX ha hdb he hpl
end
mutual
inductive RdV (K:PySem.W.Frag) (H:Hp):V→PyData→Prop
 | non:RdV K H .non .none
 | bl (b:Bool):RdV K H (.bl b) (.bool b)
 | int (i:Int):RdV K H (.int i) (.int i)
 | str (x:Str):RdV K H (.str x) (.str x)
 | lst {a:Addr} {xs:List V} {ds:List PyData}:SqL K H a xs→RdVs K H xs ds→RdV K H (.ref a) (.list ds)
 | tup {a:Addr} {xs:List V} {ds:List PyData}:SqT K H a xs→RdVs K H xs ds→RdV K H (.ref a) (.tuple ds)
inductive RdVs (K:PySem.W.Frag) (H:Hp):List V→List PyData→Prop
 | nil:RdVs K H [] []
 | cons {v:V} {d:PyData} {vs:List V} {ds:List PyData}:RdV K H v d→RdVs K H vs ds→RdVs K H (v :: vs) (d :: ds)
end
section
variable {X:Cx} {pins:List (Addr × Obj)} {σ:St} {H:Hp} {s:Shared}
mutual
theorem RdV.reads (I:Inv X pins σ H s):∀ {v:V} {d:PyData},RdV X.K H v d→∀ {u:Value},RelV v u→∃ as,Reads s.heap u d as
 | _,_,.non,_,r=>by cases r;exact ⟨_,.none⟩
 | _,_,.bl b,_,r=>by cases r;exact ⟨_,.bool b⟩
 | _,_,.int i,_,r=>by obtain ⟨t,rfl⟩:=r;exact ⟨_,.int i t⟩
 | _,_,.str x,_,r=>by obtain ⟨t,rfl⟩:=r;exact ⟨_,.str x t⟩
 | _,_,.lst h q,_,r=>by
  cases r
  obtain ⟨its,rv,⟨o,n,e,c,_,d⟩,_⟩:=I.list h
  obtain ⟨as,z⟩:=RdVs.reads I q rv
  exact ⟨_,.list e c d (by simpa using z)⟩
 | _,_,.tup h q,_,r=>by
  cases r
  obtain ⟨its,rv,⟨o,e,c,n,d⟩,_⟩:=I.tuple h
  obtain ⟨as,z⟩:=RdVs.reads I q rv
  exact ⟨_,.tuple e c d (by simpa using z)⟩
theorem RdVs.reads (I:Inv X pins σ H s):∀ {vs:List V} {ds:List PyData},RdVs X.K H vs ds→∀ {us:List Value},Vals vs us→∃ as,ReadsAll s.heap us ds as
 | _,_,.nil,_,r=>by cases r;exact ⟨_,.nil⟩
 | _,_,.cons h q,_,r=>by
  cases r with
  | cons r1 r2 =>
   obtain ⟨as,z⟩:=RdV.reads I h r1
   obtain ⟨bs,y⟩:=RdVs.reads I q r2
   exact ⟨_,.cons z y⟩
end
end
section
variable {X:Cx}
def DY (K:PySem.W.Frag):R2:=fun x y H Q=>∃ da db,RdV K H x da∧RdV K H y db∧SeqAt.shaped da=true∧SeqAt.shaped db=true∧Q (.bl (PyData.eqv da db)) H
def Am (K:PySem.W.Frag):R2:=fun x y H Q=>∃ da db,RdV K H x da∧RdV K H y db∧SeqAt.shaped da=true∧SeqAt.shaped db=true∧Q (.bl (!PyData.eqv da db)) H
theorem fV (hu:X.A.units + 64 < cLine):OpR X (compareOp .Eq) (DY X.K):=by
 intro pins s σ H x y v u Q I rx ry h
 obtain ⟨da,db,ha,hb,sa,sb,q⟩:=h
 obtain ⟨as,za⟩:=ha.reads I rx
 obtain ⟨bs,zb⟩:=hb.reads I ry
 exact SeqAt.compareEq_shaped za zb sa sb hu ⟨.bl _,H,I,rfl,q⟩
theorem Ao (hu:X.A.units + 64 < cLine):OpR X (compareOp .NotEq) (Am X.K):=by
 intro pins s σ H x y v u Q I rx ry h
 obtain ⟨da,db,ha,hb,sa,sb,q⟩:=h
 obtain ⟨as,za⟩:=ha.reads I rx
 obtain ⟨bs,zb⟩:=hb.reads I ry
 exact SeqAt.compareNe_shaped za zb sa sb hu ⟨.bl _,H,I,rfl,q⟩
end
def isT (c T:String):Bool:=T == c || (T == "bool" && c == "int")
section
variable {K:PySem.W.Frag}
theorem Aq (h:c = "int" ∨ c = "bool" ∨ c = "tuple" ∨ c = "list" ∨ c = "str") (g:T = "NoneType" ∨ T = "bool" ∨ T = "int" ∨ T = "str" ∨ T = "list" ∨ T = "tuple" ∨ T = "dict") :
 PySem.W.kitOne K (.type T) (.type c)=some (isT c T):=by
 rcases h with rfl | rfl | rfl | rfl | rfl <;> rcases g with rfl | rfl | rfl | rfl | rfl | rfl | rfl <;> kernel_rfl
end
section
variable {X:Cx}
end
theorem big {X:Cx} {pins:List (Addr × Obj)} {σ:St} {H:Hp} {s:Shared} (I:Inv X pins σ H s):sysModules < s.heap.objs.size:=by
 have h:mainGlobals < s.heap.objs.size:=(I.mod.glob.keeps I.bk).lt
 exact Nat.lt_trans (by decide) h
theorem tG {P:Program} {w:World} {H:Hp} (h:Heap) (hb:sysModules < h.objs.size):dF P w H (h.push { cls:=.type "dict", data:=.dict #[] }) h.objs.size (.dK []) :=
 ⟨gC _,beq_eq_false_iff_ne.mpr (Ne.symm (bx hb)),[],.nil,Heap.DictOf.new h⟩
def Ar:TE:=fun _ H Q=>∀ p,H p=none→Q (.ref p) (upd H p (.dK []))
theorem tH {X:Cx} {pos:Pos}:PE X (.Dict [] [] pos) Ar:=fun pins s σ H Q I h =>
 wpAny_Dict_empty ⟨.ref s.heap.objs.size,_,I.laid (a:=s.heap.objs.size) (o:=.dK []) (t':=s.toks) (fun _ _ q=>Heap.get?_push_of_some _ q) (aU _) (tG s.heap (big I)),rfl,h _ (I.hok.fresh (aU _))⟩
end My
namespace My
open PySem PySem.Spec PyProof.Rows L2
section
variable {X:Cx} {a b c d:Expr} {ta tb tc td:TE} {pos:Pos}
end
structure Blt (mg:Str→Option Value):Prop where
 len_:mg "len" = none
 range_:mg "range" = none
 abs_:mg "abs" = none
 isinstance_:mg "isinstance" = none
 int_:mg "int" = none
 bool_:mg "bool" = none
 tuple_:mg "tuple" = none
 max_:mg "max" = none
 min_:mg "min" = none
end My
namespace My
open PySem PySem.Spec PyProof.Rows L2
abbrev cx (P:Program) (w:World) (K:PySem.W.Frag) (mg:Str→Option Value) (base:Heap) (N:List Str) (x:Str) (st:Stmt) (f:Addr) (cdv:Value) (A:Around) (outer:List Env) (s:Shared) (H:Hp) (E:XK):Cx :=
 (oW CX0 P w K mg base N x (bw st) f cdv A outer s H E).nox
end My
namespace My
open PySem PySem.Spec PyProof.Rows L2
def ig (env:Env):List (Str × NameKind)→List (Str × Addr)→List (Str × Addr)
 | [],cs=>cs
 | (n,k) :: r,cs=>if (k == NameKind.free)=true then ig env r ((n,(env.cells.lookup n).getD 0) :: cs) else ig env r cs
theorem jo {env:Env}:∀ (l:List (Str × NameKind)) (cs:List (Str × Addr)),(∀ x ∈ l,x.2 = .free→∃ c,env.cells.lookup x.1=some c) →
 (forIn l cs fun (x:Str × NameKind) (r:List (Str × Addr))=>(if (x.2 == NameKind.free)=true then (do let c ← cellOf env x.1;pure (ForInStep.yield ((x.1,c) :: r))) else pure (ForInStep.yield r):Sem (ForInStep (List (Str × Addr)))))=pure (ig env l cs)
 | [],_,_=>rfl
 | (n,k) :: r,cs,h=>by
  rw [List.forIn_cons]
  by_cases hk:(k == NameKind.free)=true
  ·obtain ⟨c,hc⟩:=h (n,k) aB (beq_iff_eq.mp hk)
   have hc':cellOf env n=pure c:=by
    unfold cellOf
    rw [show env.cells.lookup n=some c from hc]
   show (do let x ← (if (k == NameKind.free)=true then (do let c ← cellOf env n;pure (ForInStep.yield ((n,c) :: cs))) else pure (ForInStep.yield cs):Sem (ForInStep (List (Str × Addr))));_)=_
   rw [if_pos hk,hc']
   have ih:=jo r ((n,c) :: cs) fun x hx=>h x (aA _ hx)
   rw [ig,if_pos hk,show env.cells.lookup n=some c from hc]
   exact ih
  ·show (do let x ← (if (k == NameKind.free)=true then (do let c ← cellOf env n;pure (ForInStep.yield ((n,c) :: cs))) else pure (ForInStep.yield cs):Sem (ForInStep (List (Str × Addr))));_)=_
   rw [if_neg hk]
   have ih:=jo r cs fun x hx=>h x (aA _ hx)
   rw [ig,if_neg hk]
   exact ih
theorem oX {env:Env} {scope:Scope} (h:∀ x ∈ scope.names,x.2 = .free→∃ c,env.cells.lookup x.1=some c):closureFor scope env=pure (ig env scope.names []):=by
 have z:=jo (env:=env) scope.names [] h
 show (forIn scope.names [] fun (x:Str × NameKind) (r:List (Str × Addr))=>(if (x.2 == NameKind.free)=true then (do let c ← cellOf env x.1;pure (ForInStep.yield ((x.1,c) :: r))) else pure (ForInStep.yield r):Sem (ForInStep (List (Str × Addr))))) >>= (fun cs=>pure cs)=_
 rw [z]
 rfl
theorem j4 {env:Env}:∀ (l:List (Str × NameKind)) (cs:List (Str × Addr)),(∀ x ∈ l,x.2 = .free→∃ c,env.cells.lookup x.1=some c)→(∀ x c,cs.lookup x=some c→env.cells.lookup x=some c) →
 ∀ x c,(ig env l cs).lookup x=some c→env.cells.lookup x=some c
 | [],_,_,hc,x,c,e=>hc x c e
 | (n,k) :: r,cs,h,hc,x,c,e=>by
  rw [ig] at e
  by_cases hk:(k == NameKind.free)=true
  ·rw [if_pos hk] at e
   obtain ⟨d,hd⟩:=h (n,k) aB (beq_iff_eq.mp hk)
   refine j4 r _ (fun x hx=>h x (aA _ hx)) (fun y c' e'=>?_) x c e
   rw [bF] at e'
   cases hy:y == n with
   | true =>
    rw [hy] at e'
    have:y=n:=beq_iff_eq.mp hy
    subst this
    rw [show env.cells.lookup y=some d from hd] at e' ⊢
    exact e'
   | false =>
    rw [hy] at e'
    exact hc y c' e'
  ·rw [if_neg hk] at e
   exact j4 r cs (fun x hx=>h x (aA _ hx)) hc x c e
theorem iK {env:Env}:∀ (l:List (Str × NameKind)) (cs:List (Str × Addr)) (x:Str),((x,NameKind.free) ∈ l∨∃ c,cs.lookup x=some c)→∃ c,(ig env l cs).lookup x=some c
 | [],_,x,h=>by
  rcases h with h | h
  ·exact absurd h (by simp)
  ·exact h
 | (n,k) :: r,cs,x,h=>by
  rw [ig]
  by_cases hk:(k == NameKind.free)=true
  ·rw [if_pos hk]
   refine iK r _ x ?_
   by_cases e:x=n
   ·subst e
    exact .inr ⟨_,by rw [bF,beq_self_eq_true]⟩
   ·rcases h with h | ⟨c,h⟩
    ·rcases bf.mp h with h | h
     ·exact absurd (congrArg Prod.fst h) e
     ·exact .inl h
    ·exact .inr ⟨c,by rw [bF,beq_eq_false_iff_ne.mpr e];exact h⟩
  ·rw [if_neg hk]
   refine iK r cs x ?_
   rcases h with h | h
   ·rcases bf.mp h with h | h
    ·have:k = .free:=(congrArg Prod.snd h).symm
     subst this
     exact absurd rfl hk
    ·exact .inl h
   ·exact .inr h
abbrev blk (X:Cx) (N':List Str) (scope:Scope) (cl:List (Str × Addr)) (C:Addr) (s3:Shared) (H3:Hp) (fp:List Addr):Cx :=
 { X with N:=N',s₀:=s3,H₀:=H3,env:=compEnvC scope cl C X.env,outer:=X.stack,ex:=fp,fn:=fun _=>false,xe:=fun _ _=>False }
def mG (N:List Str) (kinds sn:List (Str × NameKind)):List Str→List Nat→Bool
 | [],[]=>true
 | x :: V,j :: ix=>(N[j]? == some x) && ((kinds.lookup x == some NameKind.cell) && ((sn.lookup x == some NameKind.free) && mG N kinds sn V ix))
 | _,_=>false
def mH (t:Nat) (ix:List Nat) (σ:St):St:=bC t none++ix.map fun j=>(σ[j]?).getD none
theorem j6 {N:List Str} {kinds sn:List (Str × NameKind)}:∀ {V:List Str} {ix:List Nat},mG N kinds sn V ix=true→ix.length=V.length∧∀ (k:Nat) (x:Str),V[k]? = some x→∃ j,ix[k]? = some j∧N[j]? = some x∧kinds.lookup x=some .cell∧sn.lookup x=some .free
 | [],[],_=>⟨rfl,fun k x h=>by simp at h⟩
 | x :: V,j :: ix,h=>by
  rw [mG,aN,aN,aN] at h
  obtain ⟨h1,h2,h3,h4⟩:=h
  obtain ⟨l,r⟩:=j6 h4
  refine ⟨by simp [l],fun k y hy=>?_⟩
  cases k with
  | zero =>
   simp at hy
   subst hy
   exact ⟨j,rfl,beq_iff_eq.mp h1,beq_iff_eq.mp h2,beq_iff_eq.mp h3⟩
  | succ k=>exact r k y (by simpa using hy)
 | [],_ :: _,h=>by simp [mG] at h
 | _ :: _,[],h=>by simp [mG] at h
theorem jw {env:Env} (hf:env.scope.kind = .function):∀ {names:List (Str × NameKind)} {x:Str},names.lookup x=some .free→env.kindOf x=some .cell →
 (names.map fun (n,k)=>if (k == NameKind.free && env.scope.kind == .function && env.kindOf n == some .cell) then (n,NameKind.cell) else (n,k)).lookup x=some .cell
 | [],_,h,_=>by simp at h
 | (n,k) :: r,x,h,hc=>by
  have ih:=@jw env hf r x
  show bV x ((if (k == NameKind.free && env.scope.kind == .function && env.kindOf n == some .cell)=true then (n,NameKind.cell) else (n,k)) :: _)=_
  cases hx:x == n with
  | true =>
   have e:x=n:=beq_iff_eq.mp hx
   subst e
   simp only [bF,hx] at h
   cases h
   rw [if_pos (by rw [hf,hc];rfl)]
   simp [bF]
  | false =>
   simp only [bF,hx] at h
   by_cases hq:(k == NameKind.free && env.scope.kind == .function && env.kindOf n == some .cell)=true
   ·rw [if_pos hq];simp only [bF,hx];exact ih h hc
   ·rw [if_neg hq];simp only [bF,hx];exact ih h hc
theorem iu {env:Env}:∀ {names:List (Str × NameKind)} {x:Str} {k:NameKind},(∀ y ∈ names,y.2 ≠ .cell)→(k = .cell∨k = .free) →
 (names.map fun (n,k)=>if (k == NameKind.free && env.scope.kind == .function && env.kindOf n == some .cell) then (n,NameKind.cell) else (n,k)).lookup x=some k→(x,NameKind.free) ∈ names
 | [],_,_,_,_,h=>by simp at h
 | (n,k') :: r,x,k,hc,hk,h=>by
  have ih:=@iu env r x k (fun y hy=>hc y (aA _ hy)) hk
  have h':bV x ((if (k' == NameKind.free && env.scope.kind == .function && env.kindOf n == some .cell)=true then (n,NameKind.cell) else (n,k')) :: (r.map fun (n,k)=>if (k == NameKind.free && env.scope.kind == .function && env.kindOf n == some .cell) then (n,NameKind.cell) else (n,k)))=some k:=h
  by_cases hq:(k' == NameKind.free && env.scope.kind == .function && env.kindOf n == some .cell)=true
  ·rw [if_pos hq] at h'
   have kf:k' = .free:=by
    rw [aN,aN] at hq
    exact beq_iff_eq.mp hq.1.1
   cases hx:x == n with
   | true =>
    have e:x=n:=beq_iff_eq.mp hx
    subst e
    subst kf
    exact aB
   | false =>
    simp only [bF,hx] at h'
    exact aA _ (ih h')
  ·rw [if_neg hq] at h'
   cases hx:x == n with
   | true =>
    have e:x=n:=beq_iff_eq.mp hx
    subst e
    simp only [bF,hx] at h'
    cases h'
    rcases hk with hk | hk
    ·exact absurd hk (hc _ aB)
    ·subst hk
     exact aB
   | false =>
    simp only [bF,hx] at h'
    exact aA _ (ih h')
section
variable {X:Cx} {pins:List (Addr × Obj)} {σ:St} {H:Hp} {s:Shared}
theorem Inv.forget {σ':St} (I:Inv X pins σ H s) (hl:σ'.length=X.N.length) (h:∀ (i:Nat) (v:V),σ'[i]? = some (some v)→σ[i]? = some (some v)):Inv X pins σ' H s:=by
 obtain ⟨m,hn,hx⟩:=I.loc
 exact ⟨I.ok,I.os,I.bare,I.base,⟨m,hn,fun i x v e1 e2 e3=>hx i x v e1 (h i v e2) e3⟩,I.cell,I.free,I.freeC,I.pin,I.hok,hl⟩
end
end My
namespace My
open PySem PySem.Spec PyProof.Rows L2
theorem nC {prog:Program} {w:World} {A:Around} {R:Result→Shared→Prop} {elt target iter:Expr} {ifs:List Expr} {scope:Scope} {pos:Pos} {it acc:Value} {env:Env} {s:Shared} (I:Nat→Shared→Prop)
 (turn:∀ n s,I n s→wpAny (model prog w) A (pyNext it) (fun r s₁=>match r with
  | none=>R (.ok .next) s₁
  | some v=>wpAny (model prog w) A (letOwnedTupleGo target it v) (fun _ s₁'=>wpAny (model prog w) A (assign target env v) (fun _ s₂ =>
   wpAny (model prog w) A (forIn ifs true fun c r=>if r=true then do let ok ← isTrue c env (eval c env);pure (ForInStep.yield ok) else pure (ForInStep.yield r)) (fun ok s₃ =>
    if ok=true then wpAny (model prog w) A (eval elt env) (fun x s₄ =>
     wpAny (model prog w) A (call (.builtin "list.append") [acc,x]) (fun _ s₅=>∃ m,m < n∧I m s₅) (fun _ _=>False) s₄) (fun _ _=>False) s₃
    else ∃ m,m < n∧I m s₃) (fun _ _=>False) s₂) (fun _ _=>False) s₁') (fun _ _=>False) s₁) (fun _ _=>False) s)
 (n:Nat) (h:I n s) :
 codeAny (model prog w) A (.compLoop (.ListComp elt [⟨target,iter,ifs,0⟩] scope pos) 0 it acc env) R s:=by
 refine codeAny_loop rfl I (fun n s hI=>?_) n h
 show wpAny _ A ((compTurn (.ListComp elt [⟨target,iter,ifs,0⟩] scope pos) 0 it acc env).onRaise (fun x=>do noteFrame x env;theTreesLotGoes x)) _ _ s
 refine wpAny_noted ?_
 rw [compTurn_list]
 refine wpAny_bind (wpAny_standAt (wpAny_bind (wpAny_mono (turn n s hI) (fun r s₁ h₁=>?_) fun _ _ h'=>h'.elim)))
 cases r with
 | none=>exact wpAny_pure h₁
 | some v =>
  refine wpAny_bind (wpAny_mono h₁ (fun _ s₁' h₁'=>?_) fun _ _ h'=>h'.elim)
  refine wpAny_bind (wpAny_mono h₁' (fun _ s₂ h₂=>wpAny_bind (wpAny_mono h₂ (fun ok s₃ h₃=>?_) fun _ _ h'=>h'.elim)) fun _ _ h'=>h'.elim)
  cases ok with
  | false=>exact wpAny_pure ⟨rfl,h₃⟩
  | true =>
   exact wpAny_bind (wpAny_bind (wpAny_mono h₃ (fun x s₄ h₄=>wpAny_bind (wpAny_mono h₄ (fun _ s₅ h₅=>wpAny_pure (wpAny_pure ⟨rfl,h₅⟩)) fun _ _ h'=>h'.elim)) fun _ _ h'=>h'.elim))
section
variable {X:Cx} {pins:List (Addr × Obj)} {σ:St} {H:Hp}
theorem rH {T V:List Str} {ix:List Nat} {scope:Scope} {s3:Shared} {fp:List Addr} {h₁:Heap} {tk:Nat} {m:Str→Option Value}
 (I:Inv X pins σ H s3) (hf:∀ b ∈ fp,jN X pins H b) (ho:∀ b ∈ fp,∃ o,s3.heap.get? b=some o)
 (hk:scope.kind = .function) (hcell:∀ y ∈ scope.names,y.2 ≠ .cell) (hfr:∀ x ∈ scope.names,x.2 = .free→x.1 ∈ V) (hB:mG X.N X.env.scope.names scope.names V ix=true)
 (hns:h₁.Ns s3.heap.objs.size m) (keep:∀ b o,s3.heap.get? b=some o→h₁.get? b=some o) :
 Inv (blk X (T++V) scope (ig X.env scope.names []) s3.heap.objs.size s3 H fp) pins (mH T.length ix σ) H { s3 with heap:=h₁,toks:=tk }:=by
 obtain ⟨lV,capV⟩:=j6 hB
 have hcl:∀ x ∈ scope.names,x.2 = .free→∃ c,X.env.cells.lookup x.1=some c:=fun x hx e=>by
  obtain ⟨k,ek⟩:=iJ (hfr x hx e)
  obtain ⟨j,_,_,hc,_⟩:=capV k _ ek
  exact I.ok.has _ (.inl hc)
 have sub:=j4 (env:=X.env) scope.names [] hcl (fun x c e=>by simp at e)
 have stkSub:∀ b,b ∈ frs X.stack→b=X.env.locals∨b ∈ X.fs:=fun b z=>bf.mp (I.stkSub b z)
 have lt:∀ b o,s3.heap.get? b=some o→b ≠ s3.heap.objs.size:=fun b o e=>bx (Heap.lt_size e)
 have cellK:∀ c v,s3.heap.IsCell c v→h₁.IsCell c v:=fun c v ⟨o,e,d⟩=>⟨o,keep c o e,d⟩
 refine ⟨⟨I.ok.mod,hk,I.ok.glob,I.ok.blt,aU _,fun x y c e1 e2=>I.ok.inj x y c (sub x c e1) (sub y c e2),fun x hx=>?_,fun x c hx=>?_,I.ok.hd,I.ok.frames,.inl rfl,fun b hb=>⟨?_,fun x c e=>?_⟩,I.bs,aV I.ok.bsz I.sz,fun b o e hb=>?_,fun b hb z=>?_,I.stack,I.stkFree⟩,
  rfl,I.bare,Un.kept keep,⟨m,hns,fun i x v e1 e2 e3=>?_⟩,fun x c e=>?_,I.hok.fresh (aU _),fun x c e=>I.freeC x c (sub x c e),fun p hp=>?_,I.hok.kept keep,?_⟩
 ·rcases hx with hx | hx
  ·exact iK _ _ x (.inl (iu hcell (.inl rfl) hx))
  ·exact iK _ _ x (.inl (iu hcell (.inr rfl) hx))
 ·exact absurd hx (by simp)
 ·obtain ⟨o,e⟩:=ho b hb
  exact lt b o e
 ·exact (hf b hb).2.2.2.2.1 x c (sub x c e)
 ·rcases (hf b hb).2.2.2.1 with z | z
  ·exact I.ok.noex b o e z
  ·exact absurd (aP (Heap.lt_size e) (aV I.ok.bsz z)) (dZ _)
 ·rcases stkSub b z with z | z
  ·exact (hf b hb).2.1 z
  ·exact (hf b hb).2.2.1 z
 ·by_cases hi:i < T.length
  ·have e2':(bC T.length none++ix.map fun j=>(σ[j]?).getD none)[i]? = some (some v):=e2
   rw [bO (by rw [aR];exact hi),cD,if_pos hi] at e2'
   exact absurd e2' (by simp)
  ·have e1':(T++V)[i]? = some x:=e1
   rw [bL (by omega)] at e1'
   obtain ⟨j,hj,hN,hc,hfree⟩:=capV _ x e1'
   have e2':(bC T.length none++ix.map fun j=>(σ[j]?).getD none)[i]? = some (some v):=e2
   rw [bL (by rw [aR];omega),aR,bI,hj] at e2'
   have e2'':(σ[j]?).getD none=some v:=by simpa using e2'
   have e3':σ[j]? = some (some v):=by
    cases q:σ[j]? with
    | none=>rw [q] at e2'';exact absurd e2'' (by simp)
    | some o=>rw [q] at e2'';simp at e2'';rw [e2'']
   obtain ⟨m0,hn0,hl⟩:=I.loc
   obtain ⟨u,r,l⟩:=hl j x v hN e3' (.inr (.inl hc))
   rcases l with ⟨z,_⟩ | ⟨_,c,ec,hcell'⟩
   ·have z':X.env.scope.names.lookup x=some .local:=z
    rw [hc] at z'
    exact absurd z' (by simp)
   ·obtain ⟨c',ec'⟩:=iK (env:=X.env) scope.names [] x (.inl (PySem.mem_of_lookup hfree))
    have:c'=c:=by
     have q:=sub x c' ec'
     rw [ec] at q
     exact (cN.inj q).symm
    subst this
    exact ⟨u,r,.inr ⟨.inl (jw I.ok.kind hfree hc),c',ec',cellK _ _ hcell'⟩⟩
 ·obtain ⟨v,z⟩:=I.cell x c (sub x c e)
  exact ⟨v,cellK c v z⟩
 ·obtain ⟨e,n,ne,nf,d⟩:=I.pin p hp
  refine ⟨keep _ _ e,n,lt _ _ e,fun z=>?_,d⟩
  rcases stkSub p.1 z with z | z
  ·exact ne z
  ·exact nf z
 ·show (bC T.length none++ix.map fun j=>(σ[j]?).getD none).length=(T++V).length
  rw [bM,aR,aX,bM,lV]
theorem j7 {N':List Str} {scope:Scope} {cl:List (Str × Addr)} {pins':List (Addr × Obj)} {σ':St} {H3 H':Hp} {s3 s':Shared} {fp:List Addr} (I3:Inv X pins σ H3 s3) (hf:∀ b ∈ fp,jN X pins H3 b)
 (I':Inv (blk X N' scope cl s3.heap.objs.size s3 H3 fp) pins' σ' H' s'):Inv X pins σ H' s'∧jN X pins H' s3.heap.objs.size:=by
 have fr:H' s3.heap.objs.size=none:=I'.free
 refine ⟨?_,I3.fpOk (aU _) fr⟩
 have os:s'.os=s3.os:=I'.os
 have u:Un (frs X.stack) fp H3 H' s3.heap s'.heap:=I'.base
 have ho:=I'.hok
 have hb:=I'.bare
 obtain ⟨hh,g,d,t,os'⟩:=s'
 obtain rfl:os'=s3.os:=os
 exact I3.call (h':=hh) (g':=g) (d':=d) (t':=t) (ch:=fp) u ho hb fun b hb'=>⟨(hf b hb').2.2.2.1,(hf b hb').2.1,(hf b hb').2.2.2.2.1,(hf b hb').2.2.2.2.2⟩
end
def PTs (X:Cx) (ifs:List Expr) (t:TT):Prop :=
 ∀ (pins:List (Addr × Obj)) (s:Shared) (σ:St) (H:Hp) (Q:Bool→Hp→Prop),Inv X pins σ H s→t σ H Q →
  wpAny (model X.prog X.w) X.A (forIn ifs true fun c r=>if r=true then do let ok ← isTrue c X.env (eval c X.env);pure (ForInStep.yield ok) else pure (ForInStep.yield r)) (TP X pins σ Q) X.xe s
def gw:TT:=fun _ H Q=>Q true H
theorem wj {X:Cx}:PTs X [] gw:=fun _ _ _ H _ I h=>wpAny_tests_nil ⟨H,I,h⟩
def tK (wi:TI) (g:TG) (tt:TT) (te:TE) (t:Nat) (cap:St→St):TE:=fun σ H Q=>wi σ H fun J H1=>∀ D,H1 D=none→∃ W:Nat→Nat→List V→Hp→Prop,(∃ m,W 0 m [] (upd H1 D (.lst []))) ∧
 ∀ i m xs H2,W i m xs H2→H2 D=some (.lst xs)∧((J.stop i H2∧Q (.ref D) H2)∨(J.go i H2∧xs.length < sizeLine∧∀ x H3,J.yld i H2 x H3→g x (cap σ) H3 fun σ4 H4=>σ4.drop t=(cap σ).drop t ∧
  tt σ4 H4 fun b H5=>if b=true then te σ4 H5 fun v H6=>H6 D=some (.lst xs)∧∃ m',m' < m∧W (i + 1) m' (xs++[v]) (upd H6 D (.lst (xs++[v]))) else ∃ m',m' < m∧W (i + 1) m' xs H5))
section
variable {X:Cx} {elt tg iter:Expr} {ifs:List Expr} {scope:Scope} {pos:Pos} {T V:List Str} {ix:List Nat} {wi:TI} {g:TG} {tt:TT} {te:TE}
theorem rJ (hc:X.calm=true) (hi:PI X tg iter wi)
 (hg:∀ cl C s3 H3 fp,PG (blk X (T++V) scope cl C s3 H3 fp) tg g) (ht:∀ cl C s3 H3 fp,PTs (blk X (T++V) scope cl C s3 H3 fp) ifs tt) (he:∀ cl C s3 H3 fp,PE (blk X (T++V) scope cl C s3 H3 fp) elt te)
 (hB:mG X.N X.env.scope.names scope.names V ix=true) (hk:scope.kind = .function) (hcell:∀ y ∈ scope.names,y.2 ≠ .cell) (hnames:∀ x ∈ scope.names,x.2 = .local→scope.names.lookup x.1=some .local)
 (hfr:∀ x ∈ scope.names,x.2 = .free→x.1 ∈ V) (hs:∀ x,foldedSetIterable iter X.env x=pure x) {p:Pos}
 {pins:List (Addr × Obj)} {s:Shared} {σ:St} {H:Hp} (I:Inv X pins σ H s) {use:Option (Value→Sem Unit)} {Qp:Value→Shared→Prop} {Qv:VK} (h:tK wi g tt te T.length (mH T.length ix) σ H Qv)
 (fin:∀ (D C:Addr) (H':Hp) (s':Shared) (m:Str→Option Value),Inv X pins σ H' s'→jN X pins H' C→s'.heap.Ns C m→Qv (.ref D) H'→compPost (model X.prog X.w) X.A X.xe use Qp (.ref D) C (.ok .next) s') :
 wpAny (model X.prog X.w) X.A (comprehension (.ListComp elt [⟨tg,iter,ifs,0⟩] scope pos) scope X.env p (newList []) false (eval iter X.env) use) Qp X.xe s:=by
 obtain ⟨lV,capV⟩:=j6 hB
 have hcl:∀ x ∈ scope.names,x.2 = .free→∃ c,X.env.cells.lookup x.1=some c:=fun x hx e=>by
  obtain ⟨k,ek⟩:=iJ (hfr x hx e)
  obtain ⟨j,_,_,hc',_⟩:=capV k _ ek
  exact I.ok.has _ (.inl hc')
 refine wpAny_comprehension_free rfl hs (oX hcl) hk hnames ?_
 refine thn (hi pins s σ H _ I h) fun v s1 h1=>thn h1 fun itv s2 h2=>?_
 obtain ⟨it,fp,tn,J,H2,e,I2,Tn,st2,f2,R⟩:=h2
 subst e
 refine wpAny_newObj_type (hd:=by size_fits) ?_
 have hD:H2 s2.heap.objs.size=none:=I2.hok.fresh (aU _)
 have I3:Inv X pins σ (upd H2 s2.heap.objs.size (.lst [])) { s2 with heap:=s2.heap.push { cls:=.type "list", dict:=none,data:=.seq ([]:List Value).toArray } } :=
  I2.laid (t':=s2.toks) (fun b o e=>Heap.get?_push_of_some _ e) (aU _) ⟨gC _,[],0,.nil,Heap.get?_push_size _ rfl⟩
 obtain ⟨W,⟨m0,w0⟩,turn⟩:=R s2.heap.objs.size hD
 generalize hs3:({ s2 with heap:=s2.heap.push { cls:=.type "list", dict:=none,data:=.seq ([]:List Value).toArray } }:Shared)=s3 at I3 ⊢
 have st3:tn 0 s3.heap:=by
  rw [← hs3]
  exact Tn.keep 0 s2.heap _ st2 fun b hb o e=>Heap.get?_push_of_some _ e
 have f3:∀ b ∈ fp,jN X pins (upd H2 s2.heap.objs.size (.lst [])) b:=fun b hb=>by
  obtain ⟨z0,z1⟩:=f2 b hb
  refine ⟨?_,z1⟩
  obtain ⟨o,eo,_⟩:=Tn.obj 0 _ st2 b hb
  rw [bK (bx (Heap.lt_size eo))]
  exact z0
 generalize hH3:upd H2 s2.heap.objs.size (.lst [])=H3 at I3 f3 w0
 generalize hDn:s2.heap.objs.size=D at turn
 refine wpAny_newFunctionEnv hcell (by intro y hy;simp at hy) (fun h₁ hns₁ hsb₁=>?_) hk
 have keep:∀ b o,s3.heap.get? b=some o→h₁.get? b=some o:=fun b o e=>hsb₁.extBut b o (bx (Heap.lt_size e)) (Heap.get?_push_of_some _ e)
 have I4:=rH (T:=T) (tk:=s3.toks + ([]:List (Str × Value)).length) I3 f3 (fun b hb=>let ⟨o,eo,_⟩:=Tn.obj 0 _ st3 b hb;⟨o,eo⟩) hk hcell hfr hB hns₁ keep
 have st4:tn 0 h₁:=Tn.keep 0 _ _ st3 fun b hb o e=>keep b o e
 have loop:codeAny (model X.prog X.w) X.A (.compLoop (.ListComp elt [⟨tg,iter,ifs,0⟩] scope pos) 0 (.ref it) (.ref D) (compEnvC scope (ig X.env scope.names []) s3.heap.objs.size X.env))
  (compPost (model X.prog X.w) X.A X.xe use Qp (.ref D) s3.heap.objs.size) { s3 with heap:=h₁,toks:=s3.toks + ([]:List (Str × Value)).length }:=by
  refine nC (fun n s'=>∃ i xs H',Inv (blk X (T++V) scope (ig X.env scope.names []) s3.heap.objs.size s3 H3 fp) pins (mH T.length ix σ) H' s'∧tn i s'.heap∧(∀ b ∈ fp,H' b=none)∧W i n xs H') ?_ m0
   ⟨0,[],H3,I4,st4,fun b hb=>(f3 b hb).1,w0⟩
  rintro n s5 ⟨i,xs,H5,I5,st5,fr5,w5⟩
  have stat:∀ {H':Hp} {pins':List (Addr × Obj)} {σ':St} {s':Shared},Inv (blk X (T++V) scope (ig X.env scope.names []) s3.heap.objs.size s3 H3 fp) pins σ' H' s'→(∀ b ∈ fp,H' b=none)→∀ b ∈ fp,jN (blk X (T++V) scope (ig X.env scope.names []) s3.heap.objs.size s3 H3 fp) pins H' b:=fun I' hn b hb=>by
   obtain ⟨x1,x2⟩:=I'.ok.exf b hb
   refine ⟨hn b hb,x1,I'.ok.exfs b hb,.inl hb,x2,fun q hq=>?_⟩
   exact (f3 b hb).2.2.2.2.2 q hq
  obtain ⟨hD5,r5⟩:=turn i n xs H5 w5
  rcases r5 with ⟨stop,q⟩ | ⟨go,hz,step⟩
  ·refine thn (Tn.done (blk X (T++V) scope (ig X.env scope.names []) s3.heap.objs.size s3 H3 fp) rfl rfl rfl hc i pins s5 _ H5 _ I5 (stat (pins':=pins) I5 fr5) st5 stop) fun r s6 ⟨hr,I6⟩=>?_
   subst hr
   obtain ⟨Ib,fC⟩:=j7 I3 f3 I6
   obtain ⟨m,hn,_⟩:=I6.loc
   exact fin D _ H5 s6 m Ib fC hn q
  ·refine thn (Tn.item (blk X (T++V) scope (ig X.env scope.names []) s3.heap.objs.size s3 H3 fp) rfl rfl rfl hc i pins s5 _ H5 _ I5 (stat (pins':=pins) I5 fr5) st5 go) fun r s6 ⟨u,hr,h6⟩=>?_
   subst hr
   refine thn h6 fun _ s7 ⟨x,H7,I7,rx,y7,st7,fr7⟩=>?_
   have I7':=I7.pinned (stat (pins':=pins) I7 fr7) (Tn.obj _ _ st7)
   refine thn (hg _ _ _ _ _ _ s7 _ H7 x u _ I7' rx (step x H7 y7)) fun _ s8 ⟨σ8,H8,I8,k8,q8⟩=>?_
   have again:∀ {H9:Hp} {s9:Shared},Inv (blk X (T++V) scope (ig X.env scope.names []) s3.heap.objs.size s3 H3 fp) (pins++jX fp s7.heap) σ8 H9 s9 →
    Inv (blk X (T++V) scope (ig X.env scope.names []) s3.heap.objs.size s3 H3 fp) pins (mH T.length ix σ) H9 s9∧tn (i + 1) s9.heap∧∀ b ∈ fp,H9 b=none:=fun {H9 s9} I9=>by
    refine ⟨Inv.forget I9.unpinned I4.len fun j v e=>?_,Tn.keep _ _ _ st7 fun b hb o e=>(I9.pin (b,o) (aK _ (aK _ (g_ hb e)))).1,fun b hb=>?_⟩
    ·by_cases hj:j < T.length
     ·have e':(bC T.length none++ix.map fun j=>(σ[j]?).getD none)[j]? = some (some v):=e
      rw [bO (by rw [aR];exact hj),cD,if_pos hj] at e'
      exact absurd e' (by simp)
     ·have ej:j=T.length + (j - T.length):=by omega
      rw [ej,← gb] at e ⊢
      rw [k8]
      exact e
    ·obtain ⟨o,e,d⟩:=Tn.obj _ _ st7 b hb
     exact (I9.pin (b,o) (aK _ (aK _ (g_ hb e)))).2.1
   refine thn (ht _ _ _ _ _ _ s8 σ8 H8 _ I8 q8) fun ok s9 ⟨H9,I9,q9⟩=>?_
   cases ok with
   | false =>
    obtain ⟨m',lm,w9⟩:=q9
    obtain ⟨a1,a2,a3⟩:=again I9
    exact ⟨m',lm,i + 1,xs,H9,a1,a2,a3,w9⟩
   | true =>
    refine thn (he _ _ _ _ _ _ s9 σ8 H9 _ I9 q9) fun y s10 ⟨v,H10,I10,ry,hD10,m',lm,w10⟩=>?_
    refine thn (rE _ s10 σ8 H10 (.ref D) [v] (.ref D) [y] (fun _ Hn=>Hn=upd H10 D (.lst (xs++[v]))) I10 rfl (.cons ry .nil) ⟨D,xs,v,rfl,rfl,hD10,hz,rfl⟩) fun _ s11 ⟨_,H11,I11,_,e11⟩=>?_
    subst e11
    obtain ⟨a1,a2,a3⟩:=again I11
    exact ⟨m',lm,i + 1,_,_,a1,a2,a3,w10⟩
 exact codeAny_compStart_list loop (Tn.self _ 0 _ _ _ st4 loop)
theorem wu (hc:X.calm=true) (T V:List Str) (ix:List Nat) (hi:PI X tg iter wi)
 (hg:∀ cl C s3 H3 fp,PG (blk X (T++V) scope cl C s3 H3 fp) tg g) (ht:∀ cl C s3 H3 fp,PTs (blk X (T++V) scope cl C s3 H3 fp) ifs tt) (he:∀ cl C s3 H3 fp,PE (blk X (T++V) scope cl C s3 H3 fp) elt te)
 (hB:mG X.N X.env.scope.names scope.names V ix=true:=by rfl) (hk:scope.kind = .function:=by rfl) (hcell:∀ y ∈ scope.names,y.2 ≠ .cell:=by decide +kernel)
 (hnames:∀ x ∈ scope.names,x.2 = .local→scope.names.lookup x.1=some .local:=by decide +kernel)
 (hfr:∀ x ∈ scope.names,x.2 = .free→x.1 ∈ V:=by decide +kernel) (hs:∀ x,foldedSetIterable iter X.env x=pure x:=by intro _;rfl) :
 PE X (.ListComp elt [⟨tg,iter,ifs,0⟩] scope pos) (tK wi g tt te T.length (mH T.length ix)):=by
 intro pins s σ H Q I h
 rw [eval_ListComp]
 refine rJ (use:=none) hc hi hg ht he hB hk hcell hnames hfr hs I h fun D C H' s' m I' fC hn q=>⟨m,hn,fun h' sb=>⟨.ref D,H',?_,rfl,q⟩⟩
 obtain ⟨z0,z1,z2,z3,z4,z5⟩:=fC
 exact I'.turned (t':=s'.toks) (fun b o hb e=>sb.extBut b o hb e) z0 z1 z3 z4 z5
end
section
variable {X:Cx} {K:PySem.W.Frag}
end
end My
namespace D3
open PySem
abbrev D:=PyData
inductive U where
 | d (x:D)
 | x (c f:Str) (v:D)
abbrev DS:=List (Option U)
inductive Oc where
 | nx (δ:DS)
 | rt (d:D)
 | bk (δ:DS)
 | ct (δ:DS)
 | ex (c f:Str) (v:D)
abbrev FE:=DS→Option D
abbrev FA:=DS→Option (List D)
abbrev FT:=DS→Option Bool
abbrev FS:=DS→Option Oc
abbrev FG:=D→DS→Option DS
def isX:List (D × D)→Bool
 | [(.none,.tuple [.int _,.str _,_])]=>true
 | _=>false
theorem tL {kvs:List (D × D)} (h:isX kvs=true):∃ i x d,kvs=[(.none,.tuple [.int i,.str x,d])]:=by
 unfold isX at h
 split at h
 ·exact ⟨_,_,_,rfl⟩
 ·cases h
mutual
def flat:D→Bool
 | .none=>true
 | .bool _=>true
 | .int _=>true
 | .str _=>true
 | .list _=>false
 | .tuple xs=>flats xs
 | .dict kvs=>isX kvs
def flats:List D→Bool
 | []=>true
 | x :: r=>flat x && flats r
end
mutual
def nl:D→Nat
 | .none=>0
 | .bool _=>0
 | .int _=>0
 | .str _=>0
 | .list xs=>nls xs + 1
 | .tuple xs=>nls xs
 | .dict kvs=>cond (isX kvs) 0 1
def nls:List D→Nat
 | []=>0
 | x :: r=>nl x + nls r
end
def fl1:D→Bool
 | .list xs=>flats xs
 | d=>flat d
def ak (i:Nat):FE:=fun δ=>match δ[i]? with
 | some (some (.d x))=>some x
 | _=>none
def dC (d:D):FE:=fun _=>some d
def dOp (g:D→D→Option D) (fa fb:FE):FE:=fun δ=>(fa δ).bind fun x=>(fb δ).bind fun y=>g x y
def dUn (g:D→Option D) (fa:FE):FE:=fun δ=>(fa δ).bind g
def bH:FA:=fun _=>some []
def ao (fa:FE) (fr:FA):FA:=fun δ=>(fa δ).bind fun x=>(fr δ).bind fun r=>some (x :: r)
def dTup (fa:FA):FE:=fun δ=>(fa δ).bind fun l=>if l.length ≤ sizeLine then some (.tuple l) else none
def gP (fa:FA):FE:=fun δ=>(fa δ).bind fun l=>if l.length ≤ sizeLine then some (.list l) else none
def dCall (F:List D→Option D) (fa:FA):FE:=fun δ=>(fa δ).bind F
def yW (fa:FE):FE:=fun δ=>(fa δ).bind fun d=>if flat d=true then some d else none
def dN1 (fa:FE):FE:=fun δ=>(fa δ).bind fun d=>if decide (nl d ≤ 1)=true then some d else none
def oY (fa:FE):FE:=fun δ=>(fa δ).bind fun d=>if fl1 d=true then some d else none
def tM (fa fb:FE):FE:=fun δ=>(fa δ).bind fun x=>match x with
 | .bool true=>fb δ
 | .bool false=>some (.bool false)
 | _=>none
def dOr (fa fb:FE):FE:=fun δ=>(fa δ).bind fun x=>match x with
 | .bool true=>some (.bool true)
 | .bool false=>fb δ
 | _=>none
def wA (fa:FE):FE:=fun δ=>(fa δ).bind fun x=>match x with
 | .bool b=>some (.bool (!b))
 | _=>none
def dIf (c:FT) (fa fb:FE):FE:=fun δ=>(c δ).bind fun b=>if b=true then fa δ else fb δ
def bT (fa:FE):FT:=fun δ=>(fa δ).bind fun x=>match x with
 | .bool b=>some b
 | _=>none
def q_ (a b:FT):FT:=fun δ=>(a δ).bind fun x=>if x=true then b δ else some false
def tOr (a b:FT):FT:=fun δ=>(a δ).bind fun x=>if x=true then some true else b δ
def iH (a:FT):FT:=fun δ=>(a δ).map fun x=>!x
def iM:FS:=fun δ=>some (.nx δ)
def dw (a b:FS):FS:=fun δ=>(a δ).bind fun o=>match o with
 | .nx δ'=>b δ'
 | o=>some o
def D_ (i:Nat) (fe:FE):FS:=fun δ=>(fe δ).bind fun d=>some (.nx (δ.set i (some (.d d))))
def sIf (c:FT) (a b:FS):FS:=fun δ=>(c δ).bind fun t=>if t=true then a δ else b δ
def dY (fe:FE):FS:=fun δ=>(fe δ).bind fun d=>some (.rt d)
def Ea:FS:=fun _=>some (.rt .none)
def yX (fe:FE):FS:=fun δ=>(fe δ).bind fun _=>some (.nx δ)
def sBk:FS:=fun δ=>some (.bk δ)
def sCt:FS:=fun δ=>some (.ct δ)
def gN (i:Nat):FG:=fun d δ=>some (δ.set i (some (.d d)))
def Eb:List D→DS→Option DS:=fun l δ=>match l with
 | []=>some δ
 | _=>none
def Av (g:FG) (r:List D→DS→Option DS):List D→DS→Option DS:=fun l δ=>match l with
 | d :: l'=>(g d δ).bind fun δ'=>r l' δ'
 | []=>none
def Ec (fe:FE) (g:FG):FS:=fun δ=>(fe δ).bind fun d=>(g d δ).bind fun δ'=>some (.nx δ')
def iQ (g:FG) (b:FS):List D→DS→Option Oc
 | [],δ=>some (.nx δ)
 | d :: r,δ=>(g d δ).bind fun δ1=>(b δ1).bind fun o=>match o with
  | .nx δ'=>iQ g b r δ'
  | .ct δ'=>iQ g b r δ'
  | .bk δ'=>some (.nx δ')
  | .rt v=>some (.rt v)
  | .ex c f v=>some (.ex c f v)
def tO (fi:FA) (g:FG) (b:FS):FS:=fun δ=>(fi δ).bind fun l=>iQ g b l δ
open Classical in
def fnD (p q:Nat) (b:FS):List D→Option D:=fun ds=>if ds.length=p then match b (ds.map (fun d=>some (.d d))++bC q none) with
    | some (.rt d)=>some d
    | some (.nx _)=>some .none
    | _=>none
 else none
def jx (t:Nat) (ix:List Nat) (δ:DS):DS:=bC t none++ix.map fun j=>(δ[j]?).getD none
def d_ (g:FG) (c:FT) (e:FE) (δ:DS):List D→Option (List D)
 | []=>some []
 | d :: r=>(g d δ).bind fun δ1=>(c δ1).bind fun b=>if b=true then (e δ1).bind fun x=>(d_ g c e δ r).bind fun l=>some (x :: l) else d_ g c e δ r
def iR (fi:FA) (g:FG) (c:FT) (e:FE) (t:Nat) (ix:List Nat):FE:=fun δ=>(fi δ).bind fun l=>if l.length ≤ 100000 then (d_ g c e (jx t ix δ) l).bind fun r=>some (.list r) else none
def gw:FT:=fun _=>some true
def gI (g:Int→Int→Option D):D→D→Option D:=fun x y=>match x,y with
 | .int i,.int j=>g i j
 | _,_=>none
def pIx (n:Nat) (i:Int):Option Nat:=if 0 ≤ i then (if i < n then some i.toNat else none) else if -(n:Int) ≤ i then some (i + n).toNat else none
def pAt (xs:List D) (i:Int):Option D:=(pIx xs.length i).bind fun j=>xs[j]?
def isT (c T:String):Bool:=T == c || (T == "bool" && c == "int")
def cL (i:Nat) (fe:FE):FS:=fun δ=>if i < δ.length then D_ i fe δ else none
def iw:D→D→Option D:=gI fun i j=>some (.int (i + j))
def Aw:D→D→Option D:=gI fun i j=>some (.int (i - j))
def j8 (i j:Int):Bool:=decide (i.natAbs < 2 ^ 64) || decide (j.natAbs < 2 ^ 64) || (decide (i.natAbs < 2 ^ 30000) && decide (j.natAbs < 2 ^ 30000))
def iy:D→D→Option D:=gI fun i j=>if j8 i j=true then some (.int (i * j)) else none
def oZ (_ j:Int):Bool:=decide (j ≠ 0) && decide (j.natAbs < 2 ^ 9000)
def nD:D→D→Option D:=gI fun i j=>if oZ i j=true then some (.int (i.fdiv j)) else none
def jf:D→D→Option D:=gI fun i j=>if decide (j ≠ 0)=true then some (.int (i.fmod j)) else none
def Ax (i j:Int):Bool:=decide (0 ≤ j) && decide (j ≤ 1000) && decide (i.natAbs < 2 ^ 64)
def mJ:D→D→Option D:=gI fun i j=>if Ax i j=true then some (.int (i ^ j.toNat)) else none
def gLt:D→D→Option D:=gI fun i j=>some (.bool (decide (i < j)))
def gLe:D→D→Option D:=gI fun i j=>some (.bool (decide (i ≤ j)))
def gGt:D→D→Option D:=gI fun i j=>some (.bool (decide (j < i)))
def gGe:D→D→Option D:=gI fun i j=>some (.bool (decide (j ≤ i)))
def gEq:D→D→Option D:=fun x y=>if (SeqAt.shaped x && SeqAt.shaped y)=true then some (.bool (PyData.eqv x y)) else none
def gNe:D→D→Option D:=fun x y=>if (SeqAt.shaped x && SeqAt.shaped y)=true then some (.bool (!PyData.eqv x y)) else none
def gNl (i:Nat):FG:=fun d δ=>if i < δ.length then gN i d δ else none
def gTn (n:Nat) (g:List D→DS→Option DS):FG:=fun d δ=>match d with
 | .tuple l=>if l.length=n then g l δ else none
 | _=>none
def Ed (i:Nat) (f:FE):FS:=fun δ=>(ak i δ).bind fun x=>(f δ).bind fun d=>match x with
 | .list l=>if l.length < 1000000 then some (.nx (δ.set i (some (.d (.list (l++[d])))))) else none
 | _=>none
def Ef (i:Nat) (fk f:FE):FS:=fun δ=>(f δ).bind fun d=>(ak i δ).bind fun x=>(fk δ).bind fun k=>match x,k with
 | .list l,.int j=>(pIx l.length j).bind fun n=>some (.nx (δ.set i (some (.d (.list (l.set n d))))))
 | _,_=>none
def asList:D→Option (List D)
 | .list l=>some l
 | _=>none
def tQ (f:FE):FA:=fun δ=>(f δ).bind asList
def cY (lo hi:Int):List D:=(fu (hi - lo).toNat).map fun (k:Nat)=>.int (lo + (k:Int))
def j9 (i:Int):Bool:=decide (-(2 ^ 62) ≤ i) && decide (i < 2 ^ 62)
def jg (fa:FA):FA:=fun δ=>(fa δ).bind fun l=>match l with
 | [.int j]=>if j9 j=true then some (cY 0 j) else none
 | _=>none
def yZ (fa:FA):FA:=fun δ=>(fa δ).bind fun l=>match l with
 | [.int i,.int j]=>if (j9 i && j9 j)=true then some (cY i j) else none
 | _=>none
def gIx:D→D→Option D:=fun x y=>match x,y with
 | .list l,.int i=>pAt l i
 | .tuple l,.int i=>pAt l i
 | _,_=>none
def mK (g g':D→D→Option D) (fa fb fc:FE):FE:=fun δ=>(fa δ).bind fun x=>(fb δ).bind fun y=>(g x y).bind fun z=>match z with
 | .bool true=>(fc δ).bind fun w=>g' y w
 | .bool false=>some (.bool false)
 | _=>none
def pR (g g' g'':D→D→Option D) (fa fb fc fd:FE):FE:=fun δ=>(fa δ).bind fun x=>(fb δ).bind fun y=>(g x y).bind fun z=>match z with
 | .bool true=>(fc δ).bind fun w=>(g' y w).bind fun z'=>match z' with
  | .bool true=>(fd δ).bind fun u=>g'' w u
  | .bool false=>some (.bool false)
  | _=>none
 | .bool false=>some (.bool false)
 | _=>none
def isNone:D→Bool
 | .none=>true
 | _=>false
def Ay:D→Option D:=fun x=>some (.bool (isNone x))
def Eh:D→Option D:=fun x=>some (.bool (!isNone x))
def nF:List D→Option D
 | [.list l]=>some (.int l.length)
 | [.tuple l]=>some (.int l.length)
 | _=>none
def j_:List D→Option (List Int)
 | []=>some []
 | .int i :: r=>(j_ r).map (i :: ·)
 | _=>none
def Ei:List D→Option D
 | [.list l]=>(j_ l).map fun ns=>.int ns.sum
 | _=>none
def HY:List D→Option D
 | [.int i]=>some (.int i)
 | [.bool b]=>some (.int (if b then 1 else 0))
 | _=>none
def G7:List D→Option D
 | [.int i]=>some (.int (if i < 0 then -i else i))
 | _=>none
def Ej:List D→Option D
 | [.int i,.int j]=>some (.int (if j > i then j else i))
 | _=>none
def Ek:List D→Option D
 | [.int i,.int j]=>some (.int (if j < i then j else i))
 | _=>none
def tyD:D→String
 | .none => "NoneType"
 | .bool _ => "bool"
 | .int _ => "int"
 | .str _ => "str"
 | .list _ => "list"
 | .tuple _ => "tuple"
 | .dict _ => "dict"
def noX:D→Bool
 | .dict kvs=>!isX kvs
 | _=>true
def gIs (c:String):D→Option D:=fun d=>if noX d=true then some (.bool (isT c (tyD d))) else none
def G8:D→Option D
 | .int i=>some (.int (-i))
 | _=>none
def gA:D→D→Option D:=fun x y=>match x,y with
 | .list l,.list m=>if l.length + m.length ≤ 1000000 then some (.list (l++m)) else none
 | _,_=>none
def zc:D→Option D
 | .list l=>some (.list l)
 | .tuple l=>some (.list l)
 | _=>none
abbrev FO:=DS→Option (Option Int)
def jh:FO:=fun _=>some none
def gk (f:FE):FO:=fun δ=>(f δ).bind fun x=>match x with
 | .int i=>some (some i)
 | _=>none
def pSx (n d:Nat):Option Int→Nat
 | none=>d
 | some i=>if i < 0 then (i + n).toNat else min i.toNat n
def cutD (xs:List D) (lo hi:Option Int):List D:=(xs.drop (pSx xs.length 0 lo)).take (pSx xs.length xs.length hi - pSx xs.length 0 lo)
def dSl (f:FE) (lo hi:FO):FE:=fun δ=>(f δ).bind fun x=>(lo δ).bind fun a=>(hi δ).bind fun b=>match x with
 | .list l=>some (.list (cutD l a b))
 | _=>none
def El (i j:Nat) (fa:FA):FS:=fun δ=>(fa δ).bind fun l=>match l with
 | [x,y]=>if i < δ.length∧j < δ.length then some (.nx ((δ.set i (some (.d x))).set j (some (.d y)))) else none
 | _=>none
def tR (l:List D):List D:=l.mapIdx fun i x=>.tuple [.int (i:Int),x]
def zf (f:FE):FA:=fun δ=>(f δ).bind fun d=>match d with
 | .list l=>some (tR l)
 | _=>none
def jr:List D→Option (List Bool)
 | []=>some []
 | .bool b :: r=>(jr r).map (b :: ·)
 | _=>none
def nG:List D→Option D
 | [.list l]=>(jr l).map fun bs=>.bool (bs.all id)
 | _=>none
def wC:List D→List D→List D
 | x :: r,y :: s=>.tuple [x,y] :: wC r s
 | _,_=>[]
def Em (f g:FE):FA:=fun δ=>(f δ).bind fun d=>(g δ).bind fun e=>match d,e with
 | .list l,.list m=>some (wC l m)
 | _,_=>none
end D3
namespace D3
open PySem PySem.Spec PyProof.Rows L2 My
abbrev Ok:=Addr→Prop
abbrev St:=L2.St
class Chg (u:HO):Prop where
 ch:(∃ xs,u = .lst xs)∨(∃ kvs,u = .dK kvs)∨∃ kvs,u = .dT kvs
instance (xs:List V):Chg (.lst xs):=⟨.inl ⟨xs,rfl⟩⟩
instance (kvs:List (Key × V)):Chg (.dK kvs):=⟨.inr (.inl ⟨kvs,rfl⟩)⟩
instance (kvs:List (List Key × V)):Chg (.dT kvs):=⟨.inr (.inr ⟨kvs,rfl⟩)⟩
theorem Chg.frz {o:Obj} {u:HO} (h:Chg (.frz o u)):False:=by
 rcases h.ch with ⟨_,z⟩ | ⟨_,z⟩ | ⟨_,z⟩ <;> cases z
theorem Chg.tup {xs:List V} (h:Chg (.tup xs)):False:=by
 rcases h.ch with ⟨_,z⟩ | ⟨_,z⟩ | ⟨_,z⟩ <;> cases z
def Chd (o:Option HO):Prop:=∃ u,o=some u∧Chg u
theorem Chd.ne {o:Option HO} (h:Chd o):o ≠ none:=by
 obtain ⟨u,rfl,_⟩:=h
 simp
def SqK (K:PySem.W.Frag) (H:Hp) (a:Addr) (xs:List V):Prop:=(∃ o,H a=some (.frz o (.lst xs))) ∨
 ∃ (o:Obj) (its:Array Value) (n:Nat),K.lookup a=some o∧o.cls = .type "list" ∧ o.dict=none∧o.data = .seq its n∧its.size ≤ sizeLine∧Vals xs its.toList
theorem SqK.sq {K:PySem.W.Frag} {H:Hp} {a:Addr} {xs:List V} (h:SqK K H a xs):SqL K H a xs:=by
 rcases h with ⟨o,h⟩ | h
 ·exact .inl (.inr ⟨o,h⟩)
 ·exact .inr h
def eV (H:Hp) (a:Addr) (xs:List V):Prop:=H a=some (.tup xs)
theorem eV.sq {K:PySem.W.Frag} {H:Hp} {a:Addr} {xs:List V} (h:eV H a xs):SqT K H a xs:=.inl (.inl h)
theorem eV.same {H H':Hp} {a:Addr} {xs:List V} (e:Same H H') (h:eV H a xs):eV H' a xs:=e _ _ h
theorem eV.upd {H:Hp} {a b:Addr} {xs:List V} {u o:HO} [cu:Chg u] (h:H a=some u) (q:eV H b xs):eV (upd H a o) b xs:=by
 unfold eV
 rw [bK (ni q h (by intro z;subst z;exact cu.tup))]
 exact q
def dk0:List (D × D)→List (Key × V)
 | []=>[]
 | (.int i,.int j) :: r=>(.inl i,.int j) :: dk0 r
 | (.int i,.bool true) :: r=>(.inl i,.bl true) :: dk0 r
 | _ :: r=>(.inl 0,.non) :: dk0 r
def tkK:List D→Option (List Key)
 | []=>some []
 | .int i :: r=>(tkK r).map (.inl i :: ·)
 | _=>none
def tkD:List (D × D)→Option (List (List Key × V))
 | []=>some []
 | (.tuple l,.bool true) :: r=>(tkK l).bind fun k=>(tkD r).map ((k,.bl true) :: ·)
 | _=>none
def dh0 (kvs:List (D × D)):HO:=match kvs with
 | []=>.dK []
 | q :: r=>match tkD (q :: r) with
  | some ts=>.dT ts
  | none=>.dK (dk0 (q :: r))
theorem tU (kvs:List (D × D)):(∃ ks,dh0 kvs = .dK ks)∨∃ ks,dh0 kvs = .dT ks:=by
 cases kvs with
 | nil=>exact .inl ⟨_,rfl⟩
 | cons q r =>
  unfold dh0
  dsimp only
  split
  ·exact .inr ⟨_,rfl⟩
  ·exact .inl ⟨_,rfl⟩
instance (kvs:List (D × D)):Chg (dh0 kvs):=⟨by
 rcases tU kvs with ⟨ks,z⟩ | ⟨ks,z⟩
 ·exact .inr (.inl ⟨ks,z⟩)
 ·exact .inr (.inr ⟨ks,z⟩)⟩
def scV:D→V
 | .int i=>.int i
 | _=>.non
def scs:List D→Bool
 | []=>true
 | .int _ :: r=>scs r
 | .none :: r=>scs r
 | _=>false
def TV (H:Hp) (v:V) (d:D):Prop:=(v = .non∧d = .none)∨∃ b ds,v = .ref b∧d = .tuple ds∧eV H b (ds.map scV)∧scs ds=true
inductive TVs (H:Hp):List (Key × V)→List (D × D)→Prop
 | nil:TVs H [] []
 | cons {i:Int} {v:V} {d:D} {r:List (Key × V)} {r':List (D × D)}:TV H v d→TVs H r r'→TVs H ((.inl i,v) :: r) ((.int i,d) :: r')
theorem TV.imp {H H':Hp} (h:∀ b xs,eV H b xs→eV H' b xs) {v:V} {d:D} (q:TV H v d):TV H' v d:=by
 rcases q with q | ⟨b,ds,h1,h2,h3,h4⟩
 ·exact .inl q
 ·exact .inr ⟨b,ds,h1,h2,h _ _ h3,h4⟩
theorem TVs.imp {H H':Hp} (h:∀ b xs,eV H b xs→eV H' b xs) {ks:List (Key × V)} {kvs:List (D × D)} (q:TVs H ks kvs):TVs H' ks kvs:=by
 induction q with
 | nil=>exact .nil
 | cons t _ ih=>exact .cons (t.imp h) ih
def rK:List (D × D)→Bool
 | []=>true
 | (_,.int _) :: r=>rK r
 | (_,.bool _) :: r=>rK r
 | _=>false
def TW (H:Hp) (v:V) (m:List Int) (z:Int):Prop:=∃ b c,v = .ref b∧eV H b [.ref c,.int z]∧eV H c (m.map V.int)
inductive TTs (H:Hp):List (List Key × V)→List (D × D)→Prop
 | nil:TTs H [] []
 | cons {k m:List Int} {z:Int} {v:V} {r:List (List Key × V)} {r':List (D × D)}:TW H v m z→TTs H r r'→TTs H ((k.map Sum.inl,v) :: r) ((.tuple (k.map .int),.tuple [.tuple (m.map .int),.int z]) :: r')
theorem TTs.imp {H H':Hp} (h:∀ b xs,eV H b xs→eV H' b xs) {ks:List (List Key × V)} {kvs:List (D × D)} (q:TTs H ks kvs):TTs H' ks kvs:=by
 induction q with
 | nil=>exact .nil
 | cons t _ ih =>
  obtain ⟨b,c,h1,h2,h3⟩:=t
  exact .cons ⟨b,c,h1,h _ _ h2,h _ _ h3⟩ ih
def DH (H:Hp) (u:HO) (kvs:List (D × D)):Prop:=(rK kvs=true∧u=dh0 kvs)∨(∃ ks,u = .dK ks∧TVs H ks kvs)∨∃ q ks,u = .dT (q :: ks)∧TTs H (q :: ks) kvs
theorem DH.imp {H H':Hp} (h:∀ b xs,eV H b xs→eV H' b xs) {u:HO} {kvs:List (D × D)} (q:DH H u kvs):DH H' u kvs:=by
 rcases q with q | ⟨ks,q1,q2⟩ | ⟨k,ks,q1,q2⟩
 ·exact .inl q
 ·exact .inr (.inl ⟨ks,q1,q2.imp h⟩)
 ·exact .inr (.inr ⟨k,ks,q1,q2.imp h⟩)
theorem DH.same {H H':Hp} {u:HO} {kvs:List (D × D)} (q:DH H u kvs) (e:Same H H'):DH H' u kvs:=q.imp fun _ _ h=>eV.same e h
theorem DH.upd {H:Hp} {a:Addr} {u o u':HO} [cu:Chg u] {kvs:List (D × D)} (q:DH H u' kvs) (h:H a=some u):DH (upd H a o) u' kvs:=q.imp fun _ _ z=>eV.upd h z
theorem DH.or {H:Hp} {u:HO} {kvs:List (D × D)} (q:DH H u kvs):(∃ ks,u = .dK ks)∨∃ ks,u = .dT ks:=by
 rcases q with ⟨_,rfl⟩ | ⟨ks,rfl,_⟩ | ⟨k,ks,rfl,_⟩
 ·exact tU kvs
 ·exact .inl ⟨ks,rfl⟩
 ·exact .inr ⟨_,rfl⟩
theorem DH.isX {H:Hp} {u:HO} {kvs:List (D × D)} (q:DH H u kvs):D3.isX kvs=false:=by
 cases h:D3.isX kvs with
 | false=>rfl
 | true =>
  obtain ⟨i,x,d,rfl⟩:=tL h
  rcases q with ⟨z,_⟩ | ⟨ks,_,z⟩ | ⟨k,ks,_,z⟩
  ·cases z
  ·cases z
  ·generalize k :: ks=l at z
   generalize he:[((PyData.none,PyData.tuple [.int i,.str x,d]):D × D)]=m at z
   cases z with
   | nil=>cases he
   | cons _ _=>cases he
def scR (v:V) (d:D):Prop:=(v = .non∧d = .none)∨(∃ b,v = .bl b∧d = .bool b)∨(∃ i,v = .int i∧d = .int i)∨∃ x,v = .str x∧d = .str x
def ExO (H:Hp) (a C:Addr) (f:Str) (v:V):Prop:=∃ dx vs sl od,H a=some (.frz ⟨.ref C,some dx,.fields vs,sl⟩ (.ext fun _=>True))∧H dx=some (.frz od (.xd [(f,v)]))
theorem ExO.same {H H':Hp} {a C:Addr} {f:Str} {v:V} (e:Same H H') (h:ExO H a C f v):ExO H' a C f v:=by
 obtain ⟨dx,vs,sl,od,h1,h2⟩:=h
 exact ⟨dx,vs,sl,od,e _ _ h1,e _ _ h2⟩
theorem ExO.upd {H:Hp} {a b C:Addr} {f:Str} {v:V} {u o:HO} [cu:Chg u] (h:H a=some u) (q:ExO H b C f v):ExO (upd H a o) b C f v:=by
 obtain ⟨dx,vs,sl,od,h1,h2⟩:=q
 refine ⟨dx,vs,sl,od,?_,?_⟩
 ·rw [bK (ni h1 h (by intro z;subst z;exact cu.frz))]
  exact h1
 ·rw [bK (ni h2 h (by intro z;subst z;exact cu.frz))]
  exact h2
theorem DH.chg {H:Hp} {u:HO} {kvs:List (D × D)} (q:DH H u kvs):Chg u:=⟨.inr q.or⟩
theorem DH.old {H:Hp} {u:HO} {kvs:List (D × D)} (q:DH H u kvs) (h:rK kvs=true):u=dh0 kvs:=by
 rcases q with q | ⟨ks,rfl,q⟩ | ⟨k,ks,rfl,q⟩
 ·exact q.2
 ·cases q with
  | nil=>rfl
  | cons t _ =>
   rcases t with ⟨_,rfl⟩ | ⟨_,_,_,rfl,_,_⟩ <;> cases h
 ·cases q with
  | cons _ _=>cases h
theorem wD {kvs:List (D × D)} (h:rK kvs=true):isX kvs=false:=by
 cases q:isX kvs with
 | false=>rfl
 | true =>
  obtain ⟨i,x,d,rfl⟩:=tL q
  cases h
mutual
inductive RA (K:PySem.W.Frag) (ok:Ok) (pl:Bool) (H:Hp):V→D→Prop
 | non:RA K ok pl H .non .none
 | bl (b:Bool):RA K ok pl H (.bl b) (.bool b)
 | int (i:Int):RA K ok pl H (.int i) (.int i)
 | str (x:Str):RA K ok pl H (.str x) (.str x)
 | lst {a:Addr} {xs:List V} {ds:List D}:H a=some (.lst xs)→ok a→RAs K ok pl H xs ds→RA K ok pl H (.ref a) (.list ds)
 | lsk {a:Addr} {xs:List V} {ds:List D}:SqK K H a xs→pl=true→RAs K ok pl H xs ds→RA K ok pl H (.ref a) (.list ds)
 | tup {a:Addr} {xs:List V} {ds:List D}:eV H a xs→RAs K ok pl H xs ds→RA K ok pl H (.ref a) (.tuple ds)
 | dic {a:Addr} {u:HO} {kvs:List (D × D)}:H a=some u→DH H u kvs→ok a→RA K ok pl H (.ref a) (.dict kvs)
 | dik {a:Addr} {u:HO} {kvs:List (D × D)} {o:Obj}:H a=some (.frz o u)→DH H u kvs→pl=true→RA K ok pl H (.ref a) (.dict kvs)
 | exc {a C:Addr} {f:Str} {v:V} {d:D}:ExO H a C f v→scR v d→RA K ok pl H (.ref a) (.dict [(.none,.tuple [.int (C:Int),.str f,d])])
inductive RAs (K:PySem.W.Frag) (ok:Ok) (pl:Bool) (H:Hp):List V→List D→Prop
 | nil:RAs K ok pl H [] []
 | cons {v:V} {d:D} {vs:List V} {ds:List D}:RA K ok pl H v d→RAs K ok pl H vs ds→RAs K ok pl H (v :: vs) (d :: ds)
end
section
variable {K:PySem.W.Frag} {ok ok':Ok} {pl pl':Bool} {H H':Hp}
theorem RA.ind {P:V→D→Prop} {Q:List V→List D→Prop} (c1:P .non .none) (c2:∀ b,P (.bl b) (.bool b)) (c3:∀ i,P (.int i) (.int i)) (c4:∀ x,P (.str x) (.str x))
 (c5:∀ {a:Addr} {xs:List V} {ds:List D},H a=some (.lst xs)→ok a→Q xs ds→P (.ref a) (.list ds)) (c6:∀ {a:Addr} {xs:List V} {ds:List D},SqK K H a xs→pl=true→Q xs ds→P (.ref a) (.list ds)) (c7:∀ {a:Addr} {xs:List V} {ds:List D},eV H a xs→Q xs ds→P (.ref a) (.tuple ds))
 (c8:∀ {a:Addr} {u:HO} {kvs:List (D × D)},H a=some u→DH H u kvs→ok a→P (.ref a) (.dict kvs)) (c9:∀ {a:Addr} {u:HO} {kvs:List (D × D)} {o:Obj},H a=some (.frz o u)→DH H u kvs→pl=true→P (.ref a) (.dict kvs)) (c12:∀ {a C:Addr} {f:Str} {v:V} {d:D},ExO H a C f v→scR v d→P (.ref a) (.dict [(.none,.tuple [.int (C:Int),.str f,d])])) (c10:Q [] []) (c11:∀ {v:V} {d:D} {vs:List V} {ds:List D},P v d→Q vs ds→Q (v :: vs) (d :: ds)) :
 (∀ {v:V} {d:D},RA K ok pl H v d→P v d)∧∀ {v:List V} {d:List D},RAs K ok pl H v d→Q v d :=
 ⟨fun h=>RA.rec (motive_1:=fun v d _=>P v d) (motive_2:=fun v d _=>Q v d) c1 c2 c3 c4 (fun h o _ q=>c5 h o q) (fun h o _ q=>c6 h o q) (fun h _ q=>c7 h q) (fun h g o=>c8 h g o) (fun h g o=>c9 h g o) (fun h g=>c12 h g) c10 (fun _ _ a q=>c11 a q) h,
  fun h=>RAs.rec (motive_1:=fun v d _=>P v d) (motive_2:=fun v d _=>Q v d) c1 c2 c3 c4 (fun h o _ q=>c5 h o q) (fun h o _ q=>c6 h o q) (fun h _ q=>c7 h q) (fun h g o=>c8 h g o) (fun h g o=>c9 h g o) (fun h g=>c12 h g) c10 (fun _ _ a q=>c11 a q) h⟩
theorem RA.imp2 (ho:∀ a,ok a→ok' a) (hp:pl=true→pl'=true):(∀ {v:V} {d:D},RA K ok pl H v d→RA K ok' pl' H v d)∧∀ {v:List V} {d:List D},RAs K ok pl H v d→RAs K ok' pl' H v d :=
 RA.ind .non .bl .int .str (fun h o q=>.lst h (ho _ o) q) (fun h o q=>.lsk h (hp o) q) (fun h q=>.tup h q) (fun h g o=>.dic h g (ho _ o)) (fun h g o=>.dik h g (hp o)) (fun h g=>.exc h g) .nil .cons
theorem RA.imp (ho:∀ a,ok a→ok' a) (hp:pl=true→pl'=true) {v:V} {d:D} (h:RA K ok pl H v d):RA K ok' pl' H v d:=(RA.imp2 ho hp).1 h
theorem RAs.imp (ho:∀ a,ok a→ok' a) (hp:pl=true→pl'=true) {v:List V} {d:List D} (h:RAs K ok pl H v d):RAs K ok' pl' H v d:=(RA.imp2 ho hp).2 h
theorem SqK.same {a:Addr} {xs:List V} (e:Same H H') (h:SqK K H a xs):SqK K H' a xs:=by
 rcases h with ⟨o,h⟩ | h
 ·exact .inl ⟨o,e _ _ h⟩
 ·exact .inr h
theorem RA.same2 (e:Same H H'):(∀ {v:V} {d:D},RA K ok pl H v d→RA K ok pl H' v d)∧∀ {v:List V} {d:List D},RAs K ok pl H v d→RAs K ok pl H' v d :=
 RA.ind .non .bl .int .str (fun h o q=>.lst (e _ _ h) o q) (fun h o q=>.lsk (h.same e) o q) (fun h q=>.tup (eV.same e h) q) (fun h g o=>.dic (e _ _ h) (g.same e) o) (fun h g o=>.dik (e _ _ h) (g.same e) o) (fun h g=>.exc (h.same e) g) .nil .cons
theorem RA.same (e:Same H H') {v:V} {d:D} (h:RA K ok pl H v d):RA K ok pl H' v d:=(RA.same2 e).1 h
theorem RAs.same (e:Same H H') {v:List V} {d:List D} (h:RAs K ok pl H v d):RAs K ok pl H' v d:=(RA.same2 e).2 h
theorem RA.flat2:(∀ {v:V} {d:D},RA K ok pl H v d→flat d=true→RA K ok' pl' H v d)∧∀ {v:List V} {d:List D},RAs K ok pl H v d→flats d=true→RAs K ok' pl' H v d :=
 RA.ind (fun _=>.non) (fun b _=>.bl b) (fun i _=>.int i) (fun x _=>.str x) (fun _ _ _ h=>by simp [D3.flat] at h) (fun _ _ _ h=>by simp [D3.flat] at h) (fun t q h=>.tup t (q (by simpa [D3.flat] using h))) (fun _ g _ h=>by rw [D3.flat,g.isX] at h;cases h) (fun _ g _ h=>by rw [D3.flat,g.isX] at h;cases h) (fun h g _=>.exc h g) (fun _=>.nil) fun a q h=>by
  rw [flats,aN] at h
  exact .cons (a h.1) (q h.2)
theorem RA.flat {v:V} {d:D} (hf:flat d=true) (h:RA K ok pl H v d):RA K ok' pl' H v d:=RA.flat2.1 h hf
theorem RAs.flat {v:List V} {d:List D} (hf:flats d=true) (h:RAs K ok pl H v d):RAs K ok' pl' H v d:=RA.flat2.2 h hf
theorem SqK.upd {a b:Addr} {xs:List V} {u o:HO} [cu:Chg u] (h:H a=some u) (q:SqK K H b xs):SqK K (upd H a o) b xs:=by
 rcases q with ⟨o',q⟩ | q
 ·refine .inl ⟨o',?_⟩
  rw [bK (ni q h (by intro z;subst z;first | exact cu.frz | exact cu.tup))]
  exact q
 ·exact .inr q
theorem RA.upd2 {a:Addr} {u o:HO} [cu:Chg u] (h:H a=some u) (na:¬ ok a):(∀ {v:V} {d:D},RA K ok pl H v d→RA K ok pl (upd H a o) v d)∧∀ {v:List V} {d:List D},RAs K ok pl H v d→RAs K ok pl (upd H a o) v d :=
 RA.ind .non .bl .int .str (fun e k q=>.lst (by rw [bK (by intro z;subst z;exact na k)];exact e) k q) (fun e k q=>.lsk (e.upd h) k q) (fun e q=>.tup (eV.upd h e) q) (fun e g k=>.dic (by rw [bK (by intro z;subst z;exact na k)];exact e) (g.upd h) k) (fun e g k=>.dik (by rw [bK (ni e h (by intro z;subst z;exact cu.frz))];exact e) (g.upd h) k) (fun q g=>.exc (q.upd h) g) .nil .cons
theorem RAs.upd {a:Addr} {u o:HO} [cu:Chg u] (h:H a=some u) (na:¬ ok a) {v:List V} {d:List D} (r:RAs K ok pl H v d):RAs K ok pl (upd H a o) v d:=(RA.upd2 h na).2 r
theorem RA.track2:(∀ {v:V} {d:D},RA K ok pl H v d→RA K (fun b=>ok b∧H b ≠ none) pl H v d)∧∀ {v:List V} {d:List D},RAs K ok pl H v d→RAs K (fun b=>ok b∧H b ≠ none) pl H v d :=
 RA.ind .non .bl .int .str (fun e k q=>.lst e ⟨k,by rw [e];simp⟩ q) (fun e k q=>.lsk e k q) (fun e q=>.tup e q) (fun e g k=>.dic e g ⟨k,by rw [e];simp⟩) (fun e g k=>.dik e g k) (fun q g=>.exc q g) .nil .cons
theorem RAs.track {v:List V} {d:List D} (h:RAs K ok pl H v d):RAs K (fun b=>ok b∧H b ≠ none) pl H v d:=RA.track2.2 h
theorem RAs.length:∀ {v:List V} {d:List D},RAs K ok pl H v d→v.length=d.length
 | _,_,.nil=>rfl
 | _,_,.cons _ q=>by simp [RAs.length q]
theorem RAs.get:∀ {v:List V} {d:List D} {i:Nat} {x:D},RAs K ok pl H v d→d[i]? = some x→∃ y,v[i]? = some y∧RA K ok pl H y x
 | _,_,_,_,.nil,h=>by simp at h
 | _,_,0,_,.cons a _,h=>by simp at h;subst h;exact ⟨_,rfl,a⟩
 | _,_,i + 1,_,.cons _ q,h=>by
  obtain ⟨y,e,r⟩:=RAs.get (i:=i) q (by simpa using h)
  exact ⟨y,by simpa using e,r⟩
theorem RAs.append:∀ {v v':List V} {d d':List D},RAs K ok pl H v d→RAs K ok pl H v' d'→RAs K ok pl H (v++v') (d++d')
 | _,_,_,_,.nil,q=>q
 | _,_,_,_,.cons a r,q=>.cons a (RAs.append r q)
theorem RAs.set {x:V} {y:D} (r:RA K ok pl H x y):∀ {v:List V} {d:List D} (i:Nat),RAs K ok pl H v d→RAs K ok pl H (v.set i x) (d.set i y)
 | _,_,_,.nil=>.nil
 | _,_,0,.cons _ q=>.cons r q
 | _,_,i + 1,.cons a q=>.cons a (RAs.set r i q)
theorem RAs.take:∀ {v:List V} {d:List D} (n:Nat),RAs K ok pl H v d→RAs K ok pl H (v.take n) (d.take n)
 | _,_,0,_=>by simp;exact .nil
 | _,_,_ + 1,.nil=>.nil
 | _,_,n + 1,.cons a q=>.cons a (RAs.take n q)
theorem RAs.drop:∀ {v:List V} {d:List D} (n:Nat),RAs K ok pl H v d→RAs K ok pl H (v.drop n) (d.drop n)
 | _,_,0,q=>q
 | _,_,_ + 1,.nil=>.nil
 | _,_,n + 1,.cons _ q=>RAs.drop n q
theorem RA.rd2:(∀ {v:V} {d:D},RA K ok pl H v d→d.canLay0=true→RdV K H v d)∧∀ {v:List V} {d:List D},RAs K ok pl H v d→PyData.canLayAll0 d=true→RdVs K H v d :=
 RA.ind (fun _=>.non) (fun b _=>.bl b) (fun i _=>.int i) (fun x _=>.str x) (fun e _ q h=>.lst (SqL.of e) (q (by simpa [PyData.canLay0] using h))) (fun e _ q h=>.lst e.sq (q (by simpa [PyData.canLay0] using h))) (fun e q h=>.tup e.sq (q (by simpa [PyData.canLay0] using h))) (fun _ _ _ h=>by simp [PyData.canLay0] at h) (fun _ _ _ h=>by simp [PyData.canLay0] at h) (fun _ _ h=>by simp [PyData.canLay0] at h) (fun _=>.nil) fun a q h=>by
  rw [PyData.canLayAll0,aN] at h
  exact .cons (a h.1) (q h.2)
theorem RA.rd {v:V} {d:D} (hf:d.canLay0=true) (h:RA K ok pl H v d):RdV K H v d:=RA.rd2.1 h hf
theorem RA.intE {v:V} {i:Int} (h:RA K ok pl H v (.int i)):v = .int i:=by cases h;rfl
theorem RA.blE {v:V} {b:Bool} (h:RA K ok pl H v (.bool b)):v = .bl b:=by cases h;rfl
theorem RA.strE {v:V} {x:Str} (h:RA K ok pl H v (.str x)):v = .str x:=by cases h;rfl
theorem RA.lstE {v:V} {ds:List D} (h:RA K ok pl H v (.list ds)):∃ a xs,v = .ref a∧SqL K H a xs∧RAs K ok pl H xs ds:=by
 cases h with
 | lst e k q=>exact ⟨_,_,rfl,SqL.of e,q⟩
 | lsk e k q=>exact ⟨_,_,rfl,e.sq,q⟩
theorem RA.dicU {v:V} {kvs:List (D × D)} (h:RA K ok pl H v (.dict kvs)) (hx:isX kvs=false):∃ a u,v = .ref a∧L2.Rd H a u∧DH H u kvs:=by
 cases h with
 | dic e g k=>exact ⟨_,_,rfl,.inl e,g⟩
 | dik e g k=>exact ⟨_,_,rfl,.inr ⟨_,e⟩,g⟩
 | exc _ _=>cases hx
theorem RA.dicE {v:V} {kvs:List (D × D)} (h:RA K ok pl H v (.dict kvs)) (ho:rK kvs=true):∃ a,v = .ref a∧L2.Rd H a (dh0 kvs):=by
 obtain ⟨a,u,h1,h2,h3⟩:=h.dicU (wD ho)
 rw [h3.old ho] at h2
 exact ⟨a,h1,h2⟩
theorem RA.tupE {v:V} {ds:List D} (h:RA K ok pl H v (.tuple ds)):∃ a xs,v = .ref a∧SqT K H a xs∧RAs K ok pl H xs ds:=by
 cases h with
 | tup e q=>exact ⟨_,_,rfl,e.sq,q⟩
end
inductive Fl where
 | A
 | O
 | L
 | N
 | M
 deriving DecidableEq
def isN:Option Fl→Bool
 | some .N=>true
 | some .M=>true
 | _=>false
mutual
inductive RT (K:PySem.W.Frag) (H:Hp):V→D→List Addr→Prop
 | non:RT K H .non .none []
 | bl (b:Bool):RT K H (.bl b) (.bool b) []
 | int (i:Int):RT K H (.int i) (.int i) []
 | str (x:Str):RT K H (.str x) (.str x) []
 | lst {a:Addr} {xs:List V} {ds:List D} {as:List Addr}:H a=some (.lst xs)→RTs K H xs ds as→RT K H (.ref a) (.list ds) (a :: as)
 | tup {a:Addr} {xs:List V} {ds:List D} {as:List Addr}:eV H a xs→RTs K H xs ds as→RT K H (.ref a) (.tuple ds) as
 | dic {a:Addr} {u:HO} {kvs:List (D × D)}:H a=some u→DH H u kvs→RT K H (.ref a) (.dict kvs) [a]
 | exc {a C:Addr} {f:Str} {v:V} {d:D}:ExO H a C f v→scR v d→RT K H (.ref a) (.dict [(.none,.tuple [.int (C:Int),.str f,d])]) []
inductive RTs (K:PySem.W.Frag) (H:Hp):List V→List D→List Addr→Prop
 | nil:RTs K H [] [] []
 | cons {v:V} {d:D} {vs:List V} {ds:List D} {as bs:List Addr}:RT K H v d as→RTs K H vs ds bs→RTs K H (v :: vs) (d :: ds) (as++bs)
end
section
variable {K:PySem.W.Frag} {H H':Hp}
theorem RT.ind {P:V→D→List Addr→Prop} {Q:List V→List D→List Addr→Prop} (c1:P .non .none []) (c2:∀ b,P (.bl b) (.bool b) []) (c3:∀ i,P (.int i) (.int i) []) (c4:∀ x,P (.str x) (.str x) [])
 (c5:∀ {a:Addr} {xs:List V} {ds:List D} {as:List Addr},H a=some (.lst xs)→Q xs ds as→P (.ref a) (.list ds) (a :: as)) (c7:∀ {a:Addr} {xs:List V} {ds:List D} {as:List Addr},eV H a xs→Q xs ds as→P (.ref a) (.tuple ds) as)
 (c8:∀ {a:Addr} {u:HO} {kvs:List (D × D)},H a=some u→DH H u kvs→P (.ref a) (.dict kvs) [a]) (c12:∀ {a C:Addr} {f:Str} {v:V} {d:D},ExO H a C f v→scR v d→P (.ref a) (.dict [(.none,.tuple [.int (C:Int),.str f,d])]) []) (c10:Q [] [] []) (c11:∀ {v:V} {d:D} {vs:List V} {ds:List D} {as bs:List Addr},P v d as→Q vs ds bs→Q (v :: vs) (d :: ds) (as++bs)) :
 (∀ {v:V} {d:D} {as:List Addr},RT K H v d as→P v d as)∧∀ {v:List V} {d:List D} {as:List Addr},RTs K H v d as→Q v d as :=
 ⟨fun h=>RT.rec (motive_1:=fun v d as _=>P v d as) (motive_2:=fun v d as _=>Q v d as) c1 c2 c3 c4 (fun h _ q=>c5 h q) (fun h _ q=>c7 h q) (fun h g=>c8 h g) (fun h g=>c12 h g) c10 (fun _ _ a q=>c11 a q) h,
  fun h=>RTs.rec (motive_1:=fun v d as _=>P v d as) (motive_2:=fun v d as _=>Q v d as) c1 c2 c3 c4 (fun h _ q=>c5 h q) (fun h _ q=>c7 h q) (fun h g=>c8 h g) (fun h g=>c12 h g) c10 (fun _ _ a q=>c11 a q) h⟩
theorem RT.ra2 {ok:Ok} {pl:Bool}:(∀ {v:V} {d:D} {as:List Addr},RT K H v d as→(∀ a ∈ as,ok a)→RA K ok pl H v d)∧∀ {v:List V} {d:List D} {as:List Addr},RTs K H v d as→(∀ a ∈ as,ok a)→RAs K ok pl H v d :=
 RT.ind (fun _=>.non) (fun b _=>.bl b) (fun i _=>.int i) (fun x _=>.str x) (fun e q h=>.lst e (h _ aB) (q fun a ha=>h a (aA _ ha))) (fun e q h=>.tup e (q h)) (fun e g h=>.dic e g (h _ aB)) (fun q g _=>.exc q g) (fun _=>.nil) fun e q h=>.cons (e fun a ha=>h a (bB _ ha)) (q fun a ha=>h a (aK _ ha))
theorem RT.ra {ok:Ok} {pl:Bool} {v:V} {d:D} {as:List Addr} (r:RT K H v d as) (h:∀ a ∈ as,ok a):RA K ok pl H v d:=RT.ra2.1 r h
theorem RT.same2 (s:Same H H'):(∀ {v:V} {d:D} {as:List Addr},RT K H v d as→RT K H' v d as)∧∀ {v:List V} {d:List D} {as:List Addr},RTs K H v d as→RTs K H' v d as :=
 RT.ind .non .bl .int .str (fun e q=>.lst (s _ _ e) q) (fun e q=>.tup (eV.same s e) q) (fun e g=>.dic (s _ _ e) (g.same s)) (fun q g=>.exc (q.same s) g) .nil .cons
theorem RT.same (s:Same H H') {v:V} {d:D} {as:List Addr} (h:RT K H v d as):RT K H' v d as:=(RT.same2 s).1 h
theorem RT.chd2:(∀ {v:V} {d:D} {as:List Addr},RT K H v d as→∀ a ∈ as,Chd (H a))∧∀ {v:List V} {d:List D} {as:List Addr},RTs K H v d as→∀ a ∈ as,Chd (H a) :=
 RT.ind (fun _ h=>by cases h) (fun _ _ h=>by cases h) (fun _ _ h=>by cases h) (fun _ _ h=>by cases h) (fun e q a h=>by
  rcases bf.mp h with rfl | z
  ·exact ⟨_,e,inferInstance⟩
  ·exact q a z) (fun _ q=>q) (fun e g a h=>by rw [bN.mp h];exact ⟨_,e,g.chg⟩) (fun _ _ _ h=>by cases h) (fun _ h=>by cases h) fun e q a h=>by
  rcases bY.mp h with z | z
  ·exact e a z
  ·exact q a z
theorem RT.chd {v:V} {d:D} {as:List Addr} (r:RT K H v d as):∀ a ∈ as,Chd (H a):=RT.chd2.1 r
theorem RTs.chd {v:List V} {d:List D} {as:List Addr} (r:RTs K H v d as):∀ a ∈ as,Chd (H a):=RT.chd2.2 r
theorem RT.tracked {v:V} {d:D} {as:List Addr} (h:RT K H v d as) (a:Addr) (ha:a ∈ as):H a ≠ none:=(h.chd a ha).ne
theorem RA.rt2 {ok:Ok}:(∀ {v:V} {d:D},RA K ok false H v d→∃ as,RT K H v d as∧as.length=nl d∧∀ a ∈ as,ok a)∧∀ {v:List V} {d:List D},RAs K ok false H v d→∃ as,RTs K H v d as∧as.length=nls d∧∀ a ∈ as,ok a :=
 RA.ind ⟨[],.non,rfl,fun _ h=>by cases h⟩ (fun b=>⟨[],.bl b,rfl,fun _ h=>by cases h⟩) (fun i=>⟨[],.int i,rfl,fun _ h=>by cases h⟩) (fun x=>⟨[],.str x,rfl,fun _ h=>by cases h⟩) (fun e k q=>by
  obtain ⟨as,h1,h2,h3⟩:=q
  refine ⟨_ :: as,.lst e h1,by rw [fB,h2,nl],fun a ha=>?_⟩
  rcases bf.mp ha with rfl | z
  ·exact k
  ·exact h3 a z) (fun _ k _=>by cases k) (fun e q=>by
  obtain ⟨as,h1,h2,h3⟩:=q
  exact ⟨as,.tup e h1,by rw [h2,nl],h3⟩) (fun e g k=>⟨[_],.dic e g,by rw [nl,g.isX];rfl,fun a ha=>by rw [bN.mp ha];exact k⟩) (fun _ _ k=>by cases k) (fun q g=>⟨[],.exc q g,rfl,fun _ h=>by cases h⟩) ⟨[],.nil,rfl,fun _ h=>by cases h⟩ fun e q=>by
  obtain ⟨as,h1,h2,h3⟩:=e
  obtain ⟨bs,g1,g2,g3⟩:=q
  refine ⟨as++bs,.cons h1 g1,by rw [bM,h2,g2,nls],fun a ha=>?_⟩
  rcases bY.mp ha with z | z
  ·exact h3 a z
  ·exact g3 a z
theorem RA.rt {ok:Ok} {v:V} {d:D} (h:RA K ok false H v d):∃ as,RT K H v d as∧as.length=nl d∧∀ a ∈ as,ok a:=RA.rt2.1 h
end
def tabs:List (Addr × Str × Pos):=[]
def Tb (H:Hp):Prop:=∀ t ∈ tabs,H t.1=some (.tbl t.2.1 t.2.2)
theorem Tb.same {H H':Hp} (t:Tb H) (s:Same H H'):Tb H':=fun x hx=>s _ _ (t x hx)
structure Gh where
 H0:Hp
 HF:Hp
 pk:Nat→Option Addr
 pn:Nat→List Addr
 tb:Tb H0
structure Ow where
 s:Nat→Option Addr
 n:Nat→List Addr:=fun _=>[]
instance:CoeFun Ow (fun _=>Nat→Option Addr):=⟨Ow.s⟩
abbrev ow0:Ow:=⟨fun _=>none,fun _=>[]⟩
def okA (ow:Ow):Ok:=fun a=>(∀ i,ow i ≠ some a)∧∀ i,a ∉ ow.n i
structure Rel (K:PySem.W.Frag) (fl:List Fl) (G:Gh) (ow:Ow) (σ:St) (H:Hp) (δ:DS):Prop where
 s0:Same G.H0 G.HF
 s1:Same G.HF H
 len:σ.length=δ.length
 own:∀ i a,ow i=some a→G.H0 a=none∧((fl[i]? = some .O∧G.HF a=none)∨(fl[i]? = some .L∧∃ xs,G.HF a=some (.lst xs))) ∧
  ∃ xs ds,σ[i]? = some (some (.ref a))∧H a=some (.lst xs)∧RAs K (okA ow) true H xs ds∧δ[i]? = some (some (.d (.list ds)))
 inj:∀ i j a,ow i=some a→ow j=some a→i=j
 pin:∀ i,fl[i]? = some .L→ow i=G.pk i
 dat:∀ i d,δ[i]? = some (some (.d d))→isN fl[i]? = false→ow i=none→∃ v,σ[i]? = some (some v)∧RA K (okA ow) true H v d
 oo:∀ i d,δ[i]? = some (some (.d d))→isN fl[i]? = false→fl[i]? ≠ some .A→ow i=none→flat d=true
 nt:∀ i a,a ∈ ow.n i→G.H0 a=none∧Chd (H a)∧((fl[i]? = some .N∧G.HF a=none)∨fl[i]? = some .M)
 nd:∀ i j a,a ∈ ow.n i→a ∈ ow.n j→i=j
 ns:∀ i j a,a ∈ ow.n i→ow j ≠ some a
 np:∀ i,fl[i]? = some .M→ow.n i=G.pn i
 nr:∀ i d,isN fl[i]? = true→δ[i]? = some (some (.d d))→∃ v,σ[i]? = some (some v)∧RT K H v d (ow.n i)∧(ow.n i).Nodup
theorem Rel.tb {K:PySem.W.Frag} {fl:List Fl} {G:Gh} {ow:Ow} {σ:St} {H:Hp} {δ:DS} (R:Rel K fl G ow σ H δ):Tb H:=G.tb.same (R.s0.trans R.s1)
theorem Rel.same0 {K:PySem.W.Frag} {fl:List Fl} {G:Gh} {ow:Ow} {σ:St} {H:Hp} {δ:DS} (R:Rel K fl G ow σ H δ):Same G.H0 H:=R.s0.trans R.s1
theorem Rel.grow {K:PySem.W.Frag} {fl:List Fl} {G:Gh} {ow:Ow} {σ:St} {H H':Hp} {δ:DS} (R:Rel K fl G ow σ H δ) (e:Same H H'):Rel K fl G ow σ H' δ :=
 ⟨R.s0,R.s1.trans e,R.len,fun i a h=>by
  obtain ⟨h0,hf,xs,ds,h1,h2,h3,h4⟩:=R.own i a h
  exact ⟨h0,hf,xs,ds,h1,e _ _ h2,h3.same e,h4⟩,R.inj,R.pin,fun i d h1 hn h2=>by
  obtain ⟨v,h3,h4⟩:=R.dat i d h1 hn h2
  exact ⟨v,h3,h4.same e⟩,R.oo,fun i a h=>by
  obtain ⟨h1,h2,h3⟩:=R.nt i a h
  exact ⟨h1,(let ⟨u,z,c⟩:=h2;⟨u,e _ _ z,c⟩),h3⟩,R.nd,R.ns,R.np,fun i d h1 h2=>by
  obtain ⟨v,h3,h4,h5⟩:=R.nr i d h1 h2
  exact ⟨v,h3,h4.same e,h5⟩⟩
inductive Kd where
 | P
 | B (L:List Nat)
 | A
 | R
 | F
 | C
 | FC
 | T
def ok1:Ok:=fun _=>True
def ok0:Ok:=fun _=>False
def okN (H:Hp):Ok:=fun a=>H a=none
def Rs (K:PySem.W.Frag) (H0:Hp) (ow:Ow) (Hb H:Hp):Kd→V→D→Prop
 | .P,v,d=>RA K ok1 true H v d
 | .B L,v,d=>RA K (okA ow) true H v d∨∃ i ∈ L,∃ a xs ds,ow i=some a∧v = .ref a∧d = .list ds∧H a=some (.lst xs)∧RAs K (okA ow) true H xs ds
 | .A,v,d=>RA K (okA ow) true H v d
 | .R,v,d=>RA K (okN H0) false H v d
 | .F,v,d=>(flat d=true∧RA K ok0 false H v d)∨∃ a xs ds,v = .ref a∧d = .list ds∧Hb a=none∧H a=some (.lst xs)∧RAs K (fun b=>okA ow b∧b ≠ a) true H xs ds
 | .C,v,d=>RA K (okN Hb) false H v d
 | .T,v,d=>∃ as,RT K H v d as∧as.Nodup∧∀ a ∈ as,Hb a=none
 | .FC,v,d=>(flat d=true∧RA K ok0 false H v d)∨∃ a xs ds,v = .ref a∧d = .list ds∧Hb a=none∧H a=some (.lst xs)∧RAs K (fun b=>okN Hb b∧b ≠ a) false H xs ds
section
variable {K:PySem.W.Frag} {Hb H H':Hp} {fl:List Fl} {G:Gh} {ow:Ow} {σ:St} {δ:DS} {v:V} {d:D}
theorem mL (R:Rel K fl G ow σ Hb δ) {a:Addr} (h:Hb a=none):okA ow a:=⟨fun i e=>(by
 obtain ⟨_,_,xs,_,_,h2,_⟩:=R.own i a e
 rw [h] at h2
 cases h2),fun i e=>(R.nt i a e).2.1.ne h⟩
theorem En (R:Rel K fl G ow σ Hb δ) {a:Addr} (h:Hb a=none):okN G.H0 a:=R.same0.free h
theorem Rs.FC_F (R:Rel K fl G ow σ Hb δ) (h:Rs K G.H0 ow Hb H .FC v d):Rs K G.H0 ow Hb H .F v d:=by
 rcases h with h | ⟨a,xs,ds,h1,h2,h3,h4,h5⟩
 ·exact .inl h
 ·exact .inr ⟨a,xs,ds,h1,h2,h3,h4,h5.imp (fun b z=>⟨mL R z.1,z.2⟩) (fun _=>rfl)⟩
theorem Rs.FC_C (h:Rs K G.H0 ow Hb H .FC v d):Rs K G.H0 ow Hb H .C v d:=by
 rcases h with h | ⟨a,xs,ds,rfl,rfl,h3,h4,h5⟩
 ·exact RA.flat h.1 h.2
 ·exact .lst h4 h3 (h5.imp (fun b z=>z.1) (fun z=>z))
theorem Rs.F_A (R:Rel K fl G ow σ Hb δ) (h:Rs K G.H0 ow Hb H .F v d):Rs K G.H0 ow Hb H .A v d:=by
 rcases h with h | ⟨a,xs,ds,rfl,rfl,h3,h4,h5⟩
 ·exact RA.flat h.1 h.2
 ·exact .lst h4 (mL R h3) (h5.imp (fun b z=>z.1) (fun z=>z))
theorem Rs.C_A (R:Rel K fl G ow σ Hb δ) (h:Rs K G.H0 ow Hb H .C v d):Rs K G.H0 ow Hb H .A v d:=RA.imp (fun _ z=>mL R z) (fun _=>rfl) h
theorem Rs.C_R (R:Rel K fl G ow σ Hb δ) (h:Rs K G.H0 ow Hb H .C v d):Rs K G.H0 ow Hb H .R v d:=RA.imp (fun _ z=>En R z) (fun z=>z) h
theorem Rs.A_B (L:List Nat) (h:Rs K G.H0 ow Hb H .A v d):Rs K G.H0 ow Hb H (.B L) v d:=.inl h
theorem Rs.B_P {L:List Nat} (h:Rs K G.H0 ow Hb H (.B L) v d):Rs K G.H0 ow Hb H .P v d:=by
 rcases h with h | ⟨i,_,a,xs,ds,_,rfl,rfl,h4,h5⟩
 ·exact RA.imp (fun _ _=>trivial) (fun z=>z) h
 ·exact .lst h4 trivial (h5.imp (fun _ _=>trivial) (fun z=>z))
theorem Rs.F_fl1 (hf:fl1 d=true) (h:Rs K G.H0 ow Hb H .F v d):Rs K G.H0 ow Hb H .FC v d:=by
 rcases h with h | ⟨a,xs,ds,h1,h2,h3,h4,h5⟩
 ·exact .inl h
 ·subst h2
  exact .inr ⟨a,xs,ds,h1,rfl,h3,h4,RAs.flat hf h5⟩
end
def tD (K:PySem.W.Frag) (fl:List Fl) (k:Kd) (f:FE):TE:=fun σ H Q=>∃ G ow δ d,Rel K fl G ow σ H δ∧f δ=some d∧∀ v H',Same H H'→Rs K G.H0 ow H H' k v d→Q v H'
abbrev DE (X:Cx) (fl:List Fl) (k:Kd) (e:Expr) (f:FE):Prop:=PE X e (tD X.K fl k f)
def tDA (K:PySem.W.Frag) (fl:List Fl) (f:FA):TA:=fun σ H Q=>∃ G ow δ ds,Rel K fl G ow σ H δ∧f δ=some ds∧∀ vs H',Same H H'→RAs K ok1 true H' vs ds→Q vs H'
abbrev DA (X:Cx) (fl:List Fl) (es:List Expr) (f:FA):Prop:=PA X es (tDA X.K fl f)
def tDT (K:PySem.W.Frag) (fl:List Fl) (f:FT):TT:=fun σ H Q=>∃ G ow δ b,Rel K fl G ow σ H δ∧f δ=some b∧∀ H',Same H H'→Q b H'
abbrev DT (X:Cx) (fl:List Fl) (e:Expr) (f:FT):Prop:=PT X e (tDT X.K fl f)
abbrev DW (X:Cx) (fl:List Fl) (e:Expr) (f:FT):Prop:=PW X e (tDT X.K fl f)
def o7 (K:PySem.W.Frag) (fl:List Fl) (G:Gh) (Dn:Ends):Oc→Prop
 | .nx δ'=>∀ ow' σ' H',Rel K fl G ow' σ' H' δ'→Dn.nx σ' H'
 | .rt d=>∀ v H',Same G.H0 H'→RA K (okN G.H0) false H' v d→Dn.rt v H'
 | .bk δ'=>∀ ow' σ' H',Rel K fl G ow' σ' H' δ'→Dn.bk σ' H'
 | .ct δ'=>∀ ow' σ' H',Rel K fl G ow' σ' H' δ'→Dn.ct σ' H'
 | .ex _ _ d=>∀ v H',Same G.H0 H'→RA K ok1 true H' v d→Dn.rt v H'
def tDS (K:PySem.W.Frag) (fl:List Fl) (f:FS):TS:=fun Dn σ H=>∃ G ow δ o,Rel K fl G ow σ H δ∧f δ=some o∧o7 K fl G Dn o
abbrev DS1 (X:Cx) (fl:List Fl) (s:Stmt) (f:FS):Prop:=PS X s (tDS X.K fl f)
abbrev DSs (X:Cx) (fl:List Fl) (s:List Stmt) (f:FS):Prop:=PSs X s (tDS X.K fl f)
def tDG (K:PySem.W.Frag) (fl:List Fl) (tg:List Nat) (g:FG):TG:=fun v σ H Q=>∃ G ow δ d δ',Rel K fl G ow σ H δ∧RA K (okA ow) true H v d∧g d δ=some δ'∧∀ σ',Rel K fl G ow σ' H δ'→(∀ j,j ∉ tg→σ'[j]? = σ[j]?)→Q σ' H
abbrev DG (X:Cx) (fl:List Fl) (tg:List Nat) (e:Expr) (g:FG):Prop:=PG X e (tDG X.K fl tg g)
section
variable {X:Cx} {e:Expr} {es:List Expr} {st:Stmt} {sts:List Stmt}
theorem PE.imp {t t':TE} (h:PE X e t) (i:∀ σ H Q,t' σ H Q→t σ H Q):PE X e t':=fun pins s σ H Q I q=>h pins s σ H Q I (i σ H Q q)
theorem PT.imp {t t':TT} (h:PT X e t) (i:∀ σ H Q,t' σ H Q→t σ H Q):PT X e t':=fun pins s σ H Q I q=>h pins s σ H Q I (i σ H Q q)
theorem PW.imp {t t':TT} (h:PW X e t) (i:∀ σ H Q,t' σ H Q→t σ H Q):PW X e t':=fun w pins s σ H Q I q=>h w pins s σ H Q I (i σ H Q q)
theorem PA.imp {t t':TA} (h:PA X es t) (i:∀ σ H Q,t' σ H Q→t σ H Q):PA X es t':=fun p pins s σ H Q I q=>h p pins s σ H Q I (i σ H Q q)
theorem PS.imp {t t':TS} (h:PS X st t) (i:∀ D σ H,t' D σ H→t D σ H):PS X st t':=fun pins s σ H D I q=>h pins s σ H D I (i D σ H q)
theorem PSs.imp {t t':TS} (h:PSs X sts t) (i:∀ D σ H,t' D σ H→t D σ H):PSs X sts t':=fun pins s σ H D I q=>h pins s σ H D I (i D σ H q)
theorem PG.imp {t t':TG} (h:PG X e t) (i:∀ v σ H Q,t' v σ H Q→t v σ H Q):PG X e t':=fun pins s σ H v u Q I r q=>h pins s σ H v u Q I r (i v σ H Q q)
end
end D3
namespace D3
open PySem PySem.Spec PyProof.Rows L2 My
section
variable {X:Cx} {fl:List Fl} {e a b c:Expr} {es:List Expr} {k:Kd} {f fa fb fc:FE} {pos:Pos}
theorem wF {i:Nat} {δ:DS} {d:D} (h:ak i δ=some d):δ[i]? = some (some (.d d)):=by
 unfold ak at h
 split at h
 ·next x e=>rw [e];cases h;rfl
 ·cases h
theorem pU (i:Nat) (hfl:fl[i]? = some .A) {x:Str} (hN:X.N[i]? = some x:=by rfl) (hv:Vis X.env.scope x:=by first | exact Or.inl rfl | exact Or.inr (Or.inl rfl) | exact Or.inr (Or.inr rfl)) (hd:(x == ("__debug__" : Str))=false:=by decide)
 (hcd:(x == ("__classdict__" : Str))=false:=by decide):DE X fl .A (.Name x pos) (ak i):=by
 refine PE.imp (sI hN hv hd hcd) fun σ H Q h=>?_
 obtain ⟨G,ow,δ,d,R,hf,q⟩:=h
 have e:=wF hf
 cases ho:ow i with
 | none =>
  obtain ⟨v,h1,h2⟩:=R.dat i d e (by rw [hfl];rfl) ho
  exact ⟨v,h1,q v H (Same.refl H) h2⟩
 | some a =>
  obtain ⟨h0,hz,_⟩:=R.own i a ho
  rw [hfl] at hz
  rcases hz with ⟨z,_⟩ | ⟨z,_⟩ <;> cases z
theorem gD {k k':Kd} (h:DE X fl k e f) (hc:∀ (Hb H:Hp) (G:Gh) (ow:Ow) (σ:St) (δ:DS) (v:V) (d:D),Rel X.K fl G ow σ Hb δ→Rs X.K G.H0 ow Hb H k v d→Rs X.K G.H0 ow Hb H k' v d):DE X fl k' e f:=by
 refine PE.imp h fun σ H Q h=>?_
 obtain ⟨G,ow,δ,d,R,hf,q⟩:=h
 exact ⟨G,ow,δ,d,R,hf,fun v H' s r=>q v H' s (hc _ _ G ow σ δ v d R r)⟩
theorem tV {k k':Kd} {p:D→Bool} (h:DE X fl k e f) (hc:∀ (Hb H:Hp) (G:Gh) (ow:Ow) (σ:St) (δ:DS) (v:V) (d:D),p d=true→Rel X.K fl G ow σ Hb δ→Rs X.K G.H0 ow Hb H k v d→Rs X.K G.H0 ow Hb H k' v d) :
 DE X fl k' e (fun δ=>(f δ).bind fun d=>if p d=true then some d else none):=by
 refine PE.imp h fun σ H Q h=>?_
 obtain ⟨G,ow,δ,d,R,hf,q⟩:=h
 dsimp only at hf
 cases hv:f δ with
 | none=>rw [hv] at hf;cases hf
 | some d' =>
  rw [hv,aL] at hf
  by_cases hp:p d'=true
  ·rw [if_pos hp] at hf
   cases hf
   exact ⟨G,ow,δ,d,R,hv,fun v H' s r=>q v H' s (hc _ _ G ow σ δ v d hp R r)⟩
  ·rw [if_neg hp] at hf
   cases hf
theorem Az (h:DE X fl .FC e f):DE X fl .F e f:=gD h fun _ _ _ _ _ _ _ _ R r=>r.FC_F R
theorem aM (h:DE X fl .FC e f):DE X fl .C e f:=gD h fun _ _ _ _ _ _ _ _ R r=>r.FC_C
theorem gR (h:DE X fl .F e f):DE X fl .A e f:=gD h fun _ _ _ _ _ _ _ _ R r=>r.F_A R
theorem jJ (h:DE X fl .C e f):DE X fl .A e f:=gD h fun _ _ _ _ _ _ _ _ R r=>r.C_A R
theorem zj (h:DE X fl .C e f):DE X fl .R e f:=gD h fun _ _ _ _ _ _ _ _ R r=>r.C_R R
theorem dI (h:DE X fl .A e f):DE X fl (.B []) e f:=gD h fun _ _ _ _ _ _ _ _ R r=>Rs.A_B [] r
theorem Eo {L:List Nat} (h:DE X fl (.B L) e f):DE X fl .P e f:=gD h fun _ _ _ _ _ _ _ _ R r=>r.B_P
theorem mO (h:DE X fl .F e f):DE X fl .FC e (oY f):=tV h fun _ _ _ _ _ _ _ _ hf R r=>r.F_fl1 hf
theorem cI (h:DE X fl .FC e f):DE X fl .A e f:=gR (Az h)
theorem cC (h:DE X fl .FC e f):DE X fl .R e f:=zj (aM h)
theorem bJ (h:DE X fl .A e f):DE X fl .P e f:=Eo (dI h)
theorem gU (h:DE X fl .C e f):DE X fl .P e f:=bJ (jJ h)
theorem aY (h:DE X fl .FC e f):DE X fl .P e f:=bJ (cI h)
theorem jy (h:DE X fl .F e f):DE X fl .P e f:=bJ (gR h)
theorem mQ {v:V} {d:D} (h:PE X e (tC v)) (hf:flat d=true) (hr:∀ H,RA X.K ok0 false H v d):DE X fl .FC e (dC d):=by
 refine PE.imp h fun σ H Q h=>?_
 obtain ⟨G,ow,δ,d',R,hd,q⟩:=h
 cases hd
 exact q v H (Same.refl H) (.inl ⟨hf,hr H⟩)
theorem tW {i j pos}:DE X fl .FC (.Constant (.int i) j pos) (dC (.int i)):=mQ zO rfl fun _=>.int _
theorem kh {b j pos}:DE X fl .FC (.Constant (.bool b) j pos) (dC (.bool b)):=mQ Di rfl fun _=>.bl _
theorem tX {j pos}:DE X fl .FC (.Constant .none j pos) (dC .none):=mQ zP rfl fun _=>.non
theorem tY {x j pos}:DE X fl .FC (.Constant (.str x) j pos) (dC (.str x)):=mQ zQ rfl fun _=>.str _
def BrO (K:PySem.W.Frag) (r:R2) (g:D→D→Option D):Prop:=∀ (H:Hp) (x y:V) (dx dy d:D) (Q:VK),RA K ok1 true H x dx→RA K ok1 true H y dy→g dx dy=some d→(∀ v,flat d=true→RA K ok0 false H v d→Q v H)→r x y H Q
theorem nH {fa fb:FE} {g:D→D→Option D} {δ:DS} {d:D} (h:dOp g fa fb δ=some d):∃ x y,fa δ=some x∧fb δ=some y∧g x y=some d:=by
 unfold dOp at h
 cases ha:fa δ with
 | none=>rw [ha] at h;cases h
 | some x =>
  rw [ha,aL] at h
  cases hb:fb δ with
  | none=>rw [hb] at h;cases h
  | some y =>
   rw [hb,aL] at h
   exact ⟨x,y,rfl,rfl,h⟩
theorem bind1 {α β:Type} {x:Option α} {g:α→Option β} {d:β} (h:x.bind g=some d):∃ y,x=some y∧g y=some d:=by
 cases x with
 | none=>cases h
 | some y=>exact ⟨y,rfl,h⟩
theorem jE {r:R2} {g:D→D→Option D} {σ:St} {H:Hp} {Q:VK} (hb:BrO X.K r g) (h:tD X.K fl .FC (dOp g fa fb) σ H Q):tOp r (tD X.K fl .P fa) (tD X.K fl .P fb) σ H Q:=by
 obtain ⟨G,ow,δ,d,R,hf,q⟩:=h
 obtain ⟨x,y,e1,e2,e3⟩:=nH hf
 refine ⟨G,ow,δ,x,R,e1,fun v H1 s1 r1=>⟨G,ow,δ,y,R.grow s1,e2,fun u H2 s2 r2=>?_⟩⟩
 exact hb H2 v u x y d Q (RA.same s2 r1) r2 e3 fun z hz rz=>q z H2 (s1.trans s2) (.inl ⟨hz,rz⟩)
theorem bZ {op:Operator} {r:R2} {g:D→D→Option D} (ho:OpR X (binaryOp op) r) (hb:BrO X.K r g) (h1:DE X fl .P a fa) (h2:DE X fl .P b fb):DE X fl .FC (.BinOp a op b pos) (dOp g fa fb) :=
 PE.imp (yR ho h1 h2) fun _ _ _ h=>jE hb h
theorem jF {op:CmpOp} {r:R2} {g:D→D→Option D} (ho:OpR X (compareOp op) r) (hb:BrO X.K r g) (h1:DE X fl .P a fa) (h2:DE X fl .P b fb) (hm:behindInMarks op b=false):DE X fl .FC (.Compare a [op] [b] pos) (dOp g fa fb) :=
 PE.imp (vO ho h1 h2 hm) fun _ _ _ h=>jE hb h
theorem fD {op:CmpOp} {r:R2} {g:D→D→Option D} (ho:OpR X (compareOp op) r) (hb:BrO X.K r g) (h1:DE X fl .P a fa) (h2:DE X fl .P b fb) (hm:behindInMarks op b=false):DT X fl (.Compare a [op] [b] pos) (bT (dOp g fa fb)):=by
 refine PT.imp (vQ ho h1 h2 hm) fun σ H Q h=>?_
 obtain ⟨G,ow,δ,c,R,hf,q⟩:=h
 obtain ⟨d,e1,e2⟩:=bind1 hf
 cases d <;> first | (cases e2;done) | skip
 cases e2
 refine jE (fl:=fl) (fa:=fa) (fb:=fb) hb ⟨G,ow,δ,_,R,e1,fun v H' s r=>?_⟩
 obtain rfl:=(Rs.FC_C r).blE
 exact ⟨_,rfl,q H' s⟩
theorem iT (h:DE X fl .P e f) (he:∀ whole,isTrue e X.env whole=(do let v ← whole;standAt e.pos;holding [v] (truthy v)):=by intro _;rfl):DT X fl e (bT f):=by
 refine PT.imp (zU h he) fun σ H Q h=>?_
 obtain ⟨G,ow,δ,c,R,hf,q⟩:=h
 obtain ⟨d,e1,e2⟩:=bind1 hf
 cases d <;> first | (cases e2;done) | skip
 cases e2
 refine ⟨G,ow,δ,_,R,e1,fun v H' s r=>?_⟩
 obtain rfl:=RA.blE r
 exact ⟨_,rfl,q H' s⟩
theorem nJ {K:PySem.W.Frag} {h:Int→Int→V} {g:Int→Int→D} (hf:∀ i j,flat (g i j)=true) (hr:∀ H i j,RA K ok0 false H (h i j) (g i j)):BrO K (rI0 h) (gI fun i j=>some (g i j)):=by
 intro H x y dx dy d Q rx ry e q
 unfold gI at e
 split at e
 ·next i j =>
  cases e
  exact ⟨i,j,rx.intE,ry.intE,q _ (hf i j) (hr H i j)⟩
 ·cases e
theorem wG {K:PySem.W.Frag} {C:Int→Int→Prop} {h:Int→Int→V} {g:Int→Int→D} {c:Int→Int→Bool} (hc:∀ i j,c i j=true→C i j) (hf:∀ i j,flat (g i j)=true) (hr:∀ H i j,RA K ok0 false H (h i j) (g i j)) :
 BrO K (rI C h) (gI fun i j=>if c i j=true then some (g i j) else none):=by
 intro H x y dx dy d Q rx ry e q
 unfold gI at e
 split at e
 ·next i j =>
  dsimp only at e
  by_cases z:c i j=true
  ·rw [if_pos z] at e
   cases e
   exact ⟨i,j,rx.intE,ry.intE,hc i j z,q _ (hf i j) (hr H i j)⟩
  ·rw [if_neg z] at e
   cases e
 ·cases e
end
section
variable {X:Cx} {K:PySem.W.Frag}
theorem wH {i j:Int} (h:j8 i j=true):IntMulOk i j:=by
 unfold j8 at h
 rw [Bool.or_eq_true,Bool.or_eq_true,aN] at h
 rcases h with (h | h) | ⟨h1,h2⟩
 ·exact IntMulOk.of_left (PySem.intBits_le_iff.mpr (of_decide_eq_true h))
 ·exact IntMulOk.of_right (PySem.intBits_le_iff.mpr (of_decide_eq_true h))
 ·exact PySem.IntMulOk.of_le (PySem.intBits_le_iff.mpr (of_decide_eq_true h1)) (PySem.intBits_le_iff.mpr (of_decide_eq_true h2)) (by decide)
theorem eX:OpR X (binaryOp .Mult) (rI (fun i j=>j8 i j=true) fun i j=>.int (i * j)):=opI fun _ _ _ _ _ _ _ hc q=>mul_int q (wH hc)
theorem pW:OpR X (binaryOp .FloorDiv) (rI (fun i j=>oZ i j=true) fun i j=>.int (i.fdiv j)):=opI fun i j _ _ _ _ _ hc q=>by
 unfold oZ at hc
 rw [aN] at hc
 have h1:=of_decide_eq_true hc.1
 have h2:=of_decide_eq_true hc.2
 refine floordiv_int h1 q (.inl (PyProof.noPylong_of_log2 ?_))
 exact (Nat.log2_lt (by omega)).mpr h2
theorem wI {i j:Int} (h:Ax i j=true):Ae i j:=by
 unfold Ax at h
 rw [aN,aN] at h
 have h1:=of_decide_eq_true h.1.1
 have h2:=of_decide_eq_true h.1.2
 exact ⟨h1,by omega,of_decide_eq_true h.2⟩
theorem jz:BrO K (rI0 fun i j=>.int (i + j)) iw:=nJ (fun _ _=>rfl) fun _ _ _=>.int _
theorem Ep:BrO K (rI0 fun i j=>.int (i - j)) Aw:=nJ (fun _ _=>rfl) fun _ _ _=>.int _
theorem iU:BrO K (rI (fun i j=>j8 i j=true) fun i j=>.int (i * j)) iy:=wG (fun _ _ h=>h) (fun _ _=>rfl) fun _ _ _=>.int _
theorem zm:BrO K (rI (fun i j=>oZ i j=true) fun i j=>.int (i.fdiv j)) nD:=wG (fun _ _ h=>h) (fun _ _=>rfl) fun _ _ _=>.int _
theorem ji:BrO K (rI (fun _ j=>j ≠ 0) fun i j=>.int (i.fmod j)) jf:=wG (fun _ _ h=>of_decide_eq_true h) (fun _ _=>rfl) fun _ _ _=>.int _
theorem nM:BrO K (rI Ae fun i j=>.int (i ^ j.toNat)) mJ:=wG (fun _ _ h=>wI h) (fun _ _=>rfl) fun _ _ _=>.int _
theorem b_lt:BrO K (rI0 fun i j=>.bl (decide (i < j))) gLt:=nJ (fun _ _=>rfl) fun _ _ _=>.bl _
theorem G9:BrO K (rI0 fun i j=>.bl (decide (j < i))) gGt:=nJ (fun _ _=>rfl) fun _ _ _=>.bl _
theorem G_:BrO K (rI0 fun i j=>.bl (decide (j ≤ i))) gGe:=nJ (fun _ _=>rfl) fun _ _ _=>.bl _
theorem jP:BrO K (DY K) gEq:=by
 intro H x y dx dy d Q rx ry e q
 unfold gEq at e
 by_cases z:(SeqAt.shaped dx && SeqAt.shaped dy)=true
 ·rw [if_pos z] at e
  cases e
  rw [aN] at z
  exact ⟨dx,dy,rx.rd (SeqAt.canLay_of_shaped z.1),ry.rd (SeqAt.canLay_of_shaped z.2),z.1,z.2,q _ rfl (.bl _)⟩
 ·rw [if_neg z] at e
  cases e
theorem Hf:BrO K (Am K) gNe:=by
 intro H x y dx dy d Q rx ry e q
 unfold gNe at e
 by_cases z:(SeqAt.shaped dx && SeqAt.shaped dy)=true
 ·rw [if_pos z] at e
  cases e
  rw [aN] at z
  exact ⟨dx,dy,rx.rd (SeqAt.canLay_of_shaped z.1),ry.rd (SeqAt.canLay_of_shaped z.2),z.1,z.2,q _ rfl (.bl _)⟩
 ·rw [if_neg z] at e
  cases e
end
end D3
namespace D3
open PySem PySem.Spec PyProof.Rows L2 My
section
variable {X:Cx} {fl:List Fl} {e a b c:Expr} {es:List Expr} {st:Stmt} {sts body orelse:List Stmt} {k:Kd} {f fa fb fc:FE} {fs gs:FS} {ft gt:FT} {pos:Pos}
theorem o7.nx_imp {K:PySem.W.Frag} {G:Gh} {Dn:Ends} {N:St→Hp→Prop} {o:Oc} (h:o7 K fl G Dn o) (hn:∀ δ',o ≠ .nx δ'):o7 K fl G { Dn with nx:=N } o:=by
 cases o with
 | nx δ'=>exact absurd rfl (hn δ')
 | rt d=>exact h
 | bk δ'=>exact h
 | ct δ'=>exact h
 | ex c f v=>exact h
theorem dR:DSs X fl [] iM:=PSs.imp vL fun Dn σ H h=>by
 obtain ⟨G,ow,δ,o,R,hf,q⟩:=h
 cases hf
 exact q ow σ H R
theorem aW (h1:DS1 X fl st fs) (h2:DSs X fl sts gs):DSs X fl (st :: sts) (dw fs gs):=PSs.imp (sO h1 h2) fun Dn σ H h=>by
 obtain ⟨G,ow,δ,o,R,hf,q⟩:=h
 obtain ⟨o1,e1,e2⟩:=bind1 hf
 refine ⟨G,ow,δ,o1,R,e1,?_⟩
 cases o1 with
 | nx δ'=>exact fun ow' σ' H' R'=>⟨G,ow',δ',o,R',e2,q⟩
 | rt d=>cases e2;exact o7.nx_imp q (fun _ z=>by cases z)
 | bk d=>cases e2;exact o7.nx_imp q (fun _ z=>by cases z)
 | ct d=>cases e2;exact o7.nx_imp q (fun _ z=>by cases z)
 | ex c f v=>cases e2;exact q
theorem bD (h1:DS1 X fl st fs):DSs X fl [st] fs:=PSs.imp (pP h1) fun _ _ _ h=>h
theorem cA (h:DE X fl .R e f):DS1 X fl (.Return (some e) pos) (dY f):=PS.imp (Aa h) fun Dn σ H h=>by
 obtain ⟨G,ow,δ,o,R,hf,q⟩:=h
 obtain ⟨d,e1,e2⟩:=bind1 hf
 cases e2
 exact ⟨G,ow,δ,d,R,e1,fun v H' s r=>q v H' (R.same0.trans s) r⟩
theorem gW (hc:DT X fl c ft) (h1:DSs X fl body fs) (h2:DSs X fl orelse gs):DS1 X fl (.If c body orelse pos) (sIf ft fs gs):=PS.imp (Dq hc h1 h2) fun Dn σ H h=>by
 obtain ⟨G,ow,δ,o,R,hf,q⟩:=h
 obtain ⟨t,e1,e2⟩:=bind1 hf
 refine ⟨G,ow,δ,t,R,e1,fun H' s=>?_⟩
 cases t with
 | true=>exact wg ⟨G,ow,δ,o,R.grow s,e2,q⟩
 | false=>exact v9 ⟨G,ow,δ,o,R.grow s,e2,q⟩
theorem mR {α:Type} {l:List (Option α)} {i j:Nat} {x y:α} (h:(l.set i (some x))[j]? = some (some y)):(j=i∧x=y)∨(j ≠ i∧l[j]? = some (some y)):=by
 rw [List.getElem?_set] at h
 by_cases e:i=j
 ·subst e
  rw [if_pos rfl] at h
  by_cases z:i < l.length
  ·rw [if_pos z] at h
   cases h
   exact .inl ⟨rfl,rfl⟩
  ·rw [if_neg z] at h
   cases h
 ·rw [if_neg e] at h
  exact .inr ⟨fun z=>e z.symm,h⟩
theorem Rel.setA {K:PySem.W.Frag} {G:Gh} {ow:Ow} {σ:St} {H:Hp} {δ:DS} {i:Nat} {v:V} {d:D} (R:Rel K fl G ow σ H δ) (hfl:fl[i]? = some .A) (hi:i < σ.length) (r:RA K (okA ow) true H v d) :
 Rel K fl G ow (σ.set i (some v)) H (δ.set i (some (.d d))):=by
 have no:∀ a,ow i ≠ some a:=fun a z=>by
  obtain ⟨_,hz,_⟩:=R.own i a z
  rw [hfl] at hz
  rcases hz with ⟨z,_⟩ | ⟨z,_⟩ <;> cases z
 refine ⟨R.s0,R.s1,by rw [cG,cG];exact R.len,fun j a h=>?_,R.inj,R.pin,fun j d' h1 hn h2=>?_,fun j d' h1 hn h2 h3=>?_,R.nt,R.nd,R.ns,R.np,fun j d' hn h1=>?_⟩
 ·have hj:j ≠ i:=fun z=>no a (z ▸ h)
  obtain ⟨h0,hf,xs,ds,h1,h2,h3,h4⟩:=R.own j a h
  exact ⟨h0,hf,xs,ds,by rw [aQ (Ne.symm hj)];exact h1,h2,h3,by rw [aQ (Ne.symm hj)];exact h4⟩
 ·rcases mR h1 with ⟨rfl,e⟩ | ⟨hj,e⟩
  ·cases e
   exact ⟨v,by rw [bW hi],r⟩
  ·obtain ⟨v',h3,h4⟩:=R.dat j d' e hn h2
   exact ⟨v',by rw [aQ (Ne.symm hj)];exact h3,h4⟩
 ·rcases mR h1 with ⟨rfl,e⟩ | ⟨hj,e⟩
  ·exact absurd hfl h2
  ·exact R.oo j d' e hn h2 h3
 ·rcases mR h1 with ⟨rfl,e⟩ | ⟨hj,e⟩
  ·rw [hfl] at hn;cases hn
  ·obtain ⟨v',h3,h4⟩:=R.nr j d' hn e
   exact ⟨v',by rw [aQ (Ne.symm hj)];exact h3,h4⟩
theorem mU {K:PySem.W.Frag} {G:Gh} {ow:Ow} {σ:St} {H:Hp} {δ:DS} {i:Nat} (R:Rel K fl G ow σ H δ) (h:i < δ.length):i < σ.length:=by rw [R.len];exact h
theorem wJ {i:Nat} {x:Str} {pos':Pos} (hfl:fl[i]? = some .A) (hN:X.N.Nodup) (hi:X.N[i]? = some x) (hv:X.env.scope.names.lookup x=some .local∨X.env.scope.names.lookup x=some .cell) (h:DE X fl .A e f)
 (hs:swapsWith e (some (.Name x pos')) pos.line X.env=pure false:=by rfl) (hfn:X.fn x=true∨X.env.scope.names.lookup x=some .local:=by first | exact .inl rfl | exact .inr rfl) :
 DS1 X fl (.Assign [.Name x pos'] e pos) (cL i f):=PS.imp (sS (i:=i) hN hi hv h hs hfn) fun Dn σ H h=>by
 obtain ⟨G,ow,δ,o,R,hf,q⟩:=h
 unfold cL at hf
 by_cases hl:i < δ.length
 ·rw [if_pos hl] at hf
  obtain ⟨d,e1,e2⟩:=bind1 hf
  cases e2
  exact ⟨G,ow,δ,d,R,e1,fun v H' s r=>q ow _ H' ((R.grow s).setA hfl (mU R hl) r)⟩
 ·rw [if_neg hl] at hf
  cases hf
theorem wK {i:Nat} {x:Str} {pos:Pos} (hfl:fl[i]? = some .A) (hN:X.N.Nodup) (hi:X.N[i]? = some x) (hv:X.env.scope.names.lookup x=some .local∨X.env.scope.names.lookup x=some .cell)
 (hfn:X.fn x=true∨X.env.scope.names.lookup x=some .local:=by first | exact .inl rfl | exact .inr rfl):DG X fl [i] (.Name x pos) (gNl i) :=
 PG.imp (vM (i:=i) hN hi hv hfn) fun v σ H Q h=>by
 obtain ⟨G,ow,δ,d,δ',R,r,hf,q⟩:=h
 unfold gNl at hf
 by_cases hl:i < δ.length
 ·rw [if_pos hl] at hf
  cases hf
  exact q _ (R.setA hfl (mU R hl) r) fun j hj=>aQ (fun z=>hj (by rw [z];exact bN.mpr rfl))
 ·rw [if_neg hl] at hf
  cases hf
end
end D3
namespace D3
open PySem PySem.Spec PyProof.Rows L2 My
section
variable {X:Cx} {fl:List Fl} {e a b c:Expr} {es:List Expr} {st:Stmt} {sts body orelse:List Stmt} {k:Kd} {f fa fb fc:FE} {fs gs:FS} {ft gt:FT} {pos:Pos}
def zp (K:PySem.W.Frag) (ow:Ow) (L:List Nat) (H1:Hp) (J:It) (l:List D):Prop:=∀ H2:Hp,(∀ b o,H1 b=some o→(∀ i,ow i=some b→i ∈ L)→(∀ i,b ∉ ow.n i)→H2 b=some o)→∀ i:Nat,
 (∀ d,l[i]? = some d→J.go i H2∧∀ x H3,J.yld i H2 x H3→Same H2 H3∧RA K (fun b=>okA ow b∧H1 b ≠ none) true H3 x d)∧(l.length ≤ i→J.stop i H2)
def tDI (K:PySem.W.Frag) (fl:List Fl) (L:List Nat) (fi:FA):TI:=fun σ H R'=>∃ G ow δ l,Rel K fl G ow σ H δ∧fi δ=some l∧∀ J H1,Same H H1→zp K ow L H1 J l→R' J H1
abbrev DI (X:Cx) (fl:List Fl) (L:List Nat) (tg iter:Expr) (fi:FA):Prop:=PI X tg iter (tDI X.K fl L fi)
theorem PI.imp {tg iter:Expr} {t t':TI} (h:PI X tg iter t) (i:∀ σ H R',t' σ H R'→t σ H R'):PI X tg iter t':=fun pins s σ H R' I q=>h pins s σ H R' I (i σ H R' q)
section
variable {K:PySem.W.Frag} {ok:Ok} {pl:Bool} {H1 H2:Hp} {ow:Ow} {L:List Nat}
theorem nm {b:Addr} {o:HO} (hl:∀ i b,ow i=some b→∃ xs,H1 b=some (.lst xs)) (h:H1 b=some o) (hn:∀ xs,o ≠ .lst xs):∀ i,ow i=some b→i ∈ L:=fun i e=>by
 obtain ⟨xs,z⟩:=hl i b e
 rw [h] at z
 exact absurd (cN.inj z) (hn xs)
theorem nm2 {b:Addr} {o:HO} (hl:∀ i b,b ∈ ow.n i→Chd (H1 b)) (h:H1 b=some o) (hn:Chg o→False):∀ i,b ∉ ow.n i:=fun i e=>by
 obtain ⟨u,z,c⟩:=hl i b e
 rw [h] at z
 cases z
 exact hn c
mutual
theorem RA.keep (hk:∀ b o,H1 b=some o→(∀ i,ow i=some b→i ∈ L)→(∀ i,b ∉ ow.n i)→H2 b=some o) (hl:∀ i b,ow i=some b→∃ xs,H1 b=some (.lst xs)) (hm:∀ i b,b ∈ ow.n i→Chd (H1 b)) (ho:∀ b,ok b→okA ow b):∀ {v:V} {d:D},RA K ok pl H1 v d→RA K ok pl H2 v d
 | _,_,.non=>.non
 | _,_,.bl b=>.bl b
 | _,_,.int i=>.int i
 | _,_,.str x=>.str x
 | _,_,.lst e k q=>.lst (hk _ _ e (fun i z=>absurd z ((ho _ k).1 i)) (ho _ k).2) k (RAs.keep hk hl hm ho q)
 | _,_,.lsk e k q=>.lsk (by
  rcases e with ⟨o,e⟩ | e
  ·exact .inl ⟨o,hk _ _ e (nm hl e (by intro xs z;cases z)) (nm2 hm e Chg.frz)⟩
  ·exact .inr e) k (RAs.keep hk hl hm ho q)
 | _,_,.tup e q=>.tup (hk _ _ e (nm hl e (by intro xs z;cases z)) (nm2 hm e Chg.tup)) (RAs.keep hk hl hm ho q)
 | _,_,.dic e g k=>.dic (hk _ _ e (fun i z=>absurd z ((ho _ k).1 i)) (ho _ k).2) (g.imp fun _ _ t=>hk _ _ t (nm hl t (by intro xs z;cases z)) (nm2 hm t Chg.tup)) k
 | _,_,.dik e g k=>.dik (hk _ _ e (nm hl e (by intro xs z;cases z)) (nm2 hm e Chg.frz)) (g.imp fun _ _ t=>hk _ _ t (nm hl t (by intro xs z;cases z)) (nm2 hm t Chg.tup)) k
 | _,_,.exc q g=>.exc (let ⟨dx,vs,sl,od,h1,h2⟩:=q;⟨dx,vs,sl,od,hk _ _ h1 (nm hl h1 (by intro xs z;cases z)) (nm2 hm h1 Chg.frz),hk _ _ h2 (nm hl h2 (by intro xs z;cases z)) (nm2 hm h2 Chg.frz)⟩) g
theorem RAs.keep (hk:∀ b o,H1 b=some o→(∀ i,ow i=some b→i ∈ L)→(∀ i,b ∉ ow.n i)→H2 b=some o) (hl:∀ i b,ow i=some b→∃ xs,H1 b=some (.lst xs)) (hm:∀ i b,b ∈ ow.n i→Chd (H1 b)) (ho:∀ b,ok b→okA ow b):∀ {v:List V} {d:List D},RAs K ok pl H1 v d→RAs K ok pl H2 v d
 | _,_,.nil=>.nil
 | _,_,.cons e q=>.cons (RA.keep hk hl hm ho e) (RAs.keep hk hl hm ho q)
end
end
theorem Rel.ownL {K:PySem.W.Frag} {G:Gh} {ow:Ow} {σ:St} {H:Hp} {δ:DS} (R:Rel K fl G ow σ H δ):∀ i b,ow i=some b→∃ xs,H b=some (.lst xs):=fun i b e=>by
 obtain ⟨_,_,xs,_,_,h2,_⟩:=R.own i b e
 exact ⟨xs,h2⟩
theorem Rel.ownC {K:PySem.W.Frag} {G:Gh} {ow:Ow} {σ:St} {H:Hp} {δ:DS} (R:Rel K fl G ow σ H δ):∀ i b,b ∈ ow.n i→Chd (H b):=fun i b e=>(R.nt i b e).2.1
theorem A_ {K:PySem.W.Frag} {G:Gh} {ow:Ow} {σ:St} {H Hb:Hp} {δ:DS} {L:List Nat} {v:V} {l:List D} (R:Rel K fl G ow σ H δ) (r:Rs K G.H0 ow Hb H (.B L) v (.list l)):∃ a xs,v = .ref a∧SqL K H a xs ∧
 ∀ H2:Hp,(∀ b o,H b=some o→(∀ i,ow i=some b→i ∈ L)→(∀ i,b ∉ ow.n i)→H2 b=some o)→SqL K H2 a xs∧RAs K (fun b=>okA ow b∧H b ≠ none) true H2 xs l:=by
 rcases r with r | ⟨i,hi,a,xs,ds,ho,rfl,e,hx,hr⟩
 ·cases r with
  | lst e k q=>exact ⟨_,_,rfl,SqL.of e,fun H2 hk=>⟨SqL.of (hk _ _ e (fun i z=>absurd z (k.1 i)) k.2),RAs.keep hk R.ownL R.ownC (fun b z=>z.1) q.track⟩⟩
  | lsk e k q=>exact ⟨_,_,rfl,e.sq,fun H2 hk=>⟨SqK.sq (by
   rcases e with ⟨o,e⟩ | e
   ·exact .inl ⟨o,hk _ _ e (nm R.ownL e (by intro xs z;cases z)) (nm2 R.ownC e Chg.frz)⟩
   ·exact .inr e),RAs.keep hk R.ownL R.ownC (fun b z=>z.1) q.track⟩⟩
 ·cases e
  exact ⟨a,xs,rfl,SqL.of hx,fun H2 hk=>⟨SqL.of (hk _ _ hx (fun j z=>by rw [R.inj j i a z ho];exact hi) (fun j z=>R.ns j i a z ho)),RAs.keep hk R.ownL R.ownC (fun b z=>z.1) hr.track⟩⟩
theorem pX {tg:Expr} {L:List Nat} (h:DE X fl (.B L) e f):DI X fl L tg e (tQ f):=PI.imp (vN h) fun σ H R' h=>by
 obtain ⟨G,ow,δ,l,R,hf,q⟩:=h
 obtain ⟨d,e1,e2⟩:=bind1 hf
 cases d <;> first | (cases e2;done) | skip
 cases e2
 refine ⟨G,ow,δ,_,R,e1,fun v H1 s r=>?_⟩
 obtain ⟨a,xs,rfl,hx,keep⟩:=A_ (R.grow s) r
 refine ⟨a,rfl,⟨xs,hx⟩,q _ _ s fun H2 k2 i=>?_⟩
 obtain ⟨k3,k4⟩:=keep H2 k2
 refine ⟨fun d hd=>?_,fun hl=>⟨xs,k3,by rw [k4.length];exact hl⟩⟩
 obtain ⟨y,hy,ry⟩:=k4.get hd
 refine ⟨⟨xs,y,k3,hy⟩,fun x H3 hyl=>?_⟩
 obtain ⟨e,hz⟩:=hyl
 subst e
 have:some y=some x:=hy.symm.trans (hz xs k3)
 cases this
 exact ⟨Same.refl _,ry⟩
theorem tZ (lo hi:Int):(cY lo hi).length=(hi - lo).toNat:=by simp [cY]
theorem t_ {K:PySem.W.Frag} {ow:Ow} {L:List Nat} {H1:Hp} (lo hi:Int):zp K ow L H1 (Itr lo (hi - lo).toNat) (cY lo hi):=by
 intro H2 _ i
 refine ⟨fun d hd=>?_,fun hl=>by rw [tZ] at hl;exact hl⟩
 unfold cY at hd
 rw [bI] at hd
 by_cases hi':i < (hi - lo).toNat
 ·rw [je hi'] at hd
  cases hd
  refine ⟨hi',fun x H3 hy=>?_⟩
  obtain ⟨e,e2⟩:=hy
  subst e e2
  exact ⟨Same.refl _,.int _⟩
 ·rw [b_ (by simpa using hi')] at hd
  cases hd
theorem pY {i:Int} (h:j9 i=true) : -(2 ^ 62) ≤ i∧i < 2 ^ 62:=by
 unfold j9 at h
 rw [aN] at h
 exact ⟨of_decide_eq_true h.1,of_decide_eq_true h.2⟩
theorem fG {tg:Expr} {L:List Nat} {p:Pos} {fa:FA} (hg:Gl X "range") (hm:X.mg "range" = none) (h:DA X fl [a] fa) (hs:starEach [a] X.env=[(false,eval a X.env)]:=by rfl):DI X fl L tg (.Call (.Name "range" p) [a] [] pos) (jg fa) :=
 PI.imp (rA hg hm h hs) fun σ H R' h=>by
 obtain ⟨G,ow,δ,l,R,hf,q⟩:=h
 obtain ⟨ds,e1,e2⟩:=bind1 hf
 split at e2
 ·next j =>
  by_cases z:j9 j=true
  ·rw [if_pos z] at e2
   cases e2
   refine ⟨G,ow,δ,_,R,e1,fun vs H1 s r=>?_⟩
   cases r with
   | cons r1 r2 =>
    cases r2
    obtain rfl:=r1.intE
    refine ⟨j,rfl,(pY z).1,(pY z).2,?_⟩
    have w:=t_ (K:=X.K) (ow:=ow) (L:=L) (H1:=H1) 0 j
    rw [Int.sub_zero] at w
    exact q _ _ s w
  ·rw [if_neg z] at e2
   cases e2
 ·cases e2
def lock (L:List Nat) (fl:List Fl):List Fl:=fl.mapIdx fun i x=>if x = .O∧i ∈ L then .L else x
theorem fK {L:List Nat} {i:Nat}:(lock L fl)[i]? = (fl[i]?).map fun x=>if x = .O∧i ∈ L then .L else x:=by
 unfold lock
 rw [List.getElem?_mapIdx]
theorem uc {L:List Nat} {i:Nat}:(lock L fl)[i]? = some .A↔fl[i]? = some .A:=by
 rw [fK]
 cases h:fl[i]? with
 | none=>simp
 | some x =>
  cases x <;> simp
  by_cases z:i ∈ L <;> simp [z]
theorem o8 {L:List Nat} {i:Nat} (h:(lock L fl)[i]? = some .O):fl[i]? = some .O∧i ∉ L:=by
 rw [fK] at h
 cases e:fl[i]? with
 | none=>rw [e] at h;simp at h
 | some x =>
  rw [e] at h
  cases x <;> simp at h
  by_cases z:i ∈ L
  ·simp [z] at h
  ·exact ⟨rfl,z⟩
theorem o9 {L:List Nat} {i:Nat} (h:fl[i]? = some .L):(lock L fl)[i]? = some .L:=by
 rw [fK,h]
 simp
theorem pZ {L:List Nat} {i:Nat} (h:fl[i]? = some .O) (hi:i ∈ L):(lock L fl)[i]? = some .L:=by
 rw [fK,h]
 simp [hi]
theorem p7 {L:List Nat} {i:Nat} (h:fl[i]? = some .O) (hi:i ∉ L):(lock L fl)[i]? = some .O:=by
 rw [fK,h]
 simp [hi]
theorem mV {L:List Nat} {i:Nat}:(lock L fl)[i]? = some .N↔fl[i]? = some .N:=by
 rw [fK]
 cases h:fl[i]? with
 | none=>simp
 | some x =>
  cases x <;> simp
  by_cases z:i ∈ L <;> simp [z]
theorem o_ {L:List Nat} {i:Nat}:(lock L fl)[i]? = some .M↔fl[i]? = some .M:=by
 rw [fK]
 cases h:fl[i]? with
 | none=>simp
 | some x =>
  cases x <;> simp
  by_cases z:i ∈ L <;> simp [z]
theorem gY {L:List Nat} {i:Nat}:isN (lock L fl)[i]? = isN fl[i]?:=by
 rw [fK]
 cases h:fl[i]? with
 | none=>rfl
 | some x =>
  cases x <;> simp [isN]
  by_cases z:i ∈ L <;> simp [z]
def Let (fl':List Fl) (ow:Ow) (b:Addr):Prop:=(∃ j,ow j=some b∧fl'[j]? = some .O)∨∃ j,b ∈ ow.n j∧fl'[j]? = some .N
open Classical in
noncomputable def ghL (fl':List Fl) (G:Gh) (ow:Ow) (H:Hp):Gh:=⟨G.H0,fun b=>if Let fl' ow b then none else H b,ow,ow.n,G.tb⟩
open Classical in
theorem iz {fl':List Fl} {G:Gh} {ow:Ow} {H:Hp} {b:Addr} (h:¬ Let fl' ow b):(ghL fl' G ow H).HF b=H b:=by
 unfold ghL
 dsimp only
 rw [if_neg h]
open Classical in
theorem pq {fl':List Fl} {G:Gh} {ow:Ow} {H:Hp} {b:Addr} (h:Let fl' ow b):(ghL fl' G ow H).HF b=none:=by
 unfold ghL
 dsimp only
 rw [if_pos h]
theorem Rel.lock {K:PySem.W.Frag} {G:Gh} {ow:Ow} {σ:St} {H:Hp} {δ:DS} (L:List Nat) (R:Rel K fl G ow σ H δ):Rel K (lock L fl) (ghL (lock L fl) G ow H) ow σ H δ:=by
 refine ⟨fun b o hb=>?_,fun b o hb=>?_,R.len,fun i a h=>?_,R.inj,fun i h=>rfl,fun i d h1 hn h2=>R.dat i d h1 (by rw [gY] at hn;exact hn) h2,fun i d h1 hn h2 h3=>R.oo i d h1 (by rw [gY] at hn;exact hn) (fun z=>h2 (uc.mpr z)) h3,fun i a h=>?_,R.nd,R.ns,fun i h=>rfl,fun i d hn h1=>R.nr i d (by rw [gY] at hn;exact hn) h1⟩
 ·have hb':G.H0 b=some o:=hb
  rw [iz]
  ·exact R.same0 b o hb'
  ·rintro (⟨j,e,_⟩ | ⟨j,e,_⟩)
   ·have:=(R.own j b e).1
    rw [hb'] at this
    cases this
   ·have:=(R.nt j b e).1
    rw [hb'] at this
    cases this
 ·by_cases z:Let (D3.lock L fl) ow b
  ·rw [pq z] at hb;cases hb
  ·rw [iz z] at hb;exact hb
 ·obtain ⟨h0,hf,xs,ds,h1,h2,h3,h4⟩:=R.own i a h
  refine ⟨h0,?_,xs,ds,h1,h2,h3,h4⟩
  have out:(D3.lock L fl)[i]? = some .L→(ghL (D3.lock L fl) G ow H).HF a=H a:=fun hl=>iz (by
   rintro (⟨j,e,hj⟩ | ⟨j,e,hj⟩)
   ·rw [R.inj j i a e h,hl] at hj
    cases hj
   ·exact R.ns j i a e h)
  rcases hf with ⟨hf,_⟩ | ⟨hf,_⟩
  ·by_cases hi:i ∈ L
   ·exact .inr ⟨pZ hf hi,xs,by rw [out (pZ hf hi)];exact h2⟩
   ·exact .inl ⟨p7 hf hi,pq (.inl ⟨i,h,p7 hf hi⟩)⟩
  ·exact .inr ⟨o9 hf,xs,by rw [out (o9 hf)];exact h2⟩
 ·obtain ⟨g1,g2,g3⟩:=R.nt i a h
  refine ⟨g1,g2,?_⟩
  rcases g3 with ⟨z,_⟩ | z
  ·exact .inl ⟨mV.mpr z,pq (.inr ⟨i,h,mV.mpr z⟩)⟩
  ·exact .inr (o_.mpr z)
theorem Rel.unlock {K:PySem.W.Frag} {G:Gh} {ow ow':Ow} {σ σ':St} {H H':Hp} {δ δ':DS} {L:List Nat} (R:Rel K fl G ow σ H δ) (R':Rel K (D3.lock L fl) (ghL (D3.lock L fl) G ow H) ow' σ' H' δ'):Rel K fl G ow' σ' H' δ':=by
 have sub:Same G.HF (ghL (D3.lock L fl) G ow H).HF:=fun b o hb=>by
  rw [iz]
  ·exact R.s1 b o hb
  ·rintro (⟨j,e,hj⟩ | ⟨j,e,hj⟩)
   ·rcases (R.own j b e).2.1 with ⟨_,z⟩ | ⟨z,_⟩
    ·rw [hb] at z;cases z
    ·have:=(o8 hj).1
     rw [z] at this
     cases this
   ·rcases (R.nt j b e).2.2 with ⟨_,z⟩ | z
    ·rw [hb] at z;cases z
    ·have:=mV.mp hj
     rw [z] at this
     cases this
 refine ⟨R.s0,sub.trans R'.s1,R'.len,fun i a h=>?_,R'.inj,fun i h=>?_,fun i d h1 hn h2=>R'.dat i d h1 (by rw [gY];exact hn) h2,fun i d h1 hn h2 h3=>R'.oo i d h1 (by rw [gY];exact hn) (fun z=>h2 (uc.mp z)) h3,fun i a h=>?_,R'.nd,R'.ns,fun i h=>?_,fun i d hn h1=>R'.nr i d (by rw [gY];exact hn) h1⟩
 ·obtain ⟨h0,hf,rest⟩:=R'.own i a h
  refine ⟨h0,?_,rest⟩
  rcases hf with ⟨hf,hz⟩ | ⟨hf,_⟩
  ·exact .inl ⟨(o8 hf).1,sub.free hz⟩
  ·have e:ow' i=ow i:=R'.pin i hf
   rw [e] at h
   exact (R.own i a h).2.1
 ·have e:ow' i=ow i:=R'.pin i (o9 h)
  rw [e]
  exact R.pin i h
 ·obtain ⟨g1,g2,g3⟩:=R'.nt i a h
  rcases g3 with ⟨z,hz⟩ | z
  ·exact ⟨g1,g2,.inl ⟨mV.mp z,sub.free hz⟩⟩
  ·exact ⟨g1,g2,.inr (o_.mp z)⟩
 ·have e:ow'.n i=ow.n i:=R'.np i (o_.mpr h)
  rw [e]
  exact R.np i h
theorem ud {tg iter:Expr} {L:List Nat} {T:List Nat} {fi:FA} {g:FG} (hp:PassesOwn (model X.prog X.w) X.A X.env X.xe) (hc:X.calm=true) (hi:DI X fl L tg iter fi) (hg:DG X (lock L fl) T tg g) (hb:DSs X (lock L fl) body fs)
 (hs:∀ x,foldedSetIterable iter X.env x=pure x:=by intro _;rfl):DS1 X fl (.For tg iter body [] pos) (tO fi g fs):=PS.imp (Ab hp hc hi hg hb hs) fun Dn σ H h=>by
 obtain ⟨G,ow,δ,o,R0,hf,q⟩:=h
 obtain ⟨l,e1,e2⟩:=bind1 hf
 refine ⟨G,ow,δ,l,R0,e1,fun J H1 s wk=>?_⟩
 have R1:=R0.grow s
 have RL:=R1.lock L
 refine ⟨fun i m σ' H'=>m=l.length - i∧∃ ow' δ',Rel X.K (lock L fl) (ghL (lock L fl) G ow H1) ow' σ' H' δ'∧iQ g fs (l.drop i) δ'=some o,⟨_,rfl,ow,δ,RL,by simpa using e2⟩,?_⟩
 rintro i m σ' H' ⟨rfl,ow',δ',R',hd⟩
 have kept:∀ b o,H1 b=some o→(∀ i,ow i=some b→i ∈ L)→(∀ i,b ∉ ow.n i)→H' b=some o:=fun b o hb hl hn=>R'.s1 b o (by
  rw [iz]
  ·exact hb
  ·rintro (⟨j,e,hj⟩ | ⟨j,e,_⟩)
   ·exact (o8 hj).2 (hl j e)
   ·exact hn j e)
 obtain ⟨w1,w2⟩:=wk H' kept i
 by_cases hlt:i < l.length
 ·have hdrop:l.drop i=l[i] :: l.drop (i + 1):=gq hlt
  rw [hdrop,iQ] at hd
  obtain ⟨δ1,e3,hd⟩:=bind1 hd
  obtain ⟨o1,e4,hd⟩:=bind1 hd
  obtain ⟨go,yl⟩:=w1 l[i] (bR hlt)
  refine .inr ⟨go,fun σ' H'=>∃ ow' δ',Rel X.K (lock L fl) (ghL (lock L fl) G ow H1) ow' σ' H' δ'∧iQ g fs (l.drop (i + 1)) δ'=some o,fun σ2 H2 ⟨ow2,δ2,R2,h2⟩=>⟨l.length - (i + 1),by omega,rfl,ow2,δ2,R2,h2⟩,fun x H3 hy=>?_⟩
  obtain ⟨s3,r3⟩:=yl x H3 hy
  have sub:∀ b,okA ow b∧H1 b ≠ none→okA ow' b:=fun b z=>by
   obtain ⟨z1,z2⟩:=z
   refine ⟨fun j e=>?_,fun j e=>?_⟩
   ·rcases (R'.own j b e).2.1 with ⟨_,hz⟩ | ⟨hz,_⟩
    ·have:(ghL (lock L fl) G ow H1).HF b=H1 b:=iz (by rintro (⟨j',e',_⟩ | ⟨j',e',_⟩);exact z1.1 j' e';exact z1.2 j' e')
     rw [this] at hz
     exact z2 hz
    ·have e':ow' j=ow j:=R'.pin j hz
     rw [e'] at e
     exact z1.1 j e
   ·rcases (R'.nt j b e).2.2 with ⟨_,hz⟩ | w
    ·have:(ghL (lock L fl) G ow H1).HF b=H1 b:=iz (by rintro (⟨j',e',_⟩ | ⟨j',e',_⟩);exact z1.1 j' e';exact z1.2 j' e')
     rw [this] at hz
     exact z2 hz
    ·have e':ow'.n j=ow.n j:=R'.np j w
     rw [e'] at e
     exact z1.2 j e
  refine ⟨_,ow',δ',_,δ1,R'.grow s3,r3.imp sub (fun z=>z),e3,fun σ4 R4 _=>⟨_,ow',δ1,o1,R4,e4,?_⟩⟩
  ·cases o1 with
   | nx δ2=>exact fun ow2 σ2 H2 R2=>⟨ow2,δ2,R2,hd⟩
   | ct δ2=>exact fun ow2 σ2 H2 R2=>⟨ow2,δ2,R2,hd⟩
   | bk δ2=>cases hd;exact fun ow2 σ2 H2 R2=>q ow2 σ2 H2 (R1.unlock R2)
   | rt d=>cases hd;exact q
   | ex c f v=>cases hd;exact q
 ·have e:l.drop i=[]:=gZ (by omega)
  rw [e,iQ] at hd
  cases hd
  exact .inl ⟨w2 (by omega),q ow' σ' H' (R1.unlock R')⟩
end
end D3
namespace D3
open PySem PySem.Spec PyProof.Rows L2 My
def notStar:Expr→Bool
 | .Starred _ _=>false
 | _=>true
theorem dB {e:Expr} {es:List Expr} {env:Env} (h:notStar e=true):starEach (e :: es) env=(false,eval e env) :: starEach es env:=by
 cases e <;> first | rfl | cases h
theorem jK {es:List Expr} {env:Env} {pos:Pos} (h:es.all notStar=true):(backTo pos (starEach es env)).any (·.1)=false:=by
 induction es with
 | nil=>rfl
 | cons e es ih =>
  rw [List.all_cons,aN] at h
  rw [dB h.1]
  have:=ih h.2
  unfold backTo at this ⊢
  rw [cP,List.any_cons,this]
  rfl
def isR:Kd→Bool
 | .P=>true
 | .A=>true
 | .R=>true
 | .C=>true
 | _=>false
def uf (H0:Hp) (ow:Ow) (Hb:Hp):Kd→Ok
 | .P=>ok1
 | .A=>okA ow
 | .R=>okN H0
 | _=>okN Hb
def Ba:Kd→Bool
 | .P=>true
 | .A=>true
 | _=>false
section
variable {K:PySem.W.Frag} {H0 Hb Hc H:Hp} {ow:Ow} {v:V} {d:D} {k:Kd}
theorem Rs.ra (hk:isR k=true) (h:Rs K H0 ow Hb H k v d):RA K (uf H0 ow Hb k) (Ba k) H v d:=by
 cases k <;> first | exact h | cases hk
theorem Rs.of_ra (hk:isR k=true) (h:RA K (uf H0 ow Hb k) (Ba k) H v d):Rs K H0 ow Hb H k v d:=by
 cases k <;> first | exact h | cases hk
theorem rM (s:Same Hb Hc) (hk:isR k=true):∀ a,uf H0 ow Hc k a→uf H0 ow Hb k a:=fun a z=>by
 cases k <;> first | exact z | exact s.free z | cases hk
theorem Rs.of_flat (hf:flat d=true) (h:RA K ok0 false H v d):Rs K H0 ow Hb H k v d:=by
 cases k with
 | P=>exact RA.flat hf h
 | B L=>exact .inl (RA.flat hf h)
 | A=>exact RA.flat hf h
 | R=>exact RA.flat hf h
 | F=>exact .inl ⟨hf,h⟩
 | C=>exact RA.flat hf h
 | FC=>exact .inl ⟨hf,h⟩
 | T =>
  obtain ⟨as,h1,_,h3⟩:=RA.rt h
  cases as with
  | nil=>exact ⟨[],h1,.nil,fun _ z=>by cases z⟩
  | cons a r=>exact (h3 a aB).elim
theorem Rs.back (s:Same Hb Hc) (h:Rs K H0 ow Hc H k v d):Rs K H0 ow Hb H k v d:=by
 cases k with
 | P=>exact h
 | B L=>exact h
 | A=>exact h
 | R=>exact h
 | F =>
  rcases h with h | ⟨a,xs,ds,h1,h2,h3,h4⟩
  ·exact .inl h
  ·exact .inr ⟨a,xs,ds,h1,h2,s.free h3,h4⟩
 | C=>exact RA.imp (fun a z=>s.free z) (fun z=>z) h
 | FC =>
  rcases h with h | ⟨a,xs,ds,h1,h2,h3,h4,h5⟩
  ·exact .inl h
  ·exact .inr ⟨a,xs,ds,h1,h2,s.free h3,h4,h5.imp (fun b z=>⟨s.free z.1,z.2⟩) (fun z=>z)⟩
 | T =>
  obtain ⟨as,h1,h2,h3⟩:=h
  exact ⟨as,h1,h2,fun a z=>s.free (h3 a z)⟩
end
def tDB (K:PySem.W.Frag) (fl:List Fl) (k:Kd) (f:FA):TA:=fun σ H Q=>∃ G ow δ ds,Rel K fl G ow σ H δ∧f δ=some ds∧∀ vs H',Same H H'→RAs K (uf G.H0 ow H k) (Ba k) H' vs ds→Q vs H'
abbrev DB (X:Cx) (fl:List Fl) (k:Kd) (es:List Expr) (f:FA):Prop:=PA X es (tDB X.K fl k f)
section
variable {X:Cx} {fl:List Fl} {e a b c:Expr} {es rest:List Expr} {k:Kd} {f fa fb fc:FE} {ft gt:FT} {pos:Pos}
theorem Bb:DB X fl k [] bH:=PA.imp jm fun σ H Q h=>by
 obtain ⟨G,ow,δ,ds,R,hf,q⟩:=h
 cases hf
 exact q [] H (Same.refl H) .nil
theorem wL {fr:FA} (hk:isR k=true) (h:DE X fl k e f) (hr:DB X fl k es fr) (hs:starEach (e :: es) X.env=(false,eval e X.env) :: starEach es X.env:=by exact dB rfl):DB X fl k (e :: es) (ao f fr):=PA.imp (eO h hr hs) fun σ H Q h=>by
 obtain ⟨G,ow,δ,ds,R,hf,q⟩:=h
 obtain ⟨d,e1,hf⟩:=bind1 hf
 obtain ⟨r,e2,hf⟩:=bind1 hf
 cases hf
 refine ⟨G,ow,δ,d,R,e1,fun v H1 s1 r1=>⟨G,ow,δ,r,R.grow s1,e2,fun vs H2 s2 r2=>?_⟩⟩
 exact q _ H2 (s1.trans s2) (.cons ((r1.ra hk).same s2) (r2.imp (rM s1 hk) (fun z=>z)))
theorem kj (h:DB X fl .P es fa'):DA X fl es fa':=PA.imp h fun σ H Q h=>by
 obtain ⟨G,ow,δ,ds,R,hf,q⟩:=h
 exact ⟨G,ow,δ,ds,R,hf,fun vs H' s r=>q vs H' s r⟩
theorem Bc {x1} {fa:FA} (hk:isR k=true) (h:DB X fl k es fa):DE X fl k (.Tuple es x1 pos) (dTup fa):=PE.imp (Ag h) fun σ H Q h=>by
 obtain ⟨G,ow,δ,d,R,hf,q⟩:=h
 obtain ⟨l,e1,e2⟩:=bind1 hf
 by_cases z:l.length ≤ sizeLine
 ·rw [if_pos z] at e2
  cases e2
  refine ⟨G,ow,δ,l,R,e1,fun vs H' s r=>⟨by rw [r.length];exact z,fun p hp=>?_⟩⟩
  have g:=eU hp (.tup vs)
  exact q _ _ (s.trans g) (Rs.of_ra hk (.tup dH (r.same g)))
 ·rw [if_neg z] at e2
  cases e2
theorem cJ {fa:FA} (h:DB X fl .C es fa):DE X fl .FC (.List es pos) (gP fa):=PE.imp (Ah h) fun σ H Q h=>by
 obtain ⟨G,ow,δ,d,R,hf,q⟩:=h
 obtain ⟨l,e1,e2⟩:=bind1 hf
 by_cases z:l.length ≤ sizeLine
 ·rw [if_pos z] at e2
  cases e2
  refine ⟨G,ow,δ,l,R,e1,fun vs H' s r=>⟨by rw [r.length];exact z,fun p hp=>?_⟩⟩
  have g:=eU hp (.lst vs)
  exact q _ _ (s.trans g) (.inr ⟨p,vs,l,rfl,rfl,s.free hp,dH,(r.track.imp (fun b w=>⟨w.1,fun e=>w.2 (e ▸ hp)⟩) (fun z=>z)).same g⟩)
 ·rw [if_neg z] at e2
  cases e2
theorem RAs.at {K:PySem.W.Frag} {ok:Ok} {pl:Bool} {H:Hp} {vs:List V} {l:List D} {i:Int} {d:D} (r:RAs K ok pl H vs l) (h:pAt l i=some d):∃ v,atI vs i=some v∧RA K ok pl H v d:=by
 unfold pAt at h
 unfold atI
 obtain ⟨j,e1,e2⟩:=bind1 h
 obtain ⟨y,e3,ry⟩:=r.get e2
 exact ⟨y,by rw [r.length,show ixN l.length i=some j from e1];exact e3,ry⟩
theorem Er {L:List Nat} (ha:DE X fl (.B L) a fa) (hb:DE X fl .P b fb) (hs:jT b):DE X fl .A (.Subscript a b pos) (dOp gIx fa fb):=PE.imp (yV Ak ha hb hs) fun σ H Q h=>by
 obtain ⟨G,ow,δ,d,R,hf,q⟩:=h
 obtain ⟨x,y,e1,e2,e3⟩:=nH hf
 refine ⟨G,ow,δ,x,R,e1,fun v H1 s1 r1=>⟨G,ow,δ,y,R.grow s1,e2,fun u H2 s2 r2=>?_⟩⟩
 unfold gIx at e3
 split at e3
 ·next l i =>
  obtain rfl:=RA.intE r2
  rcases r1 with r1 | ⟨i',_,p,xs,ds,ho,rfl,ez,hx,hr⟩
  ·obtain ⟨p,xs,rfl,hx,hr⟩:=RA.lstE (RA.same s2 r1)
   obtain ⟨z,ez,rz⟩:=hr.at e3
   exact .inl ⟨p,xs,i,z,rfl,rfl,hx,ez,q z H2 (s1.trans s2) rz⟩
  ·cases ez
   obtain ⟨z,ez,rz⟩:=(hr.same s2).at e3
   exact .inl ⟨p,xs,i,z,rfl,rfl,SqL.of (s2 _ _ hx),ez,q z H2 (s1.trans s2) rz⟩
 ·next l i =>
  obtain rfl:=RA.intE r2
  rcases r1 with r1 | ⟨i',_,p,xs,ds,ho,rfl,ez,hx,hr⟩
  ·obtain ⟨p,xs,rfl,hx,hr⟩:=RA.tupE (RA.same s2 r1)
   obtain ⟨z,ez,rz⟩:=hr.at e3
   exact .inr (.inl ⟨p,xs,i,z,rfl,rfl,hx,ez,q z H2 (s1.trans s2) rz⟩)
  ·cases ez
 ·cases e3
theorem ug {op:BoolOp} (h:DE X fl k a f):DE X fl k (.BoolOp op [a] pos) f:=zY h
theorem uh (h1:DE X fl .P a fa) (h2:DE X fl k (.BoolOp .And (b :: rest) pos) fb):DE X fl k (.BoolOp .And (a :: b :: rest) pos) (tM fa fb):=PE.imp (zZ h1 h2) fun σ H Q h=>by
 obtain ⟨G,ow,δ,d,R,hf,q⟩:=h
 obtain ⟨x,e1,e2⟩:=bind1 hf
 refine ⟨G,ow,δ,x,R,e1,fun v H1 s1 r1=>?_⟩
 split at e2
 ·obtain rfl:=RA.blE r1
  exact ⟨true,rfl,wg ⟨G,ow,δ,d,R.grow s1,e2,fun u H2 s2 r2=>q u H2 (s1.trans s2) (r2.back s1)⟩⟩
 ·obtain rfl:=RA.blE r1
  cases e2
  exact ⟨false,rfl,v9 (q _ H1 s1 (Rs.of_flat rfl (.bl _)))⟩
 ·cases e2
theorem Bd (h1:DE X fl .P a fa):DE X fl .FC (.UnaryOp .Not a pos) (wA fa):=PE.imp (z_ h1) fun σ H Q h=>by
 obtain ⟨G,ow,δ,d,R,hf,q⟩:=h
 obtain ⟨x,e1,e2⟩:=bind1 hf
 refine ⟨G,ow,δ,x,R,e1,fun v H1 s1 r1=>?_⟩
 split at e2
 ·next c =>
  obtain rfl:=RA.blE r1
  cases e2
  exact ⟨c,rfl,q _ H1 s1 (Rs.of_flat rfl (.bl _))⟩
 ·cases e2
theorem iV (h:DT X fl a ft):DT X fl (.UnaryOp .Not a pos) (iH ft):=PT.imp (zX h) fun σ H Q h=>by
 obtain ⟨G,ow,δ,t,R,hf,q⟩:=h
 unfold iH at hf
 cases e:ft δ with
 | none=>rw [e] at hf;cases hf
 | some x =>
  rw [e] at hf
  cases hf
  exact ⟨G,ow,δ,x,R,e,fun H' s=>q H' s⟩
theorem wM (h:DT X fl a ft):DW X fl (.BoolOp .And [a] pos) ft:=vK h
theorem kE (h:DT X fl a ft):DW X fl (.BoolOp .Or [a] pos) ft:=zV h
theorem Bf (h1:DT X fl a ft) (h2:DW X fl (.BoolOp .And (b :: rest) pos) gt):DW X fl (.BoolOp .And (a :: b :: rest) pos) (q_ ft gt):=PW.imp (zW h1 h2) fun σ H Q h=>by
 obtain ⟨G,ow,δ,t,R,hf,q⟩:=h
 obtain ⟨x,e1,e2⟩:=bind1 hf
 refine ⟨G,ow,δ,x,R,e1,fun H1 s1=>?_⟩
 cases x with
 | true=>exact wg ⟨G,ow,δ,t,R.grow s1,e2,fun H2 s2=>q H2 (s1.trans s2)⟩
 | false=>cases e2;exact v9 (q H1 s1)
theorem nO (h1:DT X fl a ft) (h2:DW X fl (.BoolOp .Or (b :: rest) pos) gt):DW X fl (.BoolOp .Or (a :: b :: rest) pos) (tOr ft gt):=PW.imp (Dj h1 h2) fun σ H Q h=>by
 obtain ⟨G,ow,δ,t,R,hf,q⟩:=h
 obtain ⟨x,e1,e2⟩:=bind1 hf
 refine ⟨G,ow,δ,x,R,e1,fun H1 s1=>?_⟩
 cases x with
 | true=>cases e2;exact wg (q H1 s1)
 | false=>exact v9 ⟨G,ow,δ,t,R.grow s1,e2,fun H2 s2=>q H2 (s1.trans s2)⟩
theorem rN (h:DW X fl a ft):DT X fl a ft:=PW.pt h
theorem Bg {K:PySem.W.Frag} {ok:Ok} {pl:Bool} {H:Hp} {v:V} {d:D} (r:RA K ok pl H v d):decide (v = .non)=isNone d:=by
 cases r <;> rfl
def BrC (K:PySem.W.Frag) (r:List V→Hp→VK→Prop) (g:List D→Option D):Prop:=∀ (H:Hp) (xs:List V) (ds:List D) (d:D) (Q:VK),RAs K ok1 true H xs ds→g ds=some d→(∀ v,flat d=true→RA K ok0 false H v d→Q v H)→r xs H Q
theorem jt {id:String} {r:List V→Hp→VK→Prop} {g:List D→Option D} {x:Str} {p:Pos} {fa:FA} (hc:lE X (.builtin id) r) (hb:BrC X.K r g) (hg:Gl X x) (hm:X.mg x=none) (hv:bootBuiltins x=some (.builtin id)) (ha:DB X fl .P (e :: es) fa) (hn:x ≠ "__name__" := by decide) (hdb:(x == ("__debug__" : Str))=false:=by decide)
 (he:starEach (e :: es) X.env=(false,eval e X.env) :: starEach es X.env:=by exact dB rfl) (hpl:(backTo pos (starEach es X.env)).any (·.1)=false:=by exact jK rfl):DE X fl .FC (.Call (.Name x p) (e :: es) [] pos) (dCall g fa) :=
 PE.imp (nq hc hg hm hv ha hn hdb he hpl) fun σ H Q h=>by
 obtain ⟨G,ow,δ,d,R,hf,q⟩:=h
 obtain ⟨ds,e1,e2⟩:=bind1 hf
 exact ⟨G,ow,δ,ds,R,e1,fun vs H' s r'=>hb H' vs ds d Q r' e2 fun v hv rv=>q v H' s (.inl ⟨hv,rv⟩)⟩
theorem lO {K:PySem.W.Frag}:BrC K (fun xs H Q=>∃ p ys,xs=[.ref p]∧(SqL K H p ys∨SqT K H p ys)∧Q (.int ys.length) H) nF:=by
 intro H xs ds d Q r e q
 unfold nF at e
 split at e
 ·next l =>
  cases e
  cases r with
  | cons r1 r2 =>
   cases r2
   obtain ⟨a,ys,rfl,hx,hr⟩:=r1.lstE
   refine ⟨a,ys,rfl,.inl hx,?_⟩
   rw [hr.length]
   exact q _ rfl (.int _)
 ·next l =>
  cases e
  cases r with
  | cons r1 r2 =>
   cases r2
   obtain ⟨a,ys,rfl,hx,hr⟩:=r1.tupE
   refine ⟨a,ys,rfl,.inr hx,?_⟩
   rw [hr.length]
   exact q _ rfl (.int _)
 ·cases e
theorem wN (d:D):tyD d = "NoneType" ∨ tyD d = "bool" ∨ tyD d = "int" ∨ tyD d = "str" ∨ tyD d = "list" ∨ tyD d = "tuple" ∨ tyD d = "dict" := by
 cases d <;> simp [tyD]
def Hg (K:PySem.W.Frag):List V→Hp→VK→Prop:=fun xs H Q=>∃ x c d,xs=[x,.ty c]∧(c = "int" ∨ c = "bool" ∨ c = "tuple" ∨ c = "list" ∨ c = "str")∧RA K ok1 true H x d∧noX d=true∧Q (.bl (isT c (tyD d))) H
theorem um:lE X (.builtin "isinstance") (Hg X.K):=by
 intro pins s σ H xs us Q I r h
 obtain ⟨x,c,d,rfl,hc,ra,hx,q⟩:=h
 obtain ⟨u,w',rfl,rx,rc⟩:=vals2 r
 cases rc
 have kn:=Aq (K:=X.K) hc (wN d)
 have fin:∀ tk,EP X pins σ Q (.bool (isT c (tyD d))) { s with toks:=tk }:=fun tk=>⟨.bl _,H,I.tok _,rfl,q⟩
 cases ra with
 | non=>cases (show u=Value.none from rx);exact PySem.W.kia_one PySem.W.kitx_none I.kIn True.intro kn (fun z=>nomatch z) fin
 | bl b=>cases (show u=Value.bool b from rx);exact PySem.W.kia_one PySem.W.kitx_bool I.kIn True.intro kn (fun z=>nomatch z) fin
 | int i=>obtain ⟨t,z⟩:=(show ∃ t,u=Value.int i t from rx);cases z;exact PySem.W.kia_one PySem.W.kitx_int I.kIn True.intro kn (fun z=>nomatch z) fin
 | str y=>obtain ⟨t,z⟩:=(show ∃ t,u=Value.str y t from rx);cases z;exact PySem.W.kia_one PySem.W.kitx_str I.kIn True.intro kn (fun z=>nomatch z) fin
 | @lst a xs ds e k q' =>
  cases (show u=Value.ref a from rx)
  obtain ⟨its,_,⟨o,n,e1,e2,_⟩,_⟩:=I.list (SqL.of e)
  exact PySem.W.kia_one PySem.W.kitx_list I.kIn ⟨_,e1,e2⟩ kn (fun z=>nomatch z) fin
 | @lsk a xs ds e k q' =>
  cases (show u=Value.ref a from rx)
  obtain ⟨its,_,⟨o,n,e1,e2,_⟩,_⟩:=I.list e.sq
  exact PySem.W.kia_one PySem.W.kitx_list I.kIn ⟨_,e1,e2⟩ kn (fun z=>nomatch z) fin
 | @tup a xs ds e q' =>
  cases (show u=Value.ref a from rx)
  obtain ⟨its,_,⟨o,e1,e2,_⟩,_⟩:=I.tuple e.sq
  exact PySem.W.kia_one PySem.W.kitx_tuple I.kIn ⟨_,e1,e2⟩ kn (fun z=>nomatch z) fin
 | @dic a u0 kvs e g k =>
  rcases g.or with ⟨ks,z⟩ | ⟨ks,z⟩
  ·rw [z] at e;exact lG I rx (TyOf.dK e) kn fin
  ·rw [z] at e;exact lG I rx (TyOf.dT e) kn fin
 | exc _ _=>cases hx
 | @dik a u0 kvs ob e g k =>
  cases (show u=Value.ref a from rx)
  have ob:=(show dF X.prog X.w H s.heap a u0 from (show L2.Rd H a u0 from .inr ⟨_,e⟩).ok I.hok)
  rcases g.or with ⟨ks,z⟩ | ⟨ks,z⟩
  ·rw [z] at ob
   obtain ⟨_,_,vs,_,dd⟩:=ob
   obtain ⟨o1,_,_,h1,h2,_⟩:=dd
   exact PySem.W.kia_one PySem.W.kitx_dict I.kIn ⟨_,h1,h2.1⟩ kn (fun z=>nomatch z) fin
  ·rw [z] at ob
   obtain ⟨_,_,xs,_,o1,_,_,h1,h2,_⟩:=ob
   exact PySem.W.kia_one PySem.W.kitx_dict I.kIn ⟨_,h1,h2.1⟩ kn (fun z=>nomatch z) fin
theorem pA {T:String} {x:Str} {p p':Pos} (hc:T = "int" ∨ T = "bool" ∨ T = "tuple" ∨ T = "list" ∨ T = "str") (h:DE X fl .P a f) (hg:Gl X "isinstance") (hm:X.mg "isinstance" = none) (hg':Gl X x) (hm':X.mg x=none) (hv':bootBuiltins x=some (.type T))
 (hn':x ≠ "__name__" := by decide) (hd':(x == ("__debug__" : Str))=false:=by decide)
 (he:starEach [a,.Name x p'] X.env=(false,eval a X.env) :: starEach [.Name x p'] X.env:=by rfl) (he2:starEach [.Name x p'] X.env=(false,eval (.Name x p') X.env) :: starEach [] X.env:=by rfl) (hpl:(backTo pos (starEach [.Name x p'] X.env)).any (·.1)=false:=by rfl) :
 DE X fl .FC (.Call (.Name "isinstance" p) [a,.Name x p'] [] pos) (dUn (gIs T) f) :=
 PE.imp (nq um hg hm boot_isinstance (eO h (eO (pO (v:=.ty T) hg' hm' hv' rfl hn' hd') jm he2) he) (by decide) (by decide) he hpl) fun σ H Q h=>by
 obtain ⟨G,ow,δ,d,R,hf,q⟩:=h
 obtain ⟨x,e1,e2⟩:=bind1 hf
 unfold gIs at e2
 split at e2
 ·rename_i hx
  cases e2
  exact ⟨G,ow,δ,x,R,e1,fun v H1 s1 r1=>⟨v,T,x,rfl,hc,r1,hx,q _ H1 s1 (.inl ⟨rfl,.bl _⟩)⟩⟩
 ·cases e2
end
def spD (K:PySem.W.Frag) (F:List D→Option D):Sp:=fun vs H Q _=>∃ ds d,(Tb H∧RAs K ok1 true H vs ds)∧F ds=some d∧∀ v H',Same H H'→RA K (okN H) false H' v d→Q v H'
section
variable {P:Program} {w:World} {K:PySem.W.Frag} {mg:Str→Option Value} {base:Heap} {x:Str} {ps N:List Str} {st:Stmt} {k n:Nat} {fs:FS} {fl:List Fl}
theorem lQ {vs:List V} {ds:List D} {H:Hp} (p:Nat) (hp:∀ i,i < p→fl[i]? = some .A) (hl:ds.length=p) (hN:p ≤ N.length) (r':Tb H∧RAs K ok1 true H vs ds) :
 Rel K fl ⟨H,H,fun _=>none,fun _=>[],r'.1⟩ ow0 (L2.start N vs) H (ds.map (fun d=>some (.d d))++bC (N.length - p) none):=by
 have r:=r'.2
 have hv:vs.length=p:=by rw [r.length];exact hl
 have get:∀ i d,(ds.map (fun d=>some (U.d d))++bC (N.length - p) none)[i]? = some (some (.d d))→i < p∧ds[i]? = some d:=fun i d h=>by
  by_cases hi:i < p
  ·rw [bO (by rw [aX,hl];exact hi),bI] at h
   cases e:ds[i]? with
   | none=>rw [e] at h;cases h
   | some z=>rw [e] at h;cases h;exact ⟨hi,rfl⟩
  ·rw [bL (by rw [aX,hl];omega),cD] at h
   split at h <;> cases h
 refine ⟨Same.refl H,Same.refl H,?_,fun i a h=>(by cases h),fun i j a h=>(by cases h),fun i h=>rfl,fun i d h _ _=>?_,fun i d h _ h2 _=>?_,fun i a h=>(by cases h),fun i j a h=>(by cases h),fun i j a h=>(by cases h),fun i h=>rfl,fun i d hn h=>?_⟩
 ·unfold L2.start
  simp only [bM,aX,aR,hv,hl]
 ·obtain ⟨hi,e⟩:=get i d h
  obtain ⟨v,e1,e2⟩:=r.get e
  refine ⟨v,?_,e2.imp (fun _ _=>⟨fun i z=>(by cases z),fun i z=>(by cases z)⟩) (fun z=>z)⟩
  unfold L2.start
  rw [bO (by rw [aX,hv];exact hi),bI,e1]
  rfl
 ·exact absurd (hp i (get i d h).1) h2
 ·rw [hp i (get i d h).1] at hn
  cases hn
end
section
variable {X:Cx} {fl:List Fl} {e:Expr} {es:List Expr} {pos p:Pos} {x:Str} {ps:List Str} {n:Nat} {F:List D→Option D} {fa:FA}
theorem bU (h:Has X.prog X.w X.K X.mg X.base n x ps (spD X.K F)) (hr:Room n X.A) (ha:DB X fl .P (e :: es) fa) (hg:Gl X x:=by rfl) (hdb:(x == ("__debug__" : Str))=false:=by decide)
 (he:starEach (e :: es) X.env=(false,eval e X.env) :: starEach es X.env:=by exact dB rfl) (hpl:(backTo pos (starEach es X.env)).any (·.1)=false:=by exact jK rfl) :
 DE X fl .C (.Call (.Name x p) (e :: es) [] pos) (dCall F fa):=PE.imp (tE h hr ha hg hdb he hpl) fun σ H Q h=>by
 obtain ⟨G,ow,δ,d,R,hf,q⟩:=h
 obtain ⟨ds,e1,e2⟩:=bind1 hf
 refine ⟨G,ow,δ,ds,R,e1,fun vs H' s r=>?_⟩
 show spD X.K F (vs++[]) H' Q E0
 rw [fQ]
 exact ⟨ds,d,⟨R.tb.same s,r⟩,e2,fun v H2 s2 r2=>q v H2 (s.trans s2) (RA.imp (fun a z=>s.free z) (fun z=>z) r2)⟩
end
end D3
namespace D3
open PySem PySem.Spec PyProof.Rows L2 My
section
variable {X:Cx} {fl fl':List Fl} {e a b c elt tg iter:Expr} {es ifs:List Expr} {k:Kd} {f fa fb fc:FE} {ft gt:FT} {pos:Pos} {scope:Scope} {ix L TT:List Nat} {fi:FA} {g:FG}
theorem iB:PTs X [] (tDT X.K fl D3.gw):=fun pins s σ H Q I h=>by
 obtain ⟨G,ow,δ,b,R,hf,q⟩:=h
 cases hf
 exact wj pins s σ H Q I (q H (Same.refl H))
theorem wO {K:PySem.W.Frag} {G:Gh} {ow:Ow} {σ:St} {H H1:Hp} {δ:DS} (t:Nat) (ix:List Nat) (hfl:∀ i,i < t + ix.length→fl'[i]? = some .A) (R:Rel K fl G ow σ H δ) (s:Same H H1) :
 Rel K fl' ⟨H,H,fun _=>none,fun _=>[],R.tb⟩ ow0 (mH t ix σ) H1 (jx t ix δ):=by
 have get:∀ i d,(jx t ix δ)[i]? = some (some (.d d))→i < t + ix.length∧∃ j,ix[i - t]? = some j∧t ≤ i∧δ[j]? = some (some (.d d)):=fun i d h=>by
  unfold jx at h
  by_cases hi:i < t
  ·rw [bO (by rw [aR];exact hi),cD,if_pos hi] at h
   cases h
  ·rw [bL (by rw [aR];omega),aR,bI] at h
   cases e:ix[i - t]? with
   | none=>rw [e] at h;cases h
   | some j =>
    rw [e] at h
    have hl:i - t < ix.length:=by
     rcases Nat.lt_or_ge (i - t) ix.length with z | z
     ·exact z
     ·rw [b_ z] at e;cases e
    refine ⟨by omega,j,rfl,by omega,?_⟩
    have h':(δ[j]?).getD none=some (.d d):=by simpa using h
    cases q:δ[j]? with
    | none=>rw [q] at h';cases h'
    | some o=>rw [q] at h';simp at h';rw [h']
 refine ⟨Same.refl H,s,?_,fun i a h=>(by cases h),fun i j a h=>(by cases h),fun i h=>rfl,fun i d h _ _=>?_,fun i d h _ h2 _=>absurd (hfl i (get i d h).1) h2,fun i a h=>(by cases h),fun i j a h=>(by cases h),fun i j a h=>(by cases h),fun i h=>rfl,fun i d hn h=>(by rw [hfl i (get i d h).1] at hn;cases hn)⟩
 ·unfold mH jx
  simp
 ·obtain ⟨hi,j,ej,ht,ed⟩:=get i d h
  have key:∃ v,σ[j]? = some (some v)∧RA K ok1 true H v d:=by
   cases hN:isN fl[j]? with
   | true =>
    obtain ⟨v,h1,h2,_⟩:=R.nr j d hN ed
    exact ⟨v,h1,h2.ra fun _ _=>trivial⟩
   | false =>
   cases ho:ow j with
   | none =>
    obtain ⟨v,h1,h2⟩:=R.dat j d ed hN ho
    exact ⟨v,h1,h2.imp (fun _ _=>trivial) (fun z=>z)⟩
   | some a =>
    obtain ⟨_,_,xs,ds,h1,h2,h3,h4⟩:=R.own j a ho
    rw [ed] at h4
    cases h4
    exact ⟨_,h1,.lst h2 trivial (h3.imp (fun _ _=>trivial) (fun z=>z))⟩
  obtain ⟨v,h1,h2⟩:=key
  refine ⟨v,?_,(h2.imp (fun _ _=>⟨fun i z=>(by cases z),fun i z=>(by cases z)⟩) (fun z=>z)).same s⟩
  unfold mH
  rw [bL (by rw [aR];omega),aR,bI,ej]
  show some ((σ[j]?).getD none)=_
  rw [h1]
  rfl
theorem nP {σ:St} {H:Hp} {Q:VK} {t:Nat} (hfl:∀ i,i < t + ix.length→fl'[i]? = some .A) (htg:∀ j ∈ TT,j < t)
 (h:tD X.K fl .FC (iR fi g ft f t ix) σ H Q):tK (tDI X.K fl L fi) (tDG X.K fl' TT g) (tDT X.K fl' ft) (tD X.K fl' .C f) t (mH t ix) σ H Q:=by
 obtain ⟨G,ow,δ,d,R,hf,q⟩:=h
 obtain ⟨l,e1,e2⟩:=bind1 hf
 by_cases hl:l.length ≤ 100000
 case neg=>rw [if_neg hl] at e2;cases e2
 rw [if_pos hl] at e2
 obtain ⟨r,e3,e4⟩:=bind1 e2
 cases e4
 refine ⟨G,ow,δ,l,R,e1,fun J H1 s1 wk Dl hD=>?_⟩
 have R1:=R.grow s1
 let okD:Ok:=fun b=>okN H b∧b ≠ Dl
 refine ⟨fun i m xs H2=>m=l.length - i∧H2 Dl=some (.lst xs)∧Same H1 H2∧xs.length ≤ i∧i ≤ l.length∧∃ ds rest,RAs X.K okD false H2 xs ds∧d_ g ft f (jx t ix δ) (l.drop i)=some rest∧r=ds++rest,
  ⟨_,rfl,dH,eU hD _,aU _,gC _,[],r,.nil,by simpa using e3,rfl⟩,?_⟩
 rintro i m xs H2 ⟨rfl,hDl,s2,hxl,hil,ds,rest,hr,hc,rfl⟩
 refine ⟨hDl,?_⟩
 obtain ⟨w1,w2⟩:=wk H2 (fun b o hb _ _=>s2 b o hb) i
 by_cases hlt:i < l.length
 ·have hdrop:l.drop i=l[i] :: l.drop (i + 1):=gq hlt
  rw [hdrop,d_] at hc
  obtain ⟨δ1,e5,hc⟩:=bind1 hc
  obtain ⟨bb,e6,hc⟩:=bind1 hc
  obtain ⟨go,yl⟩:=w1 l[i] (bR hlt)
  refine .inr ⟨go,Nat.lt_of_le_of_lt (aV hxl (aV hil hl)) (by decide),fun x H3 hy=>?_⟩
  obtain ⟨s3,r3⟩:=yl x H3 hy
  have s13:=s2.trans s3
  have Rb:=(wO t ix hfl R1 (Same.refl H1)).grow s13
  refine ⟨_,_,_,_,δ1,Rb,r3.imp (fun _ _=>⟨fun i z=>(by cases z),fun i z=>(by cases z)⟩) (fun z=>z),e5,fun σ4 R4 keep4=>⟨?_,?_⟩⟩
  ·apply List.ext_getElem?
   intro n
   rw [gb,gb]
   exact keep4 (t + n) fun z=>absurd (htg _ z) (by omega)
  ·refine ⟨_,_,δ1,bb,R4,e6,fun H5 s5=>?_⟩
   cases bb with
   | false =>
    rw [if_neg f9] at hc ⊢
    have s35:=s3.trans s5
    exact ⟨l.length - (i + 1),by omega,rfl,s35 _ _ hDl,s2.trans s35,by omega,hlt,ds,rest,hr.same s35,hc,rfl⟩
   | true =>
    rw [if_pos rfl] at hc ⊢
    obtain ⟨y,e7,hc⟩:=bind1 hc
    obtain ⟨l',e8,hc⟩:=bind1 hc
    cases hc
    refine ⟨_,_,δ1,y,R4.grow s5,e7,fun v H6 s6 r6=>?_⟩
    have s35:=s3.trans s5
    have s36:=s35.trans s6
    refine ⟨s36 _ _ hDl,l.length - (i + 1),by omega,rfl,dH,?_,by rw [bM,iG];omega,hlt,ds++[y],l',?_,e8,by simp⟩
    ·intro b o hb
     rw [bK (fun z=>by subst z;rw [hD] at hb;cases hb)]
     exact (s2.trans s36) b o hb
    ·have nd:¬ okD Dl:=fun z=>z.2 rfl
     have s05:Same H H5:=s1.trans (s2.trans s35)
     have ry:RA X.K okD false H6 v y:=RA.imp (fun b z=>⟨s05.free z,fun e=>by subst e;rw [okN,s35 _ _ hDl] at z;cases z⟩) (fun z=>z) r6
     exact ((hr.same s36).append (.cons ry .nil)).upd (s36 _ _ hDl) nd
 ·have ed:l.drop i=[]:=gZ (by omega)
  rw [ed,d_] at hc
  cases hc
  refine .inl ⟨w2 (by omega),?_⟩
  rw [fQ] at q
  exact q (.ref Dl) H2 (s1.trans s2) (.inr ⟨Dl,xs,ds,rfl,rfl,s1.free hD,hDl,hr⟩)
theorem iD (hc:X.calm=true) (T Vn:List Str) (ix:List Nat) (hi:DI X fl L tg iter fi)
 (hg:∀ cl C s3 H3 fp,DG (blk X (T++Vn) scope cl C s3 H3 fp) fl' TT tg g) (ht:∀ cl C s3 H3 fp,PTs (blk X (T++Vn) scope cl C s3 H3 fp) ifs (tDT X.K fl' ft)) (he:∀ cl C s3 H3 fp,DE (blk X (T++Vn) scope cl C s3 H3 fp) fl' .C elt f)
 (hfl:∀ i,i < T.length + ix.length→fl'[i]? = some .A:=by decide) (htg:∀ j ∈ TT,j < T.length:=by decide)
 (hB:mG X.N X.env.scope.names scope.names Vn ix=true:=by rfl) (hk:scope.kind = .function:=by rfl) (hcell:∀ y ∈ scope.names,y.2 ≠ .cell:=by decide +kernel)
 (hnames:∀ x ∈ scope.names,x.2 = .local→scope.names.lookup x.1=some .local:=by decide +kernel)
 (hfr:∀ x ∈ scope.names,x.2 = .free→x.1 ∈ Vn:=by decide +kernel) (hs:∀ x,foldedSetIterable iter X.env x=pure x:=by intro _;rfl) :
 DE X fl .FC (.ListComp elt [⟨tg,iter,ifs,0⟩] scope pos) (iR fi g ft f T.length ix) :=
 PE.imp (wu hc T Vn ix hi hg ht he hB hk hcell hnames hfr hs) fun _ _ _ h=>nP hfl htg h
theorem zq {K:PySem.W.Frag} {G:Gh} {ow:Ow} {H H1:Hp} {p:Addr} {vs:List V} {l:List D} (s:Same H H1) (hp:H1 p=none) (r:RAs K (okA ow) true H1 vs l):Rs K G.H0 ow H (upd H1 p (.lst vs)) .F (.ref p) (.list l) :=
 .inr ⟨p,vs,l,rfl,rfl,s.free hp,dH,(r.track.imp (fun b w=>⟨w.1,fun e=>w.2 (e ▸ hp)⟩) (fun z=>z)).same (eU hp _)⟩
theorem pB {K:PySem.W.Frag} {H0:Hp} {ow:Ow} {Hb H:Hp} {L:List Nat} {v:V} {l:List D} (r:Rs K H0 ow Hb H (.B L) v (.list l)):∃ a xs,v = .ref a∧SqL K H a xs∧RAs K (okA ow) true H xs l:=by
 rcases r with r | ⟨i,hi,a,xs,ds,ho,rfl,e,hx,hr⟩
 ·exact r.lstE
 ·cases e
  exact ⟨a,xs,rfl,SqL.of hx,hr⟩
def Es (K:PySem.W.Frag):R2:=fun x y H Q=>∃ l b xs zs,x = .ref l∧y = .ref b∧SqL K H l xs∧SqL K H b zs∧xs.length + zs.length ≤ sizeLine∧∀ p,H p=none→Q (.ref p) (upd H p (.lst (xs++zs)))
theorem wQ:OpR X (binaryOp .Add) (Es X.K):=by
 intro pins s σ H x y v u Q I rx ry h
 obtain ⟨l,b,xs,zs,rfl,rfl,hH,hB,hz,q⟩:=h
 cases rx
 cases ry
 obtain ⟨its,r,p,_⟩:=I.list hH
 obtain ⟨its2,r2,p2,_⟩:=I.list hB
 obtain ⟨⟨cls,dd,data,sl⟩,ho,hc,n,hd⟩:=p.isList
 obtain ⟨⟨cls2,dd2,data2,sl2⟩,ho2,hc2,n2,hd2⟩:=p2.isList
 simp only at hc hd hc2 hd2
 subst hc hd hc2 hd2
 have e1:=r.length
 have e2:=r2.length
 have e:its.toArray++its2.toArray=(its++its2).toArray:=by simp
 refine concat_meets ⟨_,ho,rfl⟩ ⟨_,ho2,rfl⟩ noFill_list_add seq_list_add PySem.F.slot_list_add PySem.F.entry_list_add (PySem.F.args_list_add_2 _ _) (list_addW l b its.toArray its2.toArray n n2 dd dd2 sl sl2 (by simp;omega)) ⟨ho,ho2,?_⟩
 rw [e]
 exact ⟨.ref _,_,I.lnew (t':=s.toks) (r.append r2) (by rw [bM];omega),rfl,q _ I.fresh⟩
theorem eY {L L':List Nat} (h1:DE X fl (.B L) a fa) (h2:DE X fl (.B L') b fb):DE X fl .F (.BinOp a .Add b pos) (dOp gA fa fb):=PE.imp (yR wQ h1 h2) fun σ H Q h=>by
 obtain ⟨G,ow,δ,d,R,hf,q⟩:=h
 obtain ⟨x,y,e1,e2,e3⟩:=nH hf
 refine ⟨G,ow,δ,x,R,e1,fun v H1 s1 r1=>⟨G,ow,δ,y,R.grow s1,e2,fun u H2 s2 r2=>?_⟩⟩
 unfold gA at e3
 split at e3
 ·next l m =>
  by_cases z:l.length + m.length ≤ 1000000
  ·rw [if_pos z] at e3
   cases e3
   obtain ⟨p,xs,rfl,hx,hr⟩:=pB r1
   obtain ⟨p',ys,rfl,hy,hr'⟩:=pB r2
   refine ⟨p,p',xs,ys,rfl,rfl,s2.seq hx,hy,?_,fun pn hp=>q _ _ ((s1.trans s2).trans (eU hp _)) (zq (G:=G) (s1.trans s2) hp ((hr.same s2).append hr'))⟩
   rw [hr.length,hr'.length]
   exact aV z (by decide)
  ·rw [if_neg z] at e3
   cases e3
 ·cases e3
def tDO (K:PySem.W.Frag) (fl:List Fl) (f:FO):TO:=fun σ H Q=>∃ G ow δ o,Rel K fl G ow σ H δ∧f δ=some o∧∀ H',Same H H'→Q o H'
theorem PO.imp {o:Option Expr} {t t':TO} (h:PO X o t) (i:∀ σ H Q,t' σ H Q→t σ H Q):PO X o t':=fun pins s σ H Q I q=>h pins s σ H Q I (i σ H Q q)
theorem gF:PO X none (tDO X.K fl jh):=PO.imp vW fun σ H Q h=>by
 obtain ⟨G,ow,δ,o,R,hf,q⟩:=h
 cases hf
 exact q H (Same.refl H)
theorem d8 (h:DE X fl .P e f):PO X (some e) (tDO X.K fl (gk f)):=PO.imp (vX h) fun σ H Q h=>by
 obtain ⟨G,ow,δ,o,R,hf,q⟩:=h
 obtain ⟨d,e1,e2⟩:=bind1 hf
 split at e2
 ·cases e2
  refine ⟨G,ow,δ,_,R,e1,fun v H1 s1 r1=>?_⟩
  obtain rfl:=RA.intE r1
  exact ⟨_,rfl,q H1 s1⟩
 ·cases e2
theorem uo (n d:Nat) (o:Option Int):HT.sIx n d o=pSx n d o:=by
 cases o <;> rfl
theorem RAs.cut {K:PySem.W.Frag} {ok:Ok} {pl:Bool} {H:Hp} {vs:List V} {l:List D} (r:RAs K ok pl H vs l) (lo hi:Option Int):RAs K ok pl H (rD vs lo hi) (cutD l lo hi):=by
 unfold rD cutD
 rw [r.length,uo,uo]
 exact (r.drop _).take _
theorem jj {L:List Nat} {lo hi:Option Expr} {p2:Pos} {fl1 fh:FO} (h:DE X fl (.B L) a f) (h1:PO X lo (tDO X.K fl fl1)) (h2:PO X hi (tDO X.K fl fh)):DE X fl .F (.Subscript a (.Slice lo hi none p2) pos) (dSl f fl1 fh):=PE.imp (sW v5 h h1 h2) fun σ H Q h=>by
 obtain ⟨G,ow,δ,d,R,hf,q⟩:=h
 obtain ⟨x,e1,hf⟩:=bind1 hf
 obtain ⟨o1,e2,hf⟩:=bind1 hf
 obtain ⟨o2,e3,e4⟩:=bind1 hf
 refine ⟨G,ow,δ,x,R,e1,fun v H1 s1 r1=>⟨G,ow,δ,o1,R.grow s1,e2,fun H2 s2=>⟨G,ow,δ,o2,R.grow (s1.trans s2),e3,fun H3 s3=>?_⟩⟩⟩
 split at e4
 ·cases e4
  obtain ⟨p,xs,rfl,hx,hr⟩:=pB r1
  have s13:=s2.trans s3
  exact ⟨p,xs,rfl,s13.seq hx,fun pn hp=>q _ _ ((s1.trans s13).trans (eU hp _)) (zq (G:=G) (s1.trans s13) hp ((hr.same s13).cut o1 o2))⟩
 ·cases e4
end
end D3
namespace D3
open PySem PySem.Spec PyProof.Rows L2 My
section
variable {X:Cx} {pins:List (Addr × Obj)} {σ:St} {H:Hp} {s:Shared} {h':Heap}
end
section
variable {X:Cx} {fl:List Fl} {a:Expr} {f:FE} {pos:Pos}
end
structure Bl (mg:Str→Option Value):Prop where
 len_:mg "len" = none
 range_:mg "range" = none
 abs_:mg "abs" = none
 isinstance_:mg "isinstance" = none
 int_:mg "int" = none
 bool_:mg "bool" = none
 tuple_:mg "tuple" = none
 list_:mg "list" = none
 str_:mg "str" = none
 max_:mg "max" = none
 min_:mg "min" = none
 sorted_:mg "sorted" = none
 sum_:mg "sum" = none
 reversed_:mg "reversed" = none
 enumerate_:mg "enumerate" = none
 zip_:mg "zip" = none
 set_:mg "set" = none
 any_:mg "any" = none
 all_:mg "all" = none
 dict_:mg "dict" = none
end D3
namespace D3
open PySem PySem.Spec PyProof.Rows L2 My
structure FunD (K:PySem.W.Frag) (x:Str) (st:Stmt) (f:Addr) (fd:FuncData):Prop where
 ex:∃ (oc:Value) (od:Option Addr) (dV kV doc pm:Value) (an:Option Addr) (cdv ct:Value) (osl:Array (Option Value)),
  fd=PySem.W.fnOf x x (iZ st) (fY st) (bw st) dV kV doc pm an cdv ct∧K.lookup f=some ⟨oc,od,.func fd,osl⟩∧PySem.W.codeIn K cdv x=true
 kp:PySem.W.keepIn K (.ref f)=true
structure Dg (K:PySem.W.Frag) (mg:Str→Option Value) (x:Str) (st:Stmt) (ps:List Str):Prop where
 ex:∃ (f:Addr) (fd:FuncData),FunD K x st f fd∧Binds K fd ps []∧mg x=some (.ref f)
theorem gG {K:PySem.W.Frag} {h:Heap} {mg:Str→Option Value} {f:Addr} {oc kV dc pm cd ct:Value} {od an:Option Addr} {sl:Array (Option Value)} {x:Str} {st:Stmt} {ps:List Str} (X:K.In h) (G:h.Ns mainGlobals mg)
 (hb:∀ (kV doc pm:Value) (an:Option Addr) (cdv ct:Value) (us:List Value),us.length=ps.length→bindArgs (PySem.W.fnOf x x (iZ st) (fY st) (bw st) .none kV doc pm an cdv ct) ⟨us,[]⟩=pure (ps.zip us))
 (a:PySem.W.nsIn K mainGlobals x=some (some (.ref f))) (l:K.lookup f=some ⟨oc,od,.func (PySem.W.fnOf x x (iZ st) (fY st) (bw st) .none kV dc pm an cd ct),sl⟩) (c:PySem.W.codeIn K cd x=true) (k:PySem.W.keepIn K (.ref f)=true):Dg K mg x st ps :=
 ⟨_,_,⟨⟨oc,od,.none,kV,dc,pm,an,cd,ct,sl,rfl,l,c⟩,k⟩,.all (hb kV dc pm an cd ct),PySem.W.mg_of X G a⟩
structure Dl (K:PySem.W.Frag) (mg:Str→Option Value) (x y:Str) (st:Stmt):Prop where
 ex:∃ (f:Addr) (fd:FuncData),FunD K x st f fd∧(∀ (s:Shared) (u:Value),BindsTo s fd ⟨[u],[]⟩ [(y,u)])∧mg x=some (.ref f)
theorem Et {K:PySem.W.Frag} {h:Heap} {mg:Str→Option Value} {f:Addr} {oc kV dc pm cd ct:Value} {od an:Option Addr} {sl:Array (Option Value)} {x y:Str} {st:Stmt} (X:K.In h) (G:h.Ns mainGlobals mg)
 (hb:∀ (kV doc pm:Value) (an:Option Addr) (cdv ct:Value) (u:Value),bindArgs (PySem.W.fnOf x x (iZ st) (fY st) (bw st) .none kV doc pm an cdv ct) ⟨[u],[]⟩=pure [(y,u)])
 (a:PySem.W.nsIn K mainGlobals x=some (some (.ref f))) (l:K.lookup f=some ⟨oc,od,.func (PySem.W.fnOf x x (iZ st) (fY st) (bw st) .none kV dc pm an cd ct),sl⟩) (c:PySem.W.codeIn K cd x=true) (k:PySem.W.keepIn K (.ref f)=true):Dl K mg x y st :=
 ⟨_,_,⟨⟨oc,od,.none,kV,dc,pm,an,cd,ct,sl,rfl,l,c⟩,k⟩,fun s u=>.of_eq (hb kV dc pm an cd ct u),PySem.W.mg_of X G a⟩
section
variable {P:Program} {w:World} {K:PySem.W.Frag} {mg:Str→Option Value} {base:Heap} {x:Str} {ps N:List Str} {st:Stmt} {k n:Nat} {fs:FS} {fl:List Fl}
theorem FunD.ok {f:Addr} {fd:FuncData} {sp:Sp} (F:FunD K x st f fd) (S:FnScope N ps (bw st)) (len:∀ vs H Q E,sp vs H Q E→vs.length=ps.length)
 (hbody:∀ (cdv:Value) (A:Around) (outer:List Env) (s:Shared) (H:Hp) (vs:List V) (Q:VK) (E:XK),Room k (A.deeper (envOfC x (bw st) s.heap.objs.size f cdv))→sp vs H Q E →
  ∃ t,PSs (oW CX0 P w K mg base N x (bw st) f cdv A outer s H E).nox (fY st) t∧t { nx:=fun _ H'=>Q .non H',rt:=Q } (L2.start N vs) H):FnOk P w K mg base CX0 (k + 1) f fd ps sp:=by
 obtain ⟨oc,od,dV,kV,doc,pm,an,cdv,ct,osl,rfl,lk,hcd⟩:=F.ex
 refine Dz lk hcd S len fun A outer s H vs Q E hr hsp=>?_
 obtain ⟨t,h,q⟩:=hbody cdv A outer s H vs Q E hr hsp
 exact ⟨t,h.nox,q⟩
theorem uq {f:Addr} {fd:FuncData} (Fn:FunD K x st f fd) (S:FnScope N ps (bw st)) (hp:∀ i,i < ps.length→fl[i]? = some .A) (hN:ps.length ≤ N.length)
 (hbody:∀ (f:Addr) (cdv:Value) (A:Around) (outer:List Env) (s:Shared) (H:Hp) (E:XK),Room k (A.deeper (envOfC x (bw st) s.heap.objs.size f cdv))→DSs (cx P w K mg base N x st f cdv A outer s H E) fl (fY st) fs) :
 FnOk P w K mg base CX0 (k + 1) f fd ps (spD K (fnD ps.length (N.length - ps.length) fs)):=by
 refine Fn.ok S (fun vs H Q E h=>?_) (fun cdv A outer s H vs Q E hr h=>?_)
 ·obtain ⟨ds,d,r,hf,_⟩:=h
  unfold fnD at hf
  by_cases z:ds.length=ps.length
  ·rw [r.2.length];exact z
  ·rw [if_neg z] at hf;cases hf
 ·obtain ⟨ds,d,r,hf,q⟩:=h
  refine ⟨_,hbody f cdv A outer s H E hr,?_⟩
  unfold fnD at hf
  by_cases z:ds.length=ps.length
  ·rw [if_pos z] at hf
   split at hf
   ·next d' e =>
    cases hf
    exact ⟨_,_,_,_,lQ ps.length hp z hN r,e,fun v H' s r=>q v H' s r⟩
   ·next δ' e =>
    cases hf
    exact ⟨_,_,_,_,lQ ps.length hp z hN r,e,fun ow' σ' H' R'=>q .non H' R'.same0 .non⟩
   ·cases hf
  ·rw [if_neg z] at hf;cases hf
theorem gH (Dd:Dg K mg x st ps) (S:FnScope N ps (bw st)) (hp:∀ i,i < ps.length→fl[i]? = some .A) (hN:ps.length ≤ N.length)
 (hbody:∀ (f:Addr) (cdv:Value) (A:Around) (outer:List Env) (s:Shared) (H:Hp) (E:XK),Room k (A.deeper (envOfC x (bw st) s.heap.objs.size f cdv))→DSs (cx P w K mg base N x st f cdv A outer s H E) fl (fY st) fs) :
 Has P w K mg base (k + 1) x ps (spD K (fnD ps.length (N.length - ps.length) fs)):=by
 obtain ⟨f,fd,Fn,b,m⟩:=Dd.ex
 exact ⟨f,fd,uq Fn S hp hN hbody,b,Fn.kp,m⟩
end
def ur (K:PySem.W.Frag):Sp:=fun vs H Q _=>∃ (a:Addr) (ns:List Int),Tb H∧vs=[.ref a]∧SqL K H a (ns.map V.int)∧ns.length ≤ 63∧∀ H',Q (.bl true) H'
theorem jU {K:PySem.W.Frag} {ok:Ok} {pl:Bool} {H:Hp}:∀ ns:List Int,RAs K ok pl H (ns.map V.int) (ns.map PyData.int)
 | []=>.nil
 | n :: r=>.cons (.int n) (jU r)
theorem wR {K:PySem.W.Frag} {F:List D→Option D} (hF:∀ ns:List Int,ns.length ≤ 63→F [.list (ns.map .int)]=some (.bool true)) (vs:List V) (H:Hp) (Q:VK) (E:XK) (h:ur K vs H Q E):spD K F vs H Q E:=by
 obtain ⟨a,ns,tb,rfl,hS,hl,q⟩:=h
 refine ⟨_,_,⟨tb,.cons ?_ .nil⟩,hF ns hl,fun v H' s r=>?_⟩
 ·rcases hS with (h | ⟨o,h⟩) | h
  ·exact .lst h trivial (jU ns)
  ·exact .lsk (.inl ⟨o,h⟩) rfl (jU ns)
  ·exact .lsk (.inr h) rfl (jU ns)
 ·obtain rfl:=r.blE
  exact q H'
end D3
namespace D3
open PySem PySem.Spec PyProof.Rows L2 My
section
variable {prog:Program} {w:World} {A:Around} {E:Value→Shared→Prop} {s:Shared}
end
section
variable {X:Cx} {fl:List Fl} {a:Expr} {f:FE} {pos p p2 pos2:Pos}
end
section
variable {X:Cx} {fl:List Fl} {a b:Expr} {pos p p2 pos2:Pos} {fa:FA}
end
end D3
namespace D3
open PySem PySem.Spec PyProof.Rows L2 My
section
variable {X:Cx}
theorem nQ {K:PySem.W.Frag} {ok:Ok} {pl:Bool} {H:Hp}:∀ {l:List D} {ns:List Int} {ys:List V},j_ l=some ns→RAs K ok pl H ys l→ys=ns.map V.int
 | [],_,_,e,.nil=>by cases e;rfl
 | d :: r,ns,_,e,.cons h t=>by
  cases d <;> first | (cases e;done) | skip
  obtain rfl:=h.intE
  cases e2:j_ r with
  | none=>rw [j_,e2] at e;cases e
  | some m =>
   rw [j_,e2] at e
   cases e
   rw [nQ e2 t]
   rfl
theorem zu {K:PySem.W.Frag}:BrC K (fun xs H Q=>∃ (p:Addr) (ns:List Int),xs=[.ref p]∧SqL K H p (ns.map V.int)∧Q (.int ns.sum) H) Ei:=by
 intro H xs ds d Q r e q
 unfold Ei at e
 split at e
 ·next l =>
  cases e2:j_ l with
  | none=>rw [e2] at e;cases e
  | some ns =>
   rw [e2] at e
   cases e
   cases r with
   | cons r1 r2 =>
    cases r2
    obtain ⟨a,ys,rfl,hx,hr⟩:=r1.lstE
    obtain rfl:=nQ e2 hr
    exact ⟨a,ns,rfl,hx,q _ rfl (.int _)⟩
 ·cases e
end
end D3
namespace D3
open PySem PySem.Spec PyProof.Rows L2 My
def gK (n:Nat) (us ws:List α):List α:=if ws.length=n then us++ws else []
structure HasD (P:Program) (w:World) (K:PySem.W.Frag) (mg:Str→Option Value) (base:Heap) (n:Nat) (x:Str) (ps:List Str) (sp:Sp) (dvs:List V) (ks:List Str):Prop where
 ex:∃ (f:Addr) (fd:FuncData) (ds:List Value),FnOk P w K mg base CX0 n f fd ps sp∧Binds K fd ps ds∧Vals dvs ds∧KBinds K fd ps ks (gK ks.length) (gK ks.length)∧PySem.W.keepIn K (.ref f)=true∧mg x=some (.ref f)
structure DgD (K:PySem.W.Frag) (mg:Str→Option Value) (x:Str) (st:Stmt) (ps:List Str) (dvs:List V) (ks:List Str):Prop where
 ex:∃ (f:Addr) (fd:FuncData) (ds:List Value),FunD K x st f fd∧Binds K fd ps ds∧Vals dvs ds∧KBinds K fd ps ks (gK ks.length) (gK ks.length)∧mg x=some (.ref f)
section
variable {P:Program} {w:World} {K:PySem.W.Frag} {mg:Str→Option Value} {base:Heap} {x:Str} {ps N ks:List Str} {st:Stmt} {k n:Nat} {fs:FS} {fl:List Fl} {dvs:List V}
end
section
variable {X:Cx} {fl:List Fl} {e ke:Expr} {es:List Expr} {pos p kpos:Pos} {x kn:Str} {ps:List Str} {n:Nat} {F:List D→Option D} {fa:FA} {fk:FE} {i:Int} {dvs:List V}
theorem Bh {j pos'} {a:Expr} {f:FE} (h:DE X fl .P a f):DT X fl (.Compare a [.Is] [.Constant .none j pos'] pos) (bT (dUn Ay f)):=PT.imp (zT (zR h)) fun σ H Q h=>by
 obtain ⟨G,ow,δ,c,R,hf,q⟩:=h
 obtain ⟨d,e1,e2⟩:=bind1 hf
 obtain ⟨x,e3,e4⟩:=bind1 e1
 cases e4
 cases e2
 refine ⟨G,ow,δ,x,R,e3,fun v H1 s1 r1=>?_⟩
 refine ⟨decide (v = .non),rfl,?_⟩
 rw [Bg (RA.same (Same.refl H1) r1)]
 exact q H1 s1
end
end D3
namespace D3
open PySem PySem.Spec PyProof.Rows L2 My
section
variable {X:Cx}
theorem nR:∀ {bs:List Bool} {its:List Value},Vals (bs.map V.bl) its→its=bs.map Value.bool
 | [],_,.nil=>rfl
 | b :: r,_,.cons h t=>by
  cases h
  rw [nR t]
  rfl
theorem all_range (bs:List Bool):(fu bs.length).all (fun i=>bs.getD i false)=bs.all id:=by
 rw [Bool.eq_iff_iff,cj,cj]
 constructor
 ·intro h b hb
  obtain ⟨i,hi,rfl⟩:=List.getElem_of_mem hb
  have:=h i (eF.mpr hi)
  rw [dG,bR hi] at this
  exact this
 ·intro h i hi
  have hi:=eF.mp hi
  rw [dG,bR hi]
  exact h _ (List.getElem_mem hi)
theorem nU {prog:Program} {w:World} {A:Around} (bs:List Bool):TruthOf prog w A (fun i v=>(bs.map Value.bool).toArray[i]? = some v) (fun i=>bs.getD i false):=by
 intro i v s Q E hv hQ
 have hv':(bs.map Value.bool)[i]? = some v:=by simpa using hv
 rw [bI] at hv'
 cases e:bs[i]? with
 | none=>rw [e] at hv';cases hv'
 | some b =>
  rw [e] at hv'
  cases hv'
  have eb:bs.getD i false=b:=by rw [dG,e];rfl
  have hQ':Q (bs.getD i false) s:=hQ
  rw [eb] at hQ'
  exact wpAny_truthy_bool hQ'
theorem jG (hc:X.calm=true):lE X (.builtin "all") (fun xs H Q=>∃ (p:Addr) (bs:List Bool),xs=[.ref p]∧SqL X.K H p (bs.map V.bl)∧Q (.bl (bs.all id)) H):=by
 intro pins s σ H xs us Q I r h
 obtain ⟨p,bs,rfl,hx,q⟩:=h
 obtain ⟨u,rfl,rx⟩:=vals1 r
 cases rx
 obtain ⟨its,rvs,pl,hz⟩:=I.list hx
 obtain rfl:=nR rvs
 have hl:s.heap.IsList p (bs.map Value.bool).toArray:=pl.isList
 have hlt:p < s.heap.objs.size:=by obtain ⟨_,e,_⟩:=id hl;exact Heap.lt_size e
 refine call_all_walk (wpAny_pyIter_list hl ?_)
 refine ⟨_,_,_,_,_,_,_,rfl,Walks.list (A:=X.A.in1) (I.ok.hd hc) _ p (bx hlt) (bs.map Value.bool).toArray,⟨⟨_,Heap.get?_push_size _ rfl,rfl,rfl⟩,hl.push _⟩,nU bs,fun h' tk hk=>?_⟩
 have e:(bs.map Value.bool).toArray.size=bs.length:=by simp
 rw [e,all_range]
 exact ⟨.bl _,H,I.kept (old_kept hk),rfl,q⟩
theorem lR {K:PySem.W.Frag} {ok:Ok} {pl:Bool} {H:Hp}:∀ {l:List D} {bs:List Bool} {ys:List V},jr l=some bs→RAs K ok pl H ys l→ys=bs.map V.bl
 | [],_,_,e,.nil=>by cases e;rfl
 | d :: r,bs,_,e,.cons h t=>by
  cases d <;> first | (cases e;done) | skip
  obtain rfl:=h.blE
  cases e2:jr r with
  | none=>rw [jr,e2] at e;cases e
  | some m =>
   rw [jr,e2] at e
   cases e
   rw [lR e2 t]
   rfl
theorem nW {K:PySem.W.Frag}:BrC K (fun xs H Q=>∃ (p:Addr) (bs:List Bool),xs=[.ref p]∧SqL K H p (bs.map V.bl)∧Q (.bl (bs.all id)) H) nG:=by
 intro H xs ds d Q r e q
 unfold nG at e
 split at e
 ·next l =>
  cases e2:jr l with
  | none=>rw [e2] at e;cases e
  | some bs =>
   rw [e2] at e
   cases e
   cases r with
   | cons r1 r2 =>
    cases r2
    obtain ⟨a,ys,rfl,hx,hr⟩:=r1.lstE
    obtain rfl:=lR e2 hr
    exact ⟨a,bs,rfl,hx,q _ rfl (.bl _)⟩
 ·cases e
end
section
variable {X:Cx} {fl:List Fl} {a:Expr} {f:FE} {pos:Pos} {ta:TE}
end
section
variable {X:Cx} {fl:List Fl} {a b c:Expr} {f fa fb fc:FE} {pos:Pos}
end
section
variable {X:Cx} {fl:List Fl} {a b:Expr} {f g:FE} {pos:Pos}
end
end D3
namespace D3
open PySem PySem.Spec PyProof.Rows L2 My
section
variable {X:Cx} {fl:List Fl} {e a b c:Expr} {es rest:List Expr} {k:Kd} {f fa fb fc:FE} {ft gt:FT} {pos:Pos}
theorem wU:DE X fl .T (.Dict [] [] pos) (dC (.dict [])):=PE.imp tH fun σ H Q h=>by
 obtain ⟨G,ow,δ,d,R,hf,q⟩:=h
 cases hf
 intro p hp
 exact q _ _ (eU hp _) ⟨[p],.dic dH (.inl ⟨rfl,rfl⟩),dD.mpr ⟨List.not_mem_nil,.nil⟩,fun x hx=>by rw [bN.mp hx];exact hp⟩
theorem Eu (h:DE X fl .T e f):DE X fl .C e f:=gD h fun Hb H G ow σ δ v d R r=>by
 obtain ⟨as,h1,h2,h3⟩:=r
 exact h1.ra h3
end
section
variable {K:PySem.W.Frag} {fl:List Fl}
end
section
variable {K:PySem.W.Frag} {H:Hp}
end
section
variable {X:Cx} {fl:List Fl} {e ke:Expr} {f fk:FE} {pos:Pos}
end
end D3
namespace D3
open PySem
def iiD:List (D × D)→Option (List (Int × Int))
 | []=>some []
 | (.int i,.int j) :: r=>(iiD r).map ((i,j) :: ·)
 | _=>none
end D3
namespace D3
open PySem PySem.Spec PyProof.Rows L2 My
section
variable {X:Cx}
end
section
variable {X:Cx} {fl:List Fl} {e ke:Expr} {f fk:FE} {pos:Pos}
end
section
variable {X:Cx} {fl:List Fl} {a:Expr} {pos p p2 pos2:Pos} {fa:FA}
end
end D3
namespace D3
open PySem PySem.Spec PyProof.Rows L2 My
section
variable {X:Cx} {pins:List (Addr × Obj)} {σ:L2.St} {H:Hp} {s:Shared}
theorem uw:∀ {kvs:List (D × D)} {qs:List (Int × Int)},iiD kvs=some qs→dk0 kvs=qs.map fun q=>(.inl q.1,.int q.2)
 | [],_,e=>by cases e;rfl
 | (k,v) :: r,qs,e=>by
  unfold iiD at e
  split at e
  ·next h=>cases h
  ·next i j r' h =>
   cases h
   cases e3:iiD r with
   | none=>rw [e3] at e;cases e
   | some q2 =>
    rw [e3] at e
    cases e
    rw [dk0,uw e3]
    rfl
  ·cases e
theorem Bj {kvs:List (D × D)} {qs:List (Int × Int)} (h:iiD kvs=some qs):dh0 kvs = .dK (dk0 kvs):=by
 cases kvs with
 | nil=>rfl
 | cons q r =>
  obtain ⟨k,v⟩:=q
  unfold dh0
  cases k with
  | int i=>rfl
  | _=>unfold iiD at h;cases h
theorem lU {P P':Program} {w w':World}:∀ {es:List DictEntry} {kvs:List (Key × Value)},Pairs (eN P w) es kvs→Pairs (eN P' w') es kvs
 | _,_,.nil=>.nil
 | _,_,.cons h1 h2 q=>.cons h1 h2 (lU q)
theorem lW {P:Program} {w:World}:∀ {es:List DictEntry} {kvs:List (Key × Value)},Pairs (eN P w) es kvs→∀ x ∈ es,∃ kv ∈ kvs,(eN P w).is kv.1 x.key=true
 | _,_,.nil,_,h=>by cases h
 | _,_,.cons h1 h2 q,x,h=>by
  rcases bf.mp h with rfl | z
  ·exact ⟨_,aB,h1⟩
  ·obtain ⟨kv,m,e⟩:=lW q x z
   exact ⟨kv,aA _ m,e⟩
theorem pC {h:Heap} {a:Addr} {P P':Program} {w w':World} {kvs:List (Key × Value)} (hi:∀ kv ∈ kvs,∃ i,kv.1 = .inl i) (d:h.DictOf (eN P w) a kvs):h.DictOf (eN P' w') a kvs:=by
 obtain ⟨o,es,ep,e,c1,c2,c3,c4,c5⟩:=d
 refine ⟨o,es,ep,e,c1,c2,fun x hx=>?_,lU c4,c5⟩
 obtain ⟨k,k1,k2⟩:=c3 x hx
 obtain ⟨kv,m,k3⟩:=lW c4 x (Array.mem_def.mp hx)
 have ek:=(eN P w).inj _ _ _ k1 k3
 obtain ⟨i,ei⟩:=hi kv m
 rw [ek,ei] at k1 k2
 exact ⟨.inl i,k1,k2⟩
theorem gJ:∀ {qs:List (Int × Int)} {vs:List (Key × Value)},KV (qs.map fun q=>((.inl q.1,.int q.2):Key × V)) vs→vs.map (·.1)=qs.map (fun q=>.inl q.1)∧∀ k v,(k,v) ∈ vs→∃ i j t,k = .inl i∧v = .int j t∧(i,j) ∈ qs
 | [],_,h=>by cases h;exact ⟨rfl,fun _ _ h=>by cases h⟩
 | q :: qs,_,h=>by
  cases h with
  | cons h1 h2 =>
   rename_i b bs
   obtain ⟨e1,e2⟩:=gJ h2
   obtain ⟨e3,e4⟩:=h1
   obtain ⟨t,e4⟩:=e4
   refine ⟨by rw [cP,cP,e1,← e3],fun k v hm=>?_⟩
   rcases bf.mp hm with z | z
   ·subst z
    exact ⟨q.1,q.2,t,e3.symm,e4,aB⟩
   ·obtain ⟨i,j,t',z1,z2,z3⟩:=e2 k v z
    exact ⟨i,j,t',z1,z2,aA _ z3⟩
theorem zx (I:L2.Inv X pins σ H s) {a:Addr} {kvs:List (D × D)} {qs:List (Int × Int)} (hq:iiD kvs=some qs) (h:L2.Rd H a (dh0 kvs)):(a == sysModules)=false∧∃ vs,KV (qs.map fun q=>((.inl q.1,.int q.2):Key × V)) vs∧∀ P w,s.heap.DictOf (eN P w) a vs:=by
 rw [Bj hq,uw hq] at h
 obtain ⟨_,hs,vs,kv,hd⟩:=(show dF X.prog X.w H s.heap a (.dK _) from h.ok I.hok)
 exact ⟨hs,vs,kv,fun P w=>pC (fun x hx=>by obtain ⟨i,_,_,z,_⟩:=(gJ kv).2 x.1 x.2 hx;exact ⟨i,z⟩) hd⟩
theorem ux {A:Around} {s:Shared} {qs:List (Int × Int)} {ka kb:List (Key × Value)} (ra:KV (qs.map fun q=>((.inl q.1,.int q.2):Key × V)) ka) (rb:KV (qs.map fun q=>((.inl q.1,.int q.2):Key × V)) kb) (hn:(kb.map (·.1)).Nodup):PySem.W.KeqHits A s kb ka true:=by
 have hnq:(qs.map fun q=>(Sum.inl q.1:Key)).Nodup:=by rw [← (gJ rb).1];exact hn
 have step:∀ (l:List (Key × Value)),(∀ x ∈ l,x ∈ ka)→PySem.W.KeqHits A s kb l true:=by
  intro l
  induction l with
  | nil=>intro _;exact .nil
  | cons x l ih =>
   intro hl
   obtain ⟨k,v⟩:=x
   obtain ⟨i,j,t,rfl,rfl,hm⟩:=(gJ ra).2 k v (hl _ aB)
   have hk:(Sum.inl i:Key) ∈ kb.map (·.1):=by rw [(gJ rb).1];exact dO.mpr ⟨(i,j),hm,rfl⟩
   obtain ⟨⟨k',y⟩,hy,ek⟩:=dO.mp hk
   have ek:k' = .inl i:=ek
   subst ek
   obtain ⟨i',j',t',e1,rfl,hm'⟩:=(gJ rb).2 _ y hy
   cases e1
   have ej:j'=j:=by
    have inj:∀ {l:List (Int × Int)},(l.map fun q=>(Sum.inl q.1:Key)).Nodup→(i,j) ∈ l→(i,j') ∈ l→j'=j:=by
     intro l hnd h1 h2
     induction l with
     | nil=>cases h1
     | cons p l ih =>
      rw [cP,dD] at hnd
      rcases bf.mp h1 with z1 | z1 <;> rcases bf.mp h2 with z2 | z2
      ·rw [← z1] at z2;cases z2;rfl
      ·subst z1;exact absurd (dO.mpr ⟨_,z2,rfl⟩) hnd.1
      ·subst z2;exact absurd (dO.mpr ⟨_,z1,rfl⟩) hnd.1
      ·exact ih hnd.2 z1 z2
    exact inj hnq hm hm'
   subst ej
   obtain ⟨n,hn',en⟩:=List.mem_iff_getElem.mp hy
   have hv:valueAt kb (.inl i)=some (.int j' t'):=valueAt_of_get hn (i:=n) (by rw [bR hn',en])
   have:=SeqAt.EqAt.int_int (A:=A) (s:=s) j' t j' t'
   rw [beq_self_eq_true] at this
   have q:=PySem.W.KeqHits.hit hv this (ih fun x hx=>hl x (aA _ hx))
   rwa [Bool.and_true] at q
 exact step ka fun _ h=>h
end
section
variable {X:Cx} {K:PySem.W.Frag}
end
section
variable {X:Cx} {fl:List Fl} {es:List Expr} {pos:Pos}
end
section
variable {X:Cx} {fl:List Fl} {e:Expr} {f:FE}
end
section
variable {X:Cx} {fl:List Fl} {a:Expr} {f:FE} {pos p:Pos}
end
section
variable {X:Cx} {fl:List Fl} {a b:Expr} {fa fb:FE} {pos:Pos}
end
end D3
namespace D3
open PySem PySem.Spec PyProof.Rows L2 My
section
variable {X:Cx} {K:PySem.W.Frag}
end
section
variable {X:Cx} {fl:List Fl} {a:Expr} {f:FE} {pos:Pos}
end
section
variable {X:Cx} {fl:List Fl} {e:Expr} {es:List Expr} {f:FE} {pos p:Pos} {x:Str} {n:Nat} {F:List D→Option D} {fa:FA}
end
section
variable {P:Program} {w:World} {K:PySem.W.Frag} {mg:Str→Option Value} {base:Heap} {x:Str} {ps N:List Str} {st:Stmt} {k n:Nat} {fs:FS} {fl:List Fl}
end
section
variable {P:Program} {w:World} {K:PySem.W.Frag} {mg:Str→Option Value} {base:Heap} {x:Str} {ps:List Str} {st:Stmt} {n:Nat}
end
end D3
namespace D3
open PySem PySem.Spec PyProof.Rows L2 My
section
variable {K:PySem.W.Frag} {fl flA:List Fl} {G:Gh} {ow:Ow} {σ σ':St} {H H1:Hp} {δ:DS} {T:List Nat}
end
section
variable {X:Cx} {fl flA:List Fl} {e:Expr} {es:List Expr} {f:FE} {fa:FA} {pos:Pos}
end
section
variable {X:Cx} {fl:List Fl} {pos:Pos}
end
end D3
namespace D3
open PySem
inductive Or where
 | o (x:Oc)
 | ex (c:Str) (v:D)
abbrev FX:=DS→Option Or
def xIf (c:FT) (f g:FX):FX:=fun δ=>(c δ).bind fun b=>if b=true then f δ else g δ
def cR (c:Str) (f:FE):FX:=fun δ=>(f δ).bind fun d=>some (.ex c d)
end D3
namespace XC
open PySem
open Sem (wp)
structure Two (h:Heap) (C N I:Addr) (bmB:List Value) (mN mI:Str→Option Value) (B newId:String):Prop where
 ex:∃ (nm q:Str) (bs:List Value) (sn:List Str) (sub:List Value) (ab:Bool) (col:Option Bool) (dd:Option Addr) (k0 k1 k2 k3 k5:Option Value),
  h.get? C=some (excClassObj nm q C N bs (.ref I :: bmB) true sn sub ab col dd k0 k1 k2 k3 k5 newId)
 nsC:h.Ns N mN
 up:∃ (nm q:Str) (NI:Addr) (bs:List Value) (sn:List Str) (sub:List Value) (ab:Bool) (col:Option Bool) (dd:Option Addr) (k0 k1 k2 k3 k5:Option Value) (nid:String),
  h.get? I=some (excClassObj nm q I NI bs bmB true sn sub ab col dd k0 k1 k2 k3 k5 nid)∧h.Ns NI mI
 mro:mroOf (.type B)=pure bmB
section
variable {M:Model} {A:Around} {E:Value→Shared→Prop} {h:Heap} {g:Array GenState} {d:Drawn} {t:Nat} {os:OsState}
variable {C N I:Addr} {bmB:List Value} {mN mI:Str→Option Value} {B newId initId:String}
theorem Two.keeps {h':Heap} (T:Two h C N I bmB mN mI B newId) (k:∀ b o,h.get? b=some o→h'.get? b=some o):Two h' C N I bmB mN mI B newId:=by
 obtain ⟨⟨nm,q,bs,sn,sub,ab,col,dd,k0,k1,k2,k3,k5,hC⟩,hn,⟨jnm,jq,NI,jbs,jsn,jsub,jab,jcol,jdd,j0,j1,j2,j3,j5,nid,hI,hm⟩,hb⟩:=T
 exact ⟨⟨nm,q,bs,sn,sub,ab,col,dd,k0,k1,k2,k3,k5,k _ _ hC⟩,hn.keeps k,⟨jnm,jq,NI,jbs,jsn,jsub,jab,jcol,jdd,j0,j1,j2,j3,j5,nid,k _ _ hI,hm.keeps k⟩,hb⟩
theorem Two.tail (T:Two h C N I bmB mN mI B newId) (hi:mI "__init__" = none):OwnTail h bmB (.ref I :: bmB):=by
 obtain ⟨jnm,jq,NI,jbs,jsn,jsub,jab,jcol,jdd,j0,j1,j2,j3,j5,nid,hI,hm⟩:=T.up
 exact .own hI hm hi .base
theorem Two.look {name:Str} {y:Option Value} {Q:Option Value→Shared→Prop} (T:Two h C N I bmB mN mI B newId) (hB:typeLookup (.type B) name=pure y)
 (hq:Q (match mN name with
  | some v=>some v
  | none=>match mI name with
   | some v=>some v
   | none=>y) ⟨h,g,d,t,os⟩):wpAny M A (typeLookup (.ref C) name) Q E ⟨h,g,d,t,os⟩:=by
 obtain ⟨⟨nm,q,bs,sn,sub,ab,col,dd,k0,k1,k2,k3,k5,hC⟩,hn,⟨jnm,jq,NI,jbs,jsn,jsub,jab,jcol,jdd,j0,j1,j2,j3,j5,nid,hI,hm⟩,hb⟩:=T
 have rest:lookupAlong bmB name=pure y:=by
  rw [typeLookup_eq,hb] at hB
  exact hB
 rw [typeLookup_eq]
 refine wpAny_bind (wpAny_mroOf_exc hC ?_)
 rw [lookupAlong_cons]
 refine wpAny_bind (wpAny_classOwn_exc hC hn ?_)
 cases e1:mN name with
 | some v =>
  rw [e1] at hq
  exact wpAny_pure hq
 | none =>
  rw [e1] at hq
  show wpAny M A (lookupAlong (.ref I :: bmB) name) Q E _
  rw [lookupAlong_cons]
  refine wpAny_bind (wpAny_classOwn_cls hI hm ?_)
  cases e2:mI name with
  | some v =>
   rw [e2] at hq
   exact wpAny_pure hq
  | none =>
   rw [e2] at hq
   show wpAny M A (lookupAlong bmB name) Q E _
   rw [rest]
   exact wpAny_pure hq
end
section
variable {prog:Program} {w:World} {A:Around} {E:Value→Shared→Prop} {h:Heap} {g:Array GenState} {d:Drawn} {t:Nat} {os:OsState}
variable {C N I:Addr} {bmB:List Value} {mN mI:Str→Option Value} {B newId initId:String}
theorem Two.make {rest:List Value} {fI:Addr} {oI:Obj} {Q:Fin→Shared→Prop} (T:Two h C N I bmB mN mI B newId) (F:ExcBaseFacts B newId initId bmB) (hi:mI "__init__" = none) (hN:mN "__init__" = some (.ref fI))
 (hf:h.get? fI=some oI) (hfc:oI.cls = .type "function") (hrest:rest.length ≤ sizeLine)
 (hq:∀ h' e,h.objs.size ≤ e→Heap.MadeExcOf h h' e (.ref C) rest→wpAny (model prog w) A (call (.ref fI) (.ref e :: rest)) (fun r s'=>r = .none∧Q (.done (.ret (.ref e))) s') E ⟨h',g,d,t,os⟩) :
 wpAny (model prog w) A (Builtin.«type.__call__» ⟨.ref C :: rest,[]⟩) Q E ⟨h,g,d,t,os⟩:=by
 have TT:=T.tail hi
 have T0:=T
 obtain ⟨⟨nm,q,bs,sn,sub,ab,col,dd,k0,k1,k2,k3,k5,hC⟩,hn,⟨jnm,jq,NI,jbs,jsn,jsub,jab,jcol,jdd,j0,j1,j2,j3,j5,nid,hI,hm⟩,hb⟩:=T
 repeat (first
  | with_reducible refine wpAny_loadPart_at hC ?_
  | with_reducible refine wpAny_madeBy_exc hC ?_
  | wp_step)
 refine codeAny_call_builtin_code (Code.quiet_builtin _ F.quiet) (wpAny_check_new_subT F TT hC ?_)
 refine codeAny_exc_new_subT F TT hC ?_ hrest
 show wpAny _ _ _ _ _ _
 obtain ⟨h2,e2⟩:∃ h2,h2=(h.push { cls:=.type "tuple", data:=.seq rest.toArray }).push { cls:=.ref C,data:=.fields #[.ref h.objs.size,.none,.none,.none,.bool false,.none] }:=⟨_,rfl⟩
 rw [← e2]
 have kp:∀ b o,h.get? b=some o→h2.get? b=some o:=fun b o z=>by
  rw [e2];exact Heap.get?_push_of_some _ (Heap.get?_push_of_some _ z)
 have hx:h2.get? (h.objs.size + 1)=some { cls:=.ref C,data:=.fields #[.ref h.objs.size,.none,.none,.none,.bool false,.none] }:=by
  rw [e2];heap_get
 have ht:h2.get? h.objs.size=some { cls:=.type "tuple", data:=.seq rest.toArray }:=by
  rw [e2];exact Heap.get?_push_of_some _ (Heap.get?_push_at rfl rfl)
 have hC2:=kp _ _ hC
 have cc:(Value.ref C :: .ref I :: bmB).contains (.ref C)=true:=by simp
 unfold isInstance
 repeat (first
  | with_reducible refine wpAny_loadPart_at hx ?_
  | (with_reducible refine wpAny_isSubtype_exc hC2 ?_;rw [cc])
  | wp_step)
 show wpAny _ _ (typeLookup (.ref C) _) _ _ _
 refine (T0.keeps kp).look F.init.lookup ?_
 rw [hN]
 refine wpAny_holding (wpAny_bind ?_)
 unfold bindSpecial
 refine wpAny_bind (wpAny_typeOf (T := "function") ⟨_,kp _ _ hf,hfc⟩ ?_)
 rw [if_pos (by decide)]
 refine wpAny_pure (wpAny_bind (wpAny_mono (hq h2 (h.objs.size + 1) (Nat.le_succ _) ⟨kp,Heap.get?_none_of_le (Nat.le_succ _),h.objs.size,hx,Heap.get?_none_of_le (aU _),ht⟩) (fun r s' hr=>?_) fun _ _ z=>z))
 obtain ⟨rfl,hQ⟩:=hr
 wp_walk
 exact hQ
end
end XC
namespace XC
open PySem Builtin Builtin.ObjectAttr
open Sem (wp)
section
variable {prog:Program} {w:World} {A:Around} {E:Value→Shared→Prop} {h:Heap} {g:Array GenState} {d:Drawn} {t:Nat} {os:OsState}
variable {C N I x:Addr} {bmB:List Value} {mN mI:Str→Option Value} {B newId initId sa owner:String} {name:Str} {v:Value}
theorem Two.store0 {tk:Tok} {o:Obj} {Q:Fin→Shared→Prop} (T:Two h C N I bmB mN mI B newId) (SF:StoreFacts B bmB sa owner) (n1:mN name=none) (n2:mI name=none) (hB:typeLookup (.type B) name=pure none)
 (hx:h.get? x=some o) (hc:o.cls = .ref C) (hnc:∀ c,o.data ≠ .cls c) (hdn:o.dict=none)
 (hq:∀ h' tk' dx,h'.get? x=some { o with dict:=some dx }→h.objs.size ≤ dx→dx ≠ x→h'.Ns1 dx (fun y=>if y=name then some v else none)→(∀ b u,b ≠ x→h.get? b=some u→h'.get? b=some u)→Q (.done (.ret .none)) ⟨h',g,d,tk',os⟩) :
 wpAny (model prog w) A (Builtin.«object.__setattr__» ⟨[.ref x,.str name tk,v],[]⟩) Q E ⟨h,g,d,t,os⟩:=by
 have T0:=T
 obtain ⟨⟨nm,q,bs,sn,sub,ab,col,dd,k0,k1,k2,k3,k5,hC⟩,hn,⟨jnm,jq,NI,jbs,jsn,jsub,jab,jcol,jdd,j0,j1,j2,j3,j5,nid,hI,hm⟩,hb⟩:=T
 have pass:refuseLoop (.ref x) "__setattr__" (.ref C :: .ref I :: bmB)=pure ():=by
  rw [refuseLoop_ref,refuseLoop_ref];exact SF.passes _
 unfold Builtin.«object.__setattr__»
 repeat (first
  | rw [refuse_eq]
  | rw [pass]
  | (with_reducible refine wpAny_loadPart_at hx ?_;rw [hc])
  | with_reducible refine wpAny_mroOf_exc hC ?_
  | (with_reducible refine T0.look hB ?_;rw [n1,n2])
  | wp_step)
 rw [hdn,if_neg (by simp [typeHasDict])]
 split
 ·rename_i z
  cases z
 split
 ·rename_i c z
  exact absurd z (hnc c)
 obtain ⟨h1,e1⟩:∃ h1,h1=h.push { cls:=.type "dict", data:=.dict #[] }:=⟨_,rfl⟩
 have x1:h1.get? x=some o:=by rw [e1];exact Heap.get?_push_of_some _ hx
 have ne:x ≠ h.objs.size:=bx (Heap.lt_size hx)
 refine wpAny_bind (wpAny_alloc' ?_)
 rw [← e1]
 refine wpAny_bind (wpAny_update' x1 (wpAny_pure ?_))
 obtain ⟨h2,e2⟩:∃ h2,h2=h1.update x fun o=>{ cls:=o.cls,dict:=some h.objs.size,data:=o.data,slots:=o.slots }:=⟨_,rfl⟩
 rw [← e2]
 have d2:h2.get? h.objs.size=some { cls:=.type "dict", data:=.dict #[] }:=by
  rw [e2,e1]
  exact (Heap.get?_update_ne _ _ _ _ ne.symm).trans (Heap.get?_push_at rfl rfl)
 have x2:h2.get? x=some { cls:=o.cls,dict:=some h.objs.size,data:=o.data,slots:=o.slots }:=by
  rw [e2]
  refine Heap.get?_update_self _ x1 ?_
  have fr:=(Heap.get?_some_iff.mp hx).2
  obtain ⟨oc,od,odt,osl⟩:=o
  cases odt <;> first | rfl | exact fr
 have k2:∀ b u,b ≠ x→h.get? b=some u→h2.get? b=some u:=fun b u z q=>by
  rw [e2,e1]
  exact (Heap.get?_update_ne _ _ _ _ z).trans (Heap.get?_push_of_some _ q)
 have n0:h2.Ns h.objs.size (fun _=>none):=⟨_,#[],_,d2,rfl,fun e z=>absurd z (by simp),fun _=>rfl⟩
 show wpAny _ _ (storeInDict h.objs.size (.str name tk) name v) _ _ _
 unfold storeInDict newKeyGuard
 refine wpAny_bind (wpAny_pure (wpAny_bind (wpAny_nsSet1 (Heap.Ns1.of_empty n0) fun h3 n3 hs=>?_)))
 obtain ⟨oD,esD,epD,a1,a2,a3⟩:=n3.count (Within.cons name v Within.nil)
 refine wpAny_bind (wpAny_lookBehind a1 (by rw [a2];exact pastItsLine_dict (aV a3 (show 1 ≤ sizeLine + 1 by decide))) ?_)
 wp_walk
 exact hq h3 _ h.objs.size ((hs.2 x ne).trans x2) (aU _) ne.symm n3 fun b u z q=>(hs.2 b (bx (Heap.lt_size q))).trans (k2 b u z q)
theorem Two.set0 {o:Obj} {Q:Unit→Shared→Prop} (T:Two h C N I bmB mN mI B newId) (SF:StoreFacts B bmB sa owner) (s1:mN "__setattr__" = none) (s2:mI "__setattr__" = none) (n1:mN name=none) (n2:mI name=none) (hB:typeLookup (.type B) name=pure none)
 (hx:h.get? x=some o) (hc:o.cls = .ref C) (hnc:∀ c,o.data ≠ .cls c) (hdn:o.dict=none)
 (hq:∀ h' tk' dx,h'.get? x=some { o with dict:=some dx }→h.objs.size ≤ dx→dx ≠ x→h'.Ns1 dx (fun y=>if y=name then some v else none)→(∀ b u,b ≠ x→h.get? b=some u→h'.get? b=some u)→Q () ⟨h',g,d,tk',os⟩) :
 wpAny (model prog w) A (setAttr (.ref x) name v) Q E ⟨h,g,d,t,os⟩:=by
 have T0:=T
 obtain ⟨⟨nm,q,bs,sn,sub,ab,col,dd,k0,k1,k2,k3,k5,hC⟩,hn,⟨jnm,jq,NI,jbs,jsn,jsub,jab,jcol,jdd,j0,j1,j2,j3,j5,nid,hI,hm⟩,hb⟩:=T
 have f3:=SF.slot.bind (.ref x)
 have own:(Value.ref C :: .ref I :: bmB).contains (.type owner)=true:=by
  rw [dg,dg,SF.hasOwner,eG,eG]
 unfold setAttr callSpecial? specialOf
 repeat (any_goals (first
  | assumption
  | (with_reducible refine wpAny_loadPart_at hx ?_;rw [hc])
  | (with_reducible refine T0.look SF.slot.lookup ?_;rw [s1,s2])
  | wp_step))
 refine codeAny_call_builtin SF.slot.plain SF.entry ?_
 have ck:∀ {A:Around} {E:Value→Shared→Prop} (tk:Tok) (Q:Unit→Shared→Prop) (t:Nat),Q () ⟨h,g,d,t,os⟩→wpAny (model prog w) A (checkBuiltinCall sa ⟨[.ref x,.str name tk,v],[]⟩) Q E ⟨h,g,d,t,os⟩:=by
  intro A E tk Q t z
  have ha:=SF.args (.ref x) (.str name tk) v
  simp only [checkBuiltinCall,SF.kind,SF.split]
  refine wpAny_bind ?_
  unfold isInstance
  repeat (first
   | (with_reducible refine wpAny_loadPart_at hx ?_;rw [hc])
   | (with_reducible refine wpAny_isSubtype_exc hC ?_;rw [own])
   | wp_step)
  cases sg:Manifest.signature? sa with
  | none=>exact wpAny_pure z
  | some sig =>
   simp only [argsOk,sg] at ha
   have ha:Bind.checkArgs sa sig ⟨[.ref x,.str name tk,v],[]⟩=pure ():=ha
   show wpAny _ _ (Bind.checkArgs sa sig ⟨[.ref x,.str name tk,v],[]⟩) _ _ _
   rw [ha]
   exact wpAny_pure z
 refine ck _ _ _ (T0.store0 SF n1 n2 hB hx hc hnc hdn fun h' tk' dx z1 z2 z3 z4 z5=>?_)
 repeat (any_goals (first | assumption | wp_step))
 exact hq h' tk' dx z1 z2 z3 z4 z5
end
end XC
namespace XC
open PySem PySem.Spec PyProof.Rows L2 My
section
variable {P:Program} {w:World} {K:PySem.W.Frag} {mg:Str→Option Value} {base:Heap}
variable {C N I x:Addr} {bmB:List Value} {mN mI:Str→Option Value} {B newId initId sa owner:String}
theorem uy {k:Nat} {fI:Addr} {name qual f:Str} {params:Arguments} {scope:Scope} {dV kV doc pm cdv ct oc:Value} {an od:Option Addr} {osl:Array (Option Value)} {p1 p2 p3 p4:Pos}
 (lk:K.lookup fI=some ⟨oc,od,.func (PySem.W.fnOf name qual params [.Assign [.Attribute (.Name "self" p1) f p2] (.Name f p3) p4] scope dV kV doc pm an cdv ct),osl⟩) (hcd:PySem.W.codeIn K cdv qual=true)
 (S:FnScope ["self", f] ["self", f] scope) (l1:scope.names.lookup ("self" : Str)=some NameKind.local) (l2:scope.names.lookup f=some .local) (fs:("self" : Str) ≠ f) (fd:(f == ("__debug__" : Str))=false) (fc:(f == ("__classdict__" : Str))=false)
 (hb:Binds K (PySem.W.fnOf name qual params [.Assign [.Attribute (.Name "self" p1) f p2] (.Name f p3) p4] scope dV kV doc pm an cdv ct) ["self", f] [])
 {A:Around} {outer:List Env} {s:Shared} {H:Hp} (hr:Room (k + 1) A) (e0:Env0 P w K mg base A outer s H)
 (T:Two s.heap C N I bmB mN mI B newId) (SF:StoreFacts B bmB sa owner) (s1:mN "__setattr__" = none) (s2:mI "__setattr__" = none) (n1:mN f=none) (n2:mI f=none) (hB:typeLookup (.type B) f=pure none)
 {o:Obj} (hx:s.heap.get? x=some o) (hc:o.cls = .ref C) (hnc:∀ c,o.data ≠ .cls c) (hdn:o.dict=none) {v:V} {u:Value} (rv:RelV v u) {R:Result→Shared→Prop}
 (hq:∀ h' tk' dx,h'.get? x=some { o with dict:=some dx }→s.heap.objs.size ≤ dx→dx ≠ x→h'.Ns1 dx (fun y=>if y=f then some u else none)→(∀ b ob,b ≠ x→s.heap.get? b=some ob→h'.get? b=some ob)→R (.ok (.ret .none)) { s with heap:=h',toks:=tk' }) :
 codeAny (model P w) A (.call (.ref fI) ⟨[.ref x,u],[]⟩) R s:=by
 have KX:K.In s.heap:=e0.mod.kin.keeps fun b o e=>(e0.bs b o e).1
 have lim:s.heap.NoLimit:=e0.mod.nolimit.keeps fun b o e=>(e0.bs b o e).1
 have kinds:∀ y ∈ (["self", f]:List Str).zip [Value.ref x,u],scope.names.lookup y.1=some .local∨(scope.names.lookup y.1=some .cell∧((cellsFrom (s.heap.objs.size + 1) scope.names []).lookup y.1).isSome=true):=by
  rintro ⟨n,z⟩ hy
  rcases S.par n (fU hy).1 with q | q
  ·exact .inl q
  ·exact .inr ⟨q,PySem.W.cellsFrom_some _ _ _ (.inl q)⟩
 refine codeAny_call_function hr.depth (KX _ _ lk) rfl S.co S.gen rfl (PySem.W.codeRec_of KX hcd) (hb s [.ref x,u] KX rfl _ _ _ _ ?_)
 refine wpAny_newFunctionEnv_cells S.kind kinds fun env he s3 y=>?_
 subst he
 refine ⟨lim.keeps y.toInCall.keep,codeAny_func ?_⟩
 obtain ⟨h3,tk3,rfl,kp⟩:=y.done
 have ns:=y.toInCall.ns
 have m1:bindL (envOfC qual scope s.heap.objs.size fI cdv).kindOf ((["self", f]:List Str).zip [Value.ref x,u]) (fun _=>none) "self" = some (.ref x) :=
  iY S.nd (i:=0) rfl rfl l1
 have m2:bindL (envOfC qual scope s.heap.objs.size fI cdv).kindOf ((["self", f]:List Str).zip [Value.ref x,u]) (fun _=>none) f=some u :=
  iY S.nd (i:=1) rfl rfl l2
 refine wpAny_execs_cons (plainObj_wpAny_Assign_Attribute (wpAny_Name (wpAny_loadName_local S.kind l2 ns m2 (wpAny_Name (wpAny_loadName_local S.kind l1 ns m1 ?_))) fd))
 refine (T.keeps kp).set0 SF s1 s2 n1 n2 hB (kp _ _ hx) hc hnc hdn fun h' tk' dx z1 z2 z3 z4 z5=>?_
 refine wpAny_execs_nil ?_
 exact hq h' tk' dx z1 (aV (aV y.toInCall.fresh (fW ns.lt)) z2) z3 z4 fun b ob e q=>z5 b ob e (kp _ _ q)
end
end XC
namespace XC
open PySem PySem.Spec PyProof.Rows L2 My
structure Fly (h:Heap) (a C dx:Addr) (f:Str) (u:Value) (tb:Option Addr):Prop where
 obj:∃ vs sl,h.get? a=some ⟨.ref C,some dx,.fields vs,sl⟩∧vs[1]? = some (tb.elim .none .ref)
 dic:h.Ns1 dx (fun y=>if y=f then some u else none)
 ne:dx ≠ a
 hd:∀ T,tb=some T→T ≠ a∧T ≠ dx∧∃ oT ts,h.get? T=some oT∧oT.data = .fields ts∧ts[3]? = some .none
section
variable {M:Model} {A:Around} {E:Value→Shared→Prop} {s:Shared}
theorem lX {base:Heap} {env:Env} {outer:List Env} {L a:Addr} {oe:Obj} {vs:Array Value} {head:Value} {hn:Bool} {Q:Unit→Shared→Prop}
 (hfr:A.frames=some (env :: outer)) (hl:s.heap.FunFrames base (env :: outer)) (hf:env.frame=some L) (he:s.heap.get? a=some oe) (hd:oe.data = .fields vs) (hsz:1 < vs.size)
 (h:∀ h' T,s.heap.objs.size ≤ T→h'.get? a=some (oe.mapFields (·.setIfInBounds 1 (.ref T)))→(∃ oT ts,h'.get? T=some oT∧oT.data = .fields ts∧ts[3]? = some .none) →
  (∀ b o,b ≠ a→b ∉ frs (env :: outer)→s.heap.get? b=some o→h'.get? b=some o)→(∀ b o,b ≠ a→s.heap.get? b=some o→∃ sl,h'.get? b=some { o with slots:=sl })→Q () { s with heap:=h' }) :
 wpAny M A (do let z ← frameOf env;let pl ← entryPlaceOf L hn;let b ← EntryCells.newEntry head z .none (rawInt L) .none pl;setField (.ref a) 1 b) (fun _ s'=>wpAny M A (setFlight (.ref a) none) Q E s') E s:=by
 have nf:a ∉ (env :: outer).filterMap (·.frame):=fun z=>by
  obtain ⟨_,o,ho,q⟩:=hl.mem z
  rw [he] at ho
  cases ho
  exact q vs hd
 refine wpAny_bind (wpAny_frameOf_fun hfr hl hf fun h1 hs=>?_)
 refine wpAny_bind (wpAny_entryPlaceOf fun pl hpl=>?_)
 unfold EntryCells.newEntry newFields
 refine wpAny_bind (wpAny_newObj_type ?_ (hpl.sizeOk5 _ _ _ _ _))
 obtain ⟨ob,eob⟩:∃ ob:Obj,ob = { cls:=.type "traceback", dict:=none,data:=.fields ([head,.ref L,.none,rawInt L,.none]++(if pl.isEmpty then bC 6 Value.none else pl)).toArray }:=⟨_,rfl⟩
 rw [← eob]
 have od:ob.data = .fields ([head,.ref L,.none,rawInt L,.none]++(if pl.isEmpty then bC 6 Value.none else pl)).toArray:=by rw [eob]
 have ofr:ob.isFreed=false:=by rw [eob];rfl
 have a1:h1.get? a=some oe:=(hs.2.1 a nf).trans he
 have a2:(h1.push ob).get? a=some oe:=Heap.get?_push_of_some _ a1
 refine wpAny_setField a2 hd hsz ?_
 have sz:h1.objs.size=s.heap.objs.size:=hs.1
 have ne:h1.objs.size ≠ a:=Nat.ne_of_gt (Heap.lt_size a1)
 have d3:=Obj.data_mapFields hd (·.setIfInBounds 1 (Value.ref h1.objs.size))
 obtain ⟨h3,e3⟩:∃ h3,h3=(h1.push ob).update a (Obj.mapFields (·.setIfInBounds 1 (Value.ref h1.objs.size))):=⟨_,rfl⟩
 rw [← e3]
 have a3:h3.get? a=some (oe.mapFields (·.setIfInBounds 1 (.ref h1.objs.size))):=by
  rw [e3];exact Heap.get?_update_self _ a2 (Obj.isFreed_of_fields d3)
 have t3:h3.get? h1.objs.size=some ob:=by
  rw [e3];exact (Heap.get?_update_other _ _ ne.symm).trans (Heap.get?_push_size h1 ofr)
 have o3:∀ b,b ≠ a→b ≠ h1.objs.size→h3.get? b=h1.get? b:=fun b z1 z2=>by
  rw [e3,Heap.get?_update_other _ _ (Ne.symm z1)]
  exact Heap.get?_push_ne _ _ _ z2
 unfold setFlight
 refine wpAny_bind (wpAny_field a3 d3 (x:=.ref h1.objs.size) (by simp [hsz]) ?_)
 rw [if_pos (show (Value.ref h1.objs.size != Value.none)=true by simp)]
 have d4:=Obj.data_mapFields od (·.setIfInBounds 3 ((none:Option Addr).elim Value.none fun f=>rawInt f))
 refine wpAny_setField t3 od (by simp only [bh,bM,fB,List.length_nil] <;> omega) ?_
 obtain ⟨h4,e4⟩:∃ h4,h4=h3.update h1.objs.size (Obj.mapFields (·.setIfInBounds 3 ((none:Option Addr).elim Value.none fun f=>rawInt f))):=⟨_,rfl⟩
 rw [← e4]
 have o4:∀ b,b ≠ h1.objs.size→h4.get? b=h3.get? b:=fun b z=>by rw [e4];exact Heap.get?_update_other _ _ (Ne.symm z)
 refine h h4 h1.objs.size (Nat.le_of_eq sz.symm) ((o4 a (Ne.symm ne)).trans a3) ⟨_,_,by rw [e4];exact Heap.get?_update_self _ t3 (Obj.isFreed_of_fields d4),d4,?_⟩ (fun b o z1 z2 q=>?_) fun b o z1 q=>?_
 ·rcases hpl with rfl | ⟨_,_,_,_,_,_,_,rfl⟩ <;> simp
 ·have q1:h1.get? b=some o:=(hs.2.1 b z2).trans q
  have z3:b ≠ h1.objs.size:=bx (Heap.lt_size q1)
  exact (o4 b z3).trans ((o3 b z1 z3).trans q1)
 ·obtain ⟨sl,q1⟩:=hs.2.2 b o q
  have z3:b ≠ h1.objs.size:=bx (Heap.lt_size q1)
  exact ⟨sl,(o4 b z3).trans ((o3 b z1 z3).trans q1)⟩
end
end XC
namespace XC
open PySem PySem.Spec PyProof.Rows L2 My
section
variable {M:Model} {A:Around} {E:Value→Shared→Prop} {s:Shared}
theorem uz {base:Heap} {env:Env} {outer:List Env} {L a C dx:Addr} {f:Str} {u:Value} {tb:Option Addr} {Q:Unit→Shared→Prop}
 (hfr:A.frames=some (env :: outer)) (hl:s.heap.FunFrames base (env :: outer)) (hf:env.frame=some L) (F:Fly s.heap a C dx f u tb) (nd:dx ∉ frs (env :: outer))
 (h:∀ h' T,s.heap.objs.size ≤ T→Fly h' a C dx f u (some T)→(∀ b o,b ≠ a→tb ≠ some b→b ∉ frs (env :: outer)→s.heap.get? b=some o→h'.get? b=some o) →
  (∀ b o,b ≠ a→tb ≠ some b→s.heap.get? b=some o→∃ sl,h'.get? b=some { o with slots:=sl })→Q () { s with heap:=h' }) :
 wpAny M A (noteFrame (.ref a) env) (fun _ s'=>wpAny M A (setFlight (.ref a) none) Q E s') E s:=by
 obtain ⟨⟨vs,sl,ea,e1⟩,hdic,hne,hhd⟩:=F
 have hsz:1 < vs.size:=(cH.mp e1).1
 have dlt:dx < s.heap.objs.size:=by
  obtain ⟨o,_,_,q,_⟩:=hdic
  exact Heap.lt_size q
 unfold noteFrame
 simp only [hf]
 cases tb with
 | none =>
  refine wpAny_bind (wpAny_field ea rfl e1 ?_)
  rw [if_neg (by decide)]
  refine lX hfr hl hf ea rfl hsz fun h' T hT q1 q2 q3 q4=>h h' T hT ⟨⟨_,sl,q1,by simp [hsz]⟩,?_,hne,fun T' z=>?_⟩ (fun b o z1 _ z2 z3=>q3 b o z1 z2 z3) fun b o z1 _ z2=>q4 b o z1 z2
  ·obtain ⟨o,es,ep,r1,r2⟩:=hdic
   exact ⟨o,es,ep,q3 dx o hne nd r1,r2⟩
  ·cases z
   refine ⟨fun z=>?_,fun z=>?_,q2⟩
   ·rw [z] at hT
    exact absurd (Heap.lt_size ea) (cQ.mpr hT)
   ·rw [z] at hT
    exact absurd dlt (cQ.mpr hT)
 | some T =>
  obtain ⟨Ta,Td,oT,ts,t1,t2,t3⟩:=hhd T rfl
  refine wpAny_bind (wpAny_field ea rfl e1 ?_)
  rw [if_pos (show ((Option.elim (some T) Value.none Value.ref) != Value.none)=true by simp)]
  refine wpAny_bind (wpAny_field t1 t2 t3 ?_)
  rw [if_neg (show ¬ ((Value.none == rawInt L)=true) by simp [rawInt])]
  refine wpAny_bind (wpAny_setField t1 t2 (cH.mp t3).1 ?_)
  obtain ⟨h2,e2⟩:∃ h2,h2=s.heap.update T (Obj.mapFields (·.setIfInBounds 3 Value.none)):=⟨_,rfl⟩
  rw [← e2]
  have o2:∀ b,b ≠ T→h2.get? b=s.heap.get? b:=fun b z=>by rw [e2];exact Heap.get?_update_other _ _ (Ne.symm z)
  have sz2:h2.objs.size=s.heap.objs.size:=by rw [e2];exact Heap.size_update ..
  have nT:T ∉ frs (env :: outer):=fun z=>by
   obtain ⟨_,o,ho,q⟩:=hl.mem z
   rw [t1] at ho
   cases ho
   exact q ts t2
  have hl2:h2.FunFrames base (env :: outer):=hl.of_keeps fun b o hb q=>⟨o,(o2 b fun z=>by rw [z,t1] at hb;cases hb;exact q ts t2).trans hb,rfl⟩
  refine lX (s:={ s with heap:=h2 }) hfr hl2 hf ((o2 a (Ne.symm Ta)).trans ea) rfl hsz fun h' T' hT q1 q2 q3 q4=>h h' T' (by rw [← sz2];exact hT) ⟨⟨_,sl,q1,by simp [hsz]⟩,?_,hne,fun T2 z=>?_⟩
   (fun b o z1 z0 z2 z3=>q3 b o z1 z2 ((o2 b fun z=>z0 (by rw [z])).trans z3)) fun b o z1 z0 z2=>q4 b o z1 ((o2 b fun z=>z0 (by rw [z])).trans z2)
  ·obtain ⟨o,es,ep,r1,r2⟩:=hdic
   exact ⟨o,es,ep,q3 dx o hne nd ((o2 dx (Ne.symm Td)).trans r1),r2⟩
  ·cases z
   have hT:s.heap.objs.size ≤ T':=by rw [← sz2];exact hT
   refine ⟨fun z=>?_,fun z=>?_,q2⟩
   ·rw [z] at hT
    exact absurd (Heap.lt_size ea) (cQ.mpr hT)
   ·rw [z] at hT
    exact absurd dlt (cQ.mpr hT)
end
end XC
namespace XC
open PySem PySem.Spec PyProof.Rows L2 My
structure Loose (X:Cx) (pins:List (Addr × Obj)) (H:Hp) (b:Addr):Prop where
 new:X.s₀.heap.objs.size ≤ b
 loc:b ≠ X.env.locals
 cel:∀ x c,X.env.cells.lookup x=some c→c ≠ b
 pin:∀ p ∈ X.pn++pins,p.1 ≠ b
 out:H b=none
section
variable {X:Cx} {pins:List (Addr × Obj)} {σ:L2.St} {H H':Hp} {s:Shared}
theorem Loose.of (I:Inv X pins σ H s) {b:Addr} (hb:s.heap.objs.size ≤ b) (hH:H' b=none):Loose X pins H' b:=by
 refine ⟨aV I.sz hb,fun z=>?_,fun x c e z=>?_,fun p hp z=>?_,hH⟩
 ·rw [z] at hb;exact absurd I.lt (cQ.mpr hb)
 ·obtain ⟨v,o,ho,_⟩:=I.cell x c e
  rw [z] at ho
  exact absurd (Heap.lt_size ho) (cQ.mpr hb)
 ·have:=(I.pin p hp).1
  rw [z] at this
  exact absurd (Heap.lt_size this) (cQ.mpr hb)
theorem Loose.nofs (I:Inv X pins σ H s) {b:Addr} (L:Loose X pins H' b):b ∉ X.env.locals :: X.fs:=fun z=>by
 rcases bf.mp z with e | e
 ·exact L.loc e
 ·obtain ⟨_,o,ho,_⟩:=I.ok.funs.mem e
  exact absurd (Heap.lt_size ho) (cQ.mpr L.new)
theorem uD {M:Model} {A:Around} {E:Value→Shared→Prop} {a C dx:Addr} {f:Str} {u:Value} {tb:Option Addr} {Q:Unit→Shared→Prop} (hA:A.frames=X.A.frames) (I:Inv X pins σ H s) (hst:X.stack=X.env :: X.outer) (hfr:X.env.frame=some X.env.locals)
 (F:Fly s.heap a C dx f u tb) (La:Loose X pins H a) (Ld:Loose X pins H dx) (Lt:∀ T,tb=some T→Loose X pins H T)
 (h:∀ s' T,Inv X pins σ H s'→Fly s'.heap a C dx f u (some T)→s'.os=s.os→s'.gens=s.gens→Loose X pins H T→Q () s') :
 wpAny M A (noteFrame (.ref a) X.env) (fun _ s'=>wpAny M A (setFlight (.ref a) none) Q E s') E s:=by
 have fl:=I.stack
 rw [hst] at fl
 have fe:frs (X.env :: X.outer)=X.env.locals :: X.fs:=by unfold frs;rw [dX,hfr];rfl
 refine uz (hA.trans (I.ok.frames.trans (by rw [hst]))) fl hfr F (by rw [fe];exact Ld.nofs I) fun h' T hT F' k1 k2=>?_
 have LT:Loose X pins H T:=Loose.of I hT (I.hok.fresh hT)
 refine h _ T ?_ F' rfl rfl LT
 rw [fe] at k1
 have ex:∀ b,H b ≠ none→b ≠ a∧tb ≠ some b∧b ∉ X.env.locals :: X.fs:=fun b hb=>by
  refine ⟨fun z=>hb (by rw [z];exact La.out),fun z=>hb (Lt b z).out,fun z=>hb ?_⟩
  exact I.stkFree b (by rw [hst,fe];exact z)
 obtain ⟨m,⟨o,es,ep,ho,r⟩,_⟩:=id I.loc
 obtain ⟨sl,hL⟩:=k2 _ o (Ne.symm La.loc) (fun z=>(Lt _ z).loc rfl) ho
 refine I.step (g':=s.gens) (d':=s.drawn) (t':=s.toks) (ch:=a :: tb.toList) (fun b hb=>?_) (fun b o z1 z2 z3 q _=>k1 b o (fun z=>z3 (by rw [z];exact aB)) (fun z=>z3 (aA _ (by rw [z];exact bN.mpr rfl))) (fun z=>(bf.mp z).elim z1 z2) q)
  (fun b o z1 z2 z3 q _=>k2 b o (fun z=>z3 (by rw [z];exact aB)) (fun z=>z3 (aA _ (by rw [z];exact bN.mpr rfl))) q) (fun _ _ _ _ z=>z)
  (fun b o z3 q=>let ⟨_,w⟩:=k2 b o (fun z=>z3 (by rw [z];exact aB)) (fun z=>z3 (aA _ (by rw [z];exact bN.mpr rfl))) q;⟨_,w⟩) (fun _ _ e=>e) (fun _ _ _ e=>e) (fun _ _ _ e=>e) (fun m' hm=>?_) (fun b w e=>?_) I.bare
 ·rcases bf.mp hb with e | e
  ·rw [e];exact ⟨.inr La.new,La.loc,La.cel,La.pin⟩
  ·cases tb with
   | none=>cases e
   | some T0 =>
    have e:b=T0:=by simpa using e
    have:=Lt T0 rfl
    rw [e];exact ⟨.inr this.new,this.loc,this.cel,this.pin⟩
 ·obtain ⟨o',es',ep',ho',r'⟩:=hm
  rw [ho] at ho';cases ho'
  exact ⟨_,es',ep',hL,r'⟩
 ·refine (I.hok b w e).stay (fun c v hc q=>?_) (fun _ q=>q) fun _ _ q=>q
  obtain ⟨z1,z2,z3⟩:=ex c (by
   rcases hc with z | z
   ·rw [z,e];simp
   ·rw [z];simp)
  exact k1 c v z1 z2 z3 q
end
end XC
namespace XC
open PySem PySem.Spec PyProof.Rows L2 My
section
variable {prog:Program} {w:World} {A:Around} {E:Value→Shared→Prop} {h:Heap} {g:Array GenState} {d:Drawn} {t:Nat} {os:OsState}
variable {C N I:Addr} {bmB:List Value} {mN mI:Str→Option Value} {B newId initId:String}
theorem Two.call {rest:List Value} {fI:Addr} {oI:Obj} {Q:Value→Shared→Prop} (T:Two h C N I bmB mN mI B newId) (F:ExcBaseFacts B newId initId bmB) (hi:mI "__init__" = none) (hN:mN "__init__" = some (.ref fI))
 (hf:h.get? fI=some oI) (hfc:oI.cls = .type "function") (hrest:rest.length ≤ sizeLine)
 (hq:∀ h' e,h.objs.size ≤ e→Heap.MadeExcOf h h' e (.ref C) rest→wpAny (model prog w) (A.under (.builtin "type.__call__" ⟨.ref C :: rest,[]⟩)) (call (.ref fI) (.ref e :: rest)) (fun r s'=>r = .none∧Q (.ref e) s') E ⟨h',g,d,t,os⟩) :
 wpAny (model prog w) A (call (.ref C) rest) Q E ⟨h,g,d,t,os⟩:=by
 have T0:=T
 obtain ⟨⟨nm,q,bs,sn,sub,ab,col,dd,k0,k1,k2,k3,k5,hC⟩,hn,⟨jnm,jq,NI,jbs,jsn,jsub,jab,jcol,jdd,j0,j1,j2,j3,j5,nid,hI,hm⟩,hb⟩:=T
 have g1:=tc_lookup
 have g2:=tc_bind (.ref C)
 have ty:(⟨h,g,d,t,os⟩:Shared).TypeIs (.ref C) "type" := ⟨_,hC,rfl⟩
 refine wpAny_call (codeAny_of_tree ?_)
 show wpAny _ _ (callAny (.ref C) _) _ _ _
 repeat (any_goals (first
  | assumption
  | with_reducible refine wpAny_loadPart_at hC ?_
  | wp_step))
 refine ⟨rfl,?_⟩
 refine codeAny_call_builtin_at (Code.quiet_builtin _ (by decide +kernel)) entry_typeCall (wpAny_check_type_call_sub hC (T0.make F hi hN hf hfc hrest fun h' e hz hm=>?_))
 exact hq h' e hz hm
theorem pD {M:Model} {A:Around} {s:Shared} {env:Env} {x:Sem Value} {Q:Flow→Shared→Prop} (hh:A.handled=none) (hbase:bmB.contains (.type "BaseException")=true)
 (h:wpAny M A x (fun v s₁=>∃ e oe,v = .ref e∧Two s₁.heap C N I bmB mN mI B newId∧s₁.heap.get? e=some oe∧oe.cls = .ref C∧(∃ vs,oe.data = .fields vs∧vs[1]? = some .none)∧E (.ref e) s₁) E s) :
 wpAny M A (raiseStmt env (some x) none) Q E s:=by
 have cB:(Value.ref C :: .ref I :: bmB).contains (.type "BaseException")=true:=by
  rw [dg,dg,hbase,eG,eG]
 unfold raiseStmt
 refine wpAny_bind (wpAny_mono h (fun v s₁ q=>?_) fun _ _ z=>z)
 obtain ⟨e,oe,rfl,T,he,hc,⟨vs,hd,h1⟩,hE⟩:=q
 obtain ⟨⟨nm,q,bs,sn,sub,ab,col,dd,k0,k1,k2,k3,k5,hC⟩,hn,⟨jnm,jq,NI,jbs,jsn,jsub,jab,jcol,jdd,j0,j1,j2,j3,j5,nid,hI,hm⟩,hb⟩:=T
 obtain ⟨hp,g,d,tk,os⟩:=s₁
 repeat (first
  | (with_reducible refine wpAny_loadPart_at he ?_;rw [hc])
  | with_reducible refine wpAny_loadPart_at hC ?_
  | (with_reducible refine wpAny_isSubtype_exc hC ?_;rw [cB])
  | (with_reducible refine wpAny_field he hd h1 ?_)
  | wp_step)
 exact wpAny_raiseNew_none hh hE
end
end XC
namespace XC
open PySem PySem.Spec PyProof.Rows L2 My
abbrev bmV:List Value:=[.type "ValueError", .type "Exception", .type "BaseException", .type "object"]
structure Init (K:PySem.W.Frag) (f:Str) (fI:Addr):Prop where
 ex:∃ (name qual:Str) (params:Arguments) (scope:Scope) (dV kV doc pm cdv ct:Value) (an od:Option Addr) (osl:Array (Option Value)) (p1 p2 p3 p4:Pos),
  K.lookup fI=some ⟨.type "function", od,.func (PySem.W.fnOf name qual params [.Assign [.Attribute (.Name "self" p1) f p2] (.Name f p3) p4] scope dV kV doc pm an cdv ct),osl⟩∧PySem.W.codeIn K cdv qual=true ∧
  FnScope ["self", f] ["self", f] scope∧scope.names.lookup ("self" : Str)=some NameKind.local∧scope.names.lookup f=some NameKind.local ∧
  Binds K (PySem.W.fnOf name qual params [.Assign [.Attribute (.Name "self" p1) f p2] (.Name f p3) p4] scope dV kV doc pm an cdv ct) ["self", f] []
 ne:("self" : Str) ≠ f
 nd:(f == ("__debug__" : Str))=false
 nc:(f == ("__classdict__" : Str))=false
structure Exc (K:PySem.W.Frag) (mg:Str→Option Value) (cn f:Str) (C I:Addr):Prop where
 mgC:mg cn=some (.ref C)
 kp:PySem.W.keepIn K (.ref C)=true
 hB:typeLookup (.type "ValueError") f=pure none
 ex:∃ (N fI:Addr) (mN mI:Str→Option Value),(∀ h,K.In h→Two h C N I bmV mN mI "ValueError" "ValueError.__new__")∧mN "__init__" = some (.ref fI)∧mI "__init__" = none∧mN "__setattr__" = none∧mI "__setattr__" = none∧mN f=none∧mI f=none∧Init K f fI
section
variable {X:Cx} {pins:List (Addr × Obj)} {σ:L2.St} {H:Hp} {s:Shared} {cn f:Str} {C I:Addr} {arg:Expr} {ta:TE} {p pos:Pos} {k:Nat}
theorem kI {R:V→Hp→Prop} (Ex:Exc X.K X.mg cn f C I) (hr:Room (k + 2) X.A) (hg:Gl X cn) (hdb:(cn == ("__debug__" : Str))=false) (ha:PE X arg ta) (J:Inv X pins σ H s) (h:ta σ H R)
 (he:starEach [arg] X.env=(false,eval arg X.env) :: starEach [] X.env:=by rfl) (hpl:(backTo pos (starEach [] X.env)).any (·.1)=false:=by rfl) :
 wpAny (model X.prog X.w) X.A (eval (.Call (.Name cn p) [arg] [] pos) X.env) (fun r s'=>∃ (v:V) (H1:Hp) (a dx:Addr) (u:Value),r = .ref a∧R v H1∧RelV v u∧Inv X pins σ H1 s'∧Fly s'.heap a C dx f u none∧Loose X pins H1 a∧Loose X pins H1 dx) X.xe s:=by
 obtain ⟨mgC,kp,hB,N,fI,mN,mI,TK,i1,i2,s1,s2,n1,n2,⟨⟨name,qual,params,scope,dV,kV,doc,pm,cdv,ct,an,od,osl,p1,p2,p3,p4,lk,hcd,S,l1,l2,hb⟩,ne,nd,nc⟩⟩:=Ex
 refine wpAny_Call_Name_kw (jR J hg mgC ?_ hdb)
 have h':yS ta Dy σ H fun vs H1=>match vs with
  | [v]=>R v H1
  | _=>False:=h
 refine PySem.W.callWith_K (h₀:=X.base) J.ok.mod.kin kp (thn (eO ha jm he pos pins s σ H _ J h') fun us z ⟨vs,H1,J1,r,q⟩=>⟨J1.kIn,?_⟩) he hpl
 obtain ⟨v,u,rfl,rfl,rv⟩:∃ v u,vs=[v]∧us=[u]∧RelV v u:=by
  cases r with
  | nil=>exact q.elim
  | cons a b=>cases b with
   | nil=>exact ⟨_,_,rfl,rfl,a⟩
   | cons _ _=>exact q.elim
 obtain ⟨hp,g,d,tk,os⟩:=z
 refine (TK _ J1.kIn).call PySem.F.excBase_ValueError i2 i1 (J1.kIn _ _ lk) rfl (show 1 ≤ sizeLine by decide) fun h' e hz hm=>?_
 have J2:Inv X pins σ H1 ⟨h',g,d,tk,os⟩:=J1.kept (t':=tk) hm.keeps
 obtain ⟨t,ht,_,_⟩:=hm.there
 refine wpAny_call (uy (x:=e) lk hcd S l1 l2 ne nd nc hb (hr.make C [u] []) (J2.env0.make C [u] []) (TK _ J2.kIn) PySem.F.store_ValueError s1 s2 n1 n2 hB ht rfl (fun c z=>by cases z) rfl rv fun h3 tk3 dx z1 z2 z3 z4 z5=>?_)
 have k3:∀ b ob,hp.get? b=some ob→h3.get? b=some ob:=fun b ob w=>z5 b ob (fun y=>by
  rw [y] at w
  exact absurd (Heap.lt_size w) (cQ.mpr hz)) (hm.keeps _ _ w)
 have J3:Inv X pins σ H1 ⟨h3,g,d,tk3,os⟩:=J1.kept (t':=tk3) k3
 have szz:hp.objs.size ≤ dx:=by
  have e1:e < h'.objs.size:=Heap.lt_size ht
  exact aV hz (aV (fW e1) z2)
 exact ⟨rfl,v,H1,e,dx,u,rfl,q,rv,J3,⟨⟨_,_,z1,rfl⟩,z4,z3,fun T y=>by cases y⟩,Loose.of J1 hz (J1.hok.fresh hz),Loose.of J1 szz (J1.hok.fresh szz)⟩
end
end XC
namespace XC
open PySem PySem.Spec PyProof.Rows L2 My
def CXE (P:Program) (w:World) (fld:Addr→Str):CXT:=fun outer H s E e s'=>∃ (a C dx T:Addr) (u:Value) (H':Hp),e = .ref a∧s'.os=s.os∧AllBare s'.gens∧Un (frs outer) [] H H' s.heap s'.heap∧HOk P w H' s'.heap∧Fly s'.heap a C dx (fld C) u (some T) ∧
 s.heap.objs.size ≤ a∧s.heap.objs.size ≤ dx∧s.heap.objs.size ≤ T∧H' a=none∧H' dx=none∧H' T=none∧E u (some C) H'
theorem CXE.no {P:Program} {w:World} {fld:Addr→Str} {outer:List Env} {H:Hp} {s s':Shared} {e:Value} (h:CXE P w fld outer H s E0 e s'):False:=by
 obtain ⟨_,_,_,_,_,_,_,_,_,_,_,_,_,_,_,_,_,_,z⟩:=h
 exact z
section
variable {P:Program} {w:World} {K:PySem.W.Frag} {mg:Str→Option Value} {base:Heap} {N:List Str} {qual:Str} {scope:Scope} {fa:Addr} {cdv:Value} {A:Around} {outer:List Env} {s₀:Shared} {H₀:Hp} {E:XK} {fld:Addr→Str}
variable {pins:List (Addr × Obj)} {σ:L2.St} {H:Hp} {s:Shared}
end
section
variable {X:Cx} {pins:List (Addr × Obj)} {σ:L2.St} {H:Hp} {s:Shared} {cn f:Str} {C I:Addr} {arg:Expr} {ta:TE} {p pos rpos:Pos} {k:Nat}
end
end XC
namespace XC
open PySem PySem.Spec PyProof.Rows L2 My
section
variable {M:Model} {A:Around} {E:Value→Shared→Prop} {h:Heap} {g:Array GenState} {d:Drawn} {t:Nat} {os:OsState}
variable {C N I a:Addr} {bmB:List Value} {mN mI:Str→Option Value} {B newId:String} {oe:Obj}
theorem Two.match_up {Q:Bool→Shared→Prop} (T:Two h C N I bmB mN mI B newId) (he:h.get? a=some oe) (hc:oe.cls = .ref C) (hbase:bmB.contains (.type "BaseException")=true) (hq:Q true ⟨h,g,d,t,os⟩) :
 wpAny M A (excMatches (.ref a) (.ref I)) Q E ⟨h,g,d,t,os⟩:=by
 obtain ⟨⟨nm,q,bs,sn,sub,ab,col,dd,k0,k1,k2,k3,k5,hC⟩,hn,⟨jnm,jq,NI,jbs,jsn,jsub,jab,jcol,jdd,j0,j1,j2,j3,j5,nid,hI,hm⟩,hb⟩:=T
 have c1:(Value.ref I :: bmB).contains (.type "BaseException")=true:=by rw [dg,hbase,eG]
 have c2:(Value.ref C :: .ref I :: bmB).contains (.ref I)=true:=by simp
 have f:=tc_notTuple
 unfold excMatches
 repeat (first
  | (with_reducible refine wpAny_loadPart_at he ?_;rw [hc])
  | with_reducible refine wpAny_loadPart_at hI ?_
  | with_reducible refine wpAny_loadPart_at hC ?_
  | (with_reducible refine wpAny_isSubtype_exc hI ?_;rw [c1])
  | (with_reducible refine wpAny_isSubtype_exc hC ?_;rw [c2])
  | wp_step)
 exact hq
end
end XC
namespace XC
open PySem PySem.Spec PyProof.Rows L2 My
section
variable {prog:Program} {w:World} {A:Around} {E:Value→Shared→Prop} {h:Heap} {g:Array GenState} {d:Drawn} {t:Nat} {os:OsState}
variable {C N I a D:Addr} {bmB:List Value} {mN mI:Str→Option Value} {B newId:String} {oe oD:Obj}
end
end XC
namespace XC
open PySem PySem.Spec PyProof.Rows L2 My
def dU (X:Cx) (a:Addr) (oa:Obj) (dx:Addr) (od:Obj):Cx:={ X with A:=X.A.mark (some (.ref a)),calm:=false,pn:=X.pn++[(a,oa),(dx,od)],xe:=fun _ _=>False }
section
variable {X:Cx} {pins:List (Addr × Obj)} {σ:L2.St} {H:Hp} {s:Shared} {a C dx:Addr} {f:Str} {u:Value} {tb:Option Addr}
theorem rO (I:Inv X pins σ H s) (F:Fly s.heap a C dx f u tb) (La:Loose X pins H a) (Ld:Loose X pins H dx):∃ oa od,s.heap.get? a=some oa∧s.heap.get? dx=some od∧Inv (dU X a oa dx od) pins σ H s:=by
 obtain ⟨vs,sl,e1,_⟩:=F.obj
 obtain ⟨od,es,ep,e2,e3,_⟩:=F.dic
 refine ⟨_,od,e1,e2,⟨⟨I.ok.mod,I.ok.kind,I.ok.glob,I.ok.blt,I.ok.above,I.ok.inj,I.ok.has,I.ok.cab,fun z=>(by cases z),I.ok.frames,I.ok.stk,I.ok.exf,I.ok.bs,I.ok.bsz,I.ok.noex,I.ok.exfs,I.ok.funs,I.ok.frf⟩,I.os,I.bare,I.base,I.loc,I.cell,I.free,I.freeC,fun p hp=>?_,I.hok,I.len⟩⟩
 have hp:p ∈ (X.pn++[(a,(⟨.ref C,some dx,.fields vs,sl⟩:Obj)),(dx,od)])++pins:=hp
 rcases bY.mp hp with hp | hp
 ·rcases bY.mp hp with hp | hp
  ·exact I.pin p (bB _ hp)
  ·rcases bf.mp hp with rfl | hp
   ·exact ⟨e1,La.out,La.loc,fun z=>La.nofs I (aA _ z),fun v z=>by cases z⟩
   ·rw [bN.mp hp]
    exact ⟨e2,Ld.out,Ld.loc,fun z=>Ld.nofs I (aA _ z),fun v z=>by rw [e3] at z;cases z⟩
 ·exact I.pin p (aK _ hp)
theorem j7 {σ':L2.St} {H':Hp} {s':Shared} {oa od:Obj} (ok:X.Ok) (I:Inv (dU X a oa dx od) pins σ' H' s'):Inv X pins σ' H' s':=by
 refine ⟨ok,I.os,I.bare,I.base,I.loc,I.cell,I.free,I.freeC,fun p hp=>?_,I.hok,I.len⟩
 rcases bY.mp hp with hp | hp
 ·exact I.pin p (bB _ (bB _ hp))
 ·exact I.pin p (aK _ hp)
end
end XC
namespace XC
open PySem PySem.Spec PyProof.Rows L2 My
section
variable {X:Cx} {pins:List (Addr × Obj)} {σ:L2.St} {H:Hp} {s:Shared} {a C dx T:Addr} {f:Str} {u:Value}
theorem pF {M:Model} {A:Around} {E:Value→Shared→Prop} {Q:Unit→Shared→Prop} (I:Inv X pins σ H s) (F:Fly s.heap a C dx f u (some T)) (hn:H T=none) (hL:T ≠ X.env.locals) (h1:X.s₀.heap.objs.size ≤ T) (h2:∀ x c,X.env.cells.lookup x=some c→c ≠ T) (h3:∀ p ∈ X.pn++pins,p.1 ≠ T)
 (h:∀ s',Inv X pins σ H s'→Fly s'.heap a C dx f u (some T)→Q () s'):wpAny M A (setFlight (.ref a) none) Q E s:=by
 obtain ⟨⟨vs,sl,ea,e1⟩,hdic,hne,hhd⟩:=F
 obtain ⟨Ta,Td,oT,ts,t1,t2,t3⟩:=hhd T rfl
 unfold setFlight
 refine wpAny_bind (wpAny_field ea rfl e1 ?_)
 rw [if_pos (show ((Option.elim (some T) Value.none Value.ref) != Value.none)=true by simp)]
 refine wpAny_setField t1 t2 (cH.mp t3).1 ?_
 obtain ⟨h',e2⟩:∃ h',h'=s.heap.update T (Obj.mapFields (·.setIfInBounds 3 ((none:Option Addr).elim Value.none fun f=>rawInt f))):=⟨_,rfl⟩
 rw [← e2]
 have o2:∀ b,b ≠ T→h'.get? b=s.heap.get? b:=fun b z=>by rw [e2];exact Heap.get?_update_other _ _ (Ne.symm z)
 have d4:=Obj.data_mapFields t2 (·.setIfInBounds 3 ((none:Option Addr).elim Value.none fun f=>rawInt f))
 have tT:h'.get? T=some (oT.mapFields (·.setIfInBounds 3 ((none:Option Addr).elim Value.none fun f=>rawInt f))):=by
  rw [e2];exact Heap.get?_update_self _ t1 (Obj.isFreed_of_fields d4)
 have I':Inv X pins σ H { s with heap:=h',toks:=s.toks }:=Inv.turned (t':=s.toks) I (fun b o z q=>(o2 b z).trans q) hn hL (.inr h1) h2 h3
 refine h _ I' ⟨⟨vs,sl,(o2 a (Ne.symm Ta)).trans ea,e1⟩,?_,hne,fun T' z=>?_⟩
 ·obtain ⟨o,es,ep,r1,r2⟩:=hdic
  exact ⟨o,es,ep,(o2 dx (Ne.symm Td)).trans r1,r2⟩
 ·cases z
  refine ⟨Ta,Td,_,_,tT,d4,?_⟩
  have:=(cH.mp t3).1
  simp [this]
end
end XC
namespace XC
open PySem PySem.Spec PyProof.Rows L2 My
section
variable {X:Cx} {pins:List (Addr × Obj)} {σ:L2.St} {H:Hp} {s:Shared} {a C I0 dx T D:Addr} {cn f ic n:Str} {u:Value} {i:Nat} {b0:Stmt} {suite:List Stmt} {np hpos:Pos}
end
end XC
namespace XC
open PySem PySem.Spec PyProof.Rows L2 My
def XP (fld:Addr→Str) (X:Cx) (pins:List (Addr × Obj)) (σ:L2.St) (EX:XK) (e:Value) (s':Shared):Prop:=∃ (a C dx T:Addr) (u:Value) (H':Hp),e = .ref a∧Inv X pins σ H' s'∧Fly s'.heap a C dx (fld C) u (some T)∧Loose X pins H' a∧Loose X pins H' dx∧Loose X pins H' T∧EX u (some C) H'
section
variable {X:Cx} {pins:List (Addr × Obj)} {σ:L2.St} {H:Hp} {s:Shared} {fld:Addr→Str} {k:Nat} {f:Addr} {fd:FuncData} {ps:List Str} {sp:Sp} {dvs:List V} {ds:List Value} {EX:XK}
section
variable {x:Str} {p pos pos2:Pos} {e:Expr} {es:List Expr} {ta:TA}
end
end
end XC
namespace XC
open PySem PySem.Spec PyProof.Rows L2 My D3
section
variable {X:Cx} {E:XK} {fl:List Fl} {c:Expr} {st:Stmt} {sts body orelse:List Stmt} {fs:FS} {f g:FX} {ft:FT} {pos:Pos}
end
structure ExcF (K:PySem.W.Frag) (mg:Str→Option Value) (fld:Addr→Str) (cn f:Str):Prop where
 ex:∃ C I,Exc K mg cn f C I∧fld C=f
section
variable {P:Program} {w:World} {K:PySem.W.Frag} {mg:Str→Option Value} {base:Heap} {N:List Str} {qual:Str} {scope:Scope} {fa:Addr} {cdv:Value} {A:Around} {outer:List Env} {s₀:Shared} {H₀:Hp} {E:XK} {fld:Addr→Str}
variable {fl:List Fl} {cn f:Str} {arg:Expr} {fe:FE} {p pos rpos:Pos} {k:Nat}
end
structure HasX (P:Program) (w:World) (K:PySem.W.Frag) (mg:Str→Option Value) (base:Heap) (fld:Addr→Str) (n:Nat) (x:Str) (ps:List Str) (sp:Sp) (dvs:List V):Prop where
 ex:∃ (f:Addr) (fd:FuncData) (ds:List Value),FnOk P w K mg base (CXE P w fld) n f fd ps sp∧Binds K fd ps ds∧Vals dvs ds∧PySem.W.keepIn K (.ref f)=true∧mg x=some (.ref f)
section
variable {P:Program} {w:World} {K:PySem.W.Frag} {mg:Str→Option Value} {base:Heap} {fld:Addr→Str} {x:Str} {ps N ks:List Str} {st:Stmt} {k n:Nat} {f:FX} {fl:List Fl} {dvs:List V} {sp:Sp}
end
end XC
namespace XC
open PySem PySem.Spec PyProof.Rows L2 My D3
section
variable {X:Cx} {a C I0 dx D:Addr} {cn f ic n:Str} {oa od:Obj} {i:Nat} {cond a1 b1:Expr} {rest:List Expr} {p p1 p2 pos np hpos rpos:Pos}
end
end XC
namespace XC
open PySem PySem.Spec PyProof.Rows L2 My D3
section
variable {X:Cx} {fl:List Fl} {fld:Addr→Str} {n i:Nat} {x ic en:Str} {ps cs:List Str} {F:List D→Option Or} {dvs:List V} {dd:List D} {e cond:Expr} {es:List Expr} {fa:FA} {p pos pos2 np rpos hpos tpos:Pos}
end
end XC
namespace XC
open PySem PySem.Spec PyProof.Rows L2 My D3
def wV (es:Array DictEntry):Bool:=es.toList.all fun e=>match e.key with | .str _ _=>true | _=>false
theorem wW {es:Array DictEntry} (h:wV es=true):StrKeys es:=fun e he=>by
 have:=cj.mp h e (iI.mpr he)
 cases q:e.key with
 | str n t=>exact ⟨n,t,rfl⟩
 | _=>rw [q] at this;cases this
theorem zy {K:PySem.W.Frag} {N:Addr} {c:Value} {d:Option Addr} {es:Array DictEntry} {n:Nat} {sl:Array (Option Value)} (l:K.lookup N=some ⟨c,d,.dict es n,sl⟩) (ok:wV es=true) (h:Heap) (X:K.In h):h.Ns N (nsFind es) :=
 ⟨_,es,n,X _ _ l,rfl,wW ok,fun _=>rfl⟩
theorem i_ {K:PySem.W.Frag} {N:Addr} {c:Value} {d:Option Addr} {es:Array DictEntry} {n:Nat} {sl:Array (Option Value)} {x:Str} {r:Option Value} (l:K.lookup N=some ⟨c,d,.dict es n,sl⟩) (e:PySem.W.nsIn K N x=some r):nsFind es x=r:=by
 unfold PySem.W.nsIn at e
 rw [l] at e
 dsimp only at e
 unfold nsFind findBy
 rw [← jl]
 split at e
 ·next en he =>
  cases e
  rw [he];rfl
 ·next he =>
  rw [he]
  split at e
  ·cases e
  ·cases e;rfl
theorem cT {K:PySem.W.Frag} {h:Heap} {mg:Str→Option Value} {cn f:Str} {C I N NI fI:Addr} (X:K.In h) (G:h.Ns mainGlobals mg)
 {nm q:Str} {bs:List Value} {sn:List Str} {sub:List Value} {ab:Bool} {col:Option Bool} {dd:Option Addr} {k0 k1 k2 k3 k5:Option Value}
 {nm' q':Str} {bs':List Value} {sn':List Str} {sub':List Value} {ab':Bool} {col':Option Bool} {dd':Option Addr} {j0 j1 j2 j3 j5:Option Value} {nid:String}
 {c c':Value} {d d':Option Addr} {es es':Array DictEntry} {n n':Nat} {sl sl':Array (Option Value)}
 {name qual:Str} {params:Arguments} {scope:Scope} {dV kV doc pm cdv ct:Value} {an od:Option Addr} {osl:Array (Option Value)} {p1 p2 p3 p4:Pos}
 (a:PySem.W.nsIn K mainGlobals cn=some (some (.ref C))) (kp:PySem.W.keepIn K (.ref C)=true)
 (lC:K.lookup C=some (excClassObj nm q C N bs (.ref I :: bmV) true sn sub ab col dd k0 k1 k2 k3 k5 "ValueError.__new__"))
 (lI:K.lookup I=some (excClassObj nm' q' I NI bs' bmV true sn' sub' ab' col' dd' j0 j1 j2 j3 j5 nid))
 (lN:K.lookup N=some ⟨c,d,.dict es n,sl⟩) (oN:wV es=true) (lNI:K.lookup NI=some ⟨c',d',.dict es' n',sl'⟩) (oNI:wV es'=true)
 (i1:PySem.W.nsIn K N "__init__" = some (some (.ref fI))) (i2:PySem.W.nsIn K NI "__init__" = some none) (s1:PySem.W.nsIn K N "__setattr__" = some none) (s2:PySem.W.nsIn K NI "__setattr__" = some none)
 (n1:PySem.W.nsIn K N f=some none) (n2:PySem.W.nsIn K NI f=some none) (hB:typeLookup (.type "ValueError") f=pure none)
 (lk:K.lookup fI=some ⟨.type "function", od,.func (PySem.W.fnOf name qual params [.Assign [.Attribute (.Name "self" p1) f p2] (.Name f p3) p4] scope dV kV doc pm an cdv ct),osl⟩) (hcd:PySem.W.codeIn K cdv qual=true)
 (S:FnScope ["self", f] ["self", f] scope) (l1:scope.names.lookup ("self" : Str)=some NameKind.local) (l2:scope.names.lookup f=some NameKind.local)
 (hb:∀ u v,bindArgs (PySem.W.fnOf name qual params [.Assign [.Attribute (.Name "self" p1) f p2] (.Name f p3) p4] scope dV kV doc pm an cdv ct) ⟨[u,v],[]⟩=pure [(("self" : Str),u),(f,v)])
 (ne:("self" : Str) ≠ f) (nd:(f == ("__debug__" : Str))=false) (nc:(f == ("__classdict__" : Str))=false):Exc K mg cn f C I :=
 ⟨PySem.W.mg_of X G a,kp,hB,N,fI,nsFind es,nsFind es',fun h X=>⟨⟨_,_,_,_,_,_,_,_,_,_,_,_,_,X _ _ lC⟩,zy lN oN h X,⟨_,_,_,_,_,_,_,_,_,_,_,_,_,_,_,X _ _ lI,zy lNI oNI h X⟩,by rfl⟩,i_ lN i1,i_ lNI i2,i_ lN s1,i_ lNI s2,i_ lN n1,i_ lNI n2,
  ⟨⟨name,qual,params,scope,dV,kV,doc,pm,cdv,ct,an,od,osl,p1,p2,p3,p4,lk,hcd,S,l1,l2,.all fun us hl=>match us,hl with | [u,v],_=>hb u v⟩,ne,nd,nc⟩⟩
end XC
namespace XC
open PySem PySem.Spec PyProof.Rows L2 My D3
structure ExcG (K:PySem.W.Frag) (mg:Str→Option Value) (fld:Addr→Str) (cn f ic:Str):Prop where
 ex:∃ C I,Exc K mg cn f C I∧fld C=f∧mg ic=some (.ref I)
section
variable {X:Cx} {fld:Addr→Str} {c f ic:Str} {i:Nat} {cond:Expr}
end
end XC
namespace XC
open PySem PySem.Spec PyProof.Rows L2 My
structure FlyN (h:Heap) (a C dx:Addr) (f:Str) (u:Value) (T L:Addr):Prop where
 obj:∃ vs sl,h.get? a=some ⟨.ref C,some dx,.fields vs,sl⟩∧vs[1]? = some (.ref T)
 dic:h.Ns1 dx (fun y=>if y=f then some u else none)
 ne:dx ≠ a
 hd:T ≠ a∧T ≠ dx∧∃ oT ts,h.get? T=some oT∧oT.data = .fields ts∧ts[3]? = some (rawInt L)
section
variable {M:Model} {A:Around} {E:Value→Shared→Prop} {s:Shared}
end
end XC
namespace XC
open PySem PySem.Spec PyProof.Rows L2 My
section
variable {X:Cx} {pins:List (Addr × Obj)} {σ:L2.St} {H H':Hp} {s:Shared}
end
section
variable {P:Program} {w:World} {K:PySem.W.Frag} {mg:Str→Option Value} {base:Heap} {N:List Str} {qual:Str} {scope:Scope} {fa:Addr} {cdv:Value} {A:Around} {outer:List Env} {s₀:Shared} {H₀:Hp} {E:XK} {fld:Addr→Str}
end
end XC
namespace XC
open PySem PySem.Spec PyProof.Rows L2 My D3
section
variable {X:Cx} {E:XK} {fl:List Fl} {body:List Stmt} {fx:FX} {pos:Pos}
end
section
variable {P:Program} {w:World} {K:PySem.W.Frag} {mg:Str→Option Value} {base:Heap} {N:List Str} {qual:Str} {scope:Scope} {fa:Addr} {cdv:Value} {A:Around} {outer:List Env} {s₀:Shared} {H₀:Hp} {E:XK} {fld:Addr→Str}
variable {fl:List Fl} {cn f:Str} {arg:Expr} {fe:FE} {p pos rpos:Pos} {k:Nat}
end
section
variable {P:Program} {w:World} {K:PySem.W.Frag} {mg:Str→Option Value} {base:Heap} {fld:Addr→Str} {x:Str} {ps N ks:List Str} {st:Stmt} {k n:Nat} {f:FX} {fl:List Fl} {dvs:List V} {sp:Sp}
end
end XC
namespace XC
open PySem PySem.Spec PyProof.Rows L2 My D3
section
variable {P:Program} {w:World} {K:PySem.W.Frag} {mg:Str→Option Value} {base:Heap} {N:List Str} {qual:Str} {scope:Scope} {fa:Addr} {cdv:Value} {A:Around} {outer:List Env} {s₀:Shared} {H₀:Hp} {E:XK} {fld:Addr→Str}
variable {fl:List Fl} {n:Nat} {x:Str} {ps:List Str} {F:List D→Option Or} {dvs:List V} {dd:List D} {e:Expr} {es:List Expr} {fs:FA} {p pos pos2:Pos}
end
end XC
namespace XC
open PySem PySem.Spec PyProof.Rows L2 My D3
section
variable {X:Cx} {pins:List (Addr × Obj)} {σ:L2.St} {H:Hp} {s:Shared} {fld:Addr→Str} {k:Nat} {f:Addr} {fd:FuncData} {ps:List Str} {sp:Sp} {dvs:List V} {ds:List Value} {EX:XK}
variable {x y:Str} {p np pos pos2:Pos} {e:Expr} {es:List Expr} {ta:TA} {i:Nat}
end
end XC
namespace XC
open PySem PySem.Spec PyProof.Rows L2 My D3
section
variable {X:Cx} {fl:List Fl} {fld:Addr→Str} {n i j:Nat} {x y ic en:Str} {ps cs:List Str} {F:List D→Option Or} {dvs:List V} {dd:List D} {e:Expr} {es:List Expr} {fa:FA} {p yp pos pos2 np hpos tpos:Pos} {b0:Stmt} {suite:List Stmt} {fS:Str→D→DS→Option D}
end
end XC
namespace XC
open PySem PySem.Spec PyProof.Rows L2 My D3
structure RoomQ (k:Nat) (A:Around):Prop where
 dp:A.depth + 3 * k + 5 < recursionLimit
 un:A.units + 16 * k + 200 < cLine
structure FnOkP (P:Program) (w:World) (K:PySem.W.Frag) (mg:Str→Option Value) (base:Heap) (Pre:Around→List Env→Shared→Hp→Prop) (k:Nat) (f:Addr) (fd:FuncData) (ps:List Str) (sp:Sp):Prop where
 len:∀ vs H Q E,sp vs H Q E→vs.length=ps.length
 run:∀ (A:Around) (outer:List Env) (s:Shared) (H:Hp) (args:Args) (us:List Value) (vs:List V) (Q:VK) (E:XK),RoomQ k A→Env0 P w K mg base A outer s H→BindsTo s fd args (ps.zip us)→Vals vs us→Pre A outer s H→sp vs H Q E →
  codeAny (model P w) A (.call (.ref f) args) (CR CX0 outer P w H s Q E) s
abbrev Ew (P:Program) (w:World) (K:PySem.W.Frag) (mg:Str→Option Value) (base:Heap) (k:Nat) (f:Addr) (fd:FuncData) (ps:List Str) (sp:Sp):Prop:=FnOkP P w K mg base (fun _ _ _ _=>True) k f fd ps sp
section
variable {X:Cx} {pins:List (Addr × Obj)} {σ:L2.St} {H:Hp} {s:Shared} {k:Nat} {f:Addr} {fd:FuncData} {ps:List Str} {sp:Sp}
end
end XC
namespace XC
open PySem PySem.Spec PyProof.Rows L2 My D3
structure HasQ (P:Program) (w:World) (K:PySem.W.Frag) (mg:Str→Option Value) (base:Heap) (n:Nat) (x:Str) (ps:List Str) (sp:Sp):Prop where
 ex:∃ (f:Addr) (fd:FuncData),Ew P w K mg base n f fd ps sp∧Binds K fd ps []∧PySem.W.keepIn K (.ref f)=true∧mg x=some (.ref f)
section
variable {P:Program} {w:World} {K:PySem.W.Frag} {mg:Str→Option Value} {base:Heap} {x:Str} {ps N:List Str} {st:Stmt} {k n:Nat} {fs:FS} {fl:List Fl}
end
section
variable {X:Cx} {fl:List Fl} {e:Expr} {es:List Expr} {t:TA} {fa:FA} {pos p:Pos} {x:Str} {n:Nat} {ps:List Str} {sp:Sp} {F:List D→Option D}
end
end XC
namespace XC
open PySem PySem.Spec PyProof.Rows L2 My D3
structure ExA (K:PySem.W.Frag) (C:Addr):Prop where
 ga:PySem.W.findIn K (.ref C) "__getattribute__" = some (some (.builtin "BaseException.__getattribute__"))
 gh:PySem.W.findIn K (.ref C) "__getattr__" = some none
 hb:PySem.W.mroIn K C (.type "BaseException")=some true
section
variable {prog:Program} {w:World} {A:Around} {E:Value→Shared→Prop} {s:Shared} {K:PySem.W.Frag} {x C:Addr} {ox:Obj} {od:Option Obj} {name:Str} {v:Value}
theorem rP {M:Model} {nameV:Value} {Q:Unit→Shared→Prop} (N:ExA K C) (X:K.In s.heap) (I:PySem.W.InstAt s.heap x ox C od) (hq:Q () s):wpAny M A (checkBuiltinCall "BaseException.__getattribute__" ⟨[.ref x,nameV],[]⟩) Q E s:=by
 have hk:builtinKind "BaseException.__getattribute__" = some .slot:=by decide +kernel
 have hsplit:splitId "BaseException.__getattribute__" = some ("BaseException", "__getattribute__"):=by decide +kernel
 have ha:=PySem.F.args_bexc_ga (.ref x) nameV
 obtain ⟨hh,g,d,t,os⟩:=s
 have L0:=I.type (M:=M)
 have L1:=PySem.W.looks_mroIn (M:=M) X N.hb
 simp only [checkBuiltinCall,hk,hsplit]
 refine wpAny_bind ?_
 unfold isInstance
 repeat (first | (with_reducible refine L0.at ?_) | (with_reducible refine L1.at ?_) | wp_step)
 exact hq
theorem wX {tk:Tok} {Q:Fin→Shared→Prop} (X:K.In s.heap) (I:PySem.W.InstAt s.heap x ox C od) (hf:PySem.W.findObj K C od name=some (.value v)) (hq:Q (.done (.ret v)) s) :
 wpAny (model prog w) A (Builtin.«object.__getattribute__» ⟨[.ref x,.str name tk],[]⟩) Q E s:=by
 obtain ⟨hh,g,d,t,os⟩:=s
 have L0:=I.type (M:=model prog w)
 have L1:=PySem.W.looks_find (M:=model prog w) X I hf
 unfold Builtin.«object.__getattribute__»
 refine wpAny_bind ?_
 refine wpAny_pure ?_
 refine wpAny_bind (wpAny_pure (wpAny_bind (L0.at (wpAny_bind (L1.at ?_)))))
 exact wpAny_pure hq
theorem wY {tk:Tok} {Q:Fin→Shared→Prop} (X:K.In s.heap) (I:PySem.W.InstAt s.heap x ox C od) (hm:PySem.W.mroIn K C (.type "object")=some true)
 (hf:PySem.W.findObj K C od name=some (.bind (.builtin "getset_descriptor.__get__") (.builtin "object.__class__"))) (hq:Q (.done (.ret (.ref C))) s) :
 wpAny (model prog w) A (Builtin.«object.__getattribute__» ⟨[.ref x,.str name tk],[]⟩) Q E s:=by
 obtain ⟨hh,g,d,t,os⟩:=s
 have L0:=I.type (M:=model prog w)
 have L1:=PySem.W.looks_find (M:=model prog w) X I hf
 unfold Builtin.«object.__getattribute__»
 refine wpAny_bind ?_
 refine wpAny_pure ?_
 refine wpAny_bind (wpAny_pure (wpAny_bind (L0.at (wpAny_bind (L1.at ?_)))))
 show wpAny _ _ (holding [.builtin "object.__class__"] (PySem.call (.builtin "getset_descriptor.__get__") [.builtin "object.__class__", .ref x,.ref C]) >>= ret) _ _ _
 refine wpAny_bind (wpAny_holding (wpAny_call (PySem.W.class_get (s:=⟨hh,g,d,t,os⟩) (ox:=ox) (od:=od) X I hm ?_)))
 exact wpAny_pure hq
theorem uE {nameV:Value} {fill expr:Bool} {Q:Value→Shared→Prop} (N:ExA K C) (X:K.In s.heap) (I:PySem.W.InstAt s.heap x ox C od) (hh:PySem.W.handedIn v=true)
 (he:∀ {A:Around} {E:Value→Shared→Prop} {Q:Fin→Shared→Prop},Q (.done (.ret v)) s→wpAny (model prog w) A (Builtin.«object.__getattribute__» ⟨[.ref x,nameV],[]⟩) Q E s) (hq:Q v s) :
 wpAny (model prog w) A (getAttrBy (.ref x) nameV fill expr) Q E s:=by
 obtain ⟨h0,g,d,t,os⟩:=s
 have L0:=I.type (M:=model prog w)
 have L1:=PySem.W.looks_findIn (M:=model prog w) X N.ga
 have L2:=PySem.W.looks_findIn (M:=model prog w) X N.gh
 have f3:=PySem.F.attr_ValueError.ga.bind (.ref x)
 have hx0:(expr && onTheHeap (Value.builtin "BaseException.__getattribute__"))=false:=by cases expr <;> rfl
 have hx2:(Value.builtin "BaseException.__getattribute__" == Value.builtin "object.__getattribute__")=false:=by decide +kernel
 have hx1:(onTheHeap (Value.ref C) && Value.builtin "BaseException.__getattribute__" == Value.builtin "object.__getattribute__")=false:=by rw [hx2];rfl
 repeat (any_goals (first | assumption | (with_reducible refine L0.at ?_) | (with_reducible refine L1.at ?_) | (with_reducible refine L2.at ?_) | wp_step))
 refine codeAny_call_builtin PySem.F.attr_ValueError.ga.plain PySem.F.entry_bexc_ga (rP (s:=⟨h0,g,d,t,os⟩) N X I (he ?_))
 repeat (any_goals (first | assumption | (with_reducible exact PySem.W.handed_on hh hq) | wp_step))
theorem nY {expr:Bool} {Q:Value→Shared→Prop} (N:ExA K C) (X:K.In s.heap) (I:PySem.W.InstAt s.heap x ox C od) (hf:PySem.W.findObj K C od name=some (.value v)) (hh:PySem.W.handedIn v=true) (hq:Q v { s with toks:=s.toks + 1 }) :
 wpAny (model prog w) A (getAttr (.ref x) name expr) Q E s:=by
 obtain ⟨h0,g,d,t,os⟩:=s
 unfold getAttr
 refine wpAny_bind (wpAny_mkText ?_)
 exact uE (s:=⟨h0,g,d,t + 1,os⟩) N X I hh (fun z=>wX (s:=⟨h0,g,d,t + 1,os⟩) X I hf z) hq
theorem rQ {Q:Option Value→Shared→Prop} (N:ExA K C) (X:K.In s.heap) (I:PySem.W.InstAt s.heap x ox C od) (hm:PySem.W.mroIn K C (.type "object")=some true)
 (hf:PySem.W.findObj K C od "__class__" = some (.bind (.builtin "getset_descriptor.__get__") (.builtin "object.__class__"))) (hq:Q (some (.ref C)) { s with toks:=s.toks + 1 }) :
 wpAny (model prog w) A (getAttr? (.ref x) "__class__") Q E s:=by
 obtain ⟨h0,g,d,t,os⟩:=s
 unfold getAttr? getAttrBy?
 refine wpAny_bind (wpAny_mkText (wpAny_bind (wpAny_attempt ?_)))
 refine uE (s:=⟨h0,g,d,t + 1,os⟩) N X I rfl (fun z=>wY (s:=⟨h0,g,d,t + 1,os⟩) X I hm hf z) ?_
 exact wpAny_pure hq
theorem nZ {x D:Addr} {ox od:Obj} (N:ExA K D) (hdct:PySem.W.hasDictIn K D=true) (ha:PySem.W.findIn K (.ref D) "__class__" = some (some (.builtin "object.__class__")))
 (hn:PySem.W.specialIn K (.builtin "object.__class__") "__get__" = some (some (.builtin "getset_descriptor.__get__"))) (htk:PySem.W.takesIn K (.builtin "object.__class__")=some true) (hm:PySem.W.mroIn K D (.type "object")=some true) :
 PySem.W.KitX K (.ref x) (.ref D) (fun h=>PySem.W.InstAt h x ox D (some od)) where
 ty:=fun _ _ _ I=>I.type
 it:=fun _ _ X _=>by
  obtain ⟨cdD,hcD,_⟩:=PySem.W.any_some hdct
  unfold PySem.W.clsIn at hcD
  split at hcD
  ·rename_i c' d' cd' sl' ho
   intro A' Q' E' s' k q
   unfold isType loadHead
   exact wpAny_bind (wpAny_loadPart (k _ _ (X _ _ ho)) (wpAny_pure q))
  ·cases hcD
 ne:=fun h tp dd its n sl X htp=>by
  obtain ⟨cdD,hcD,_⟩:=PySem.W.any_some hdct
  refine Bool.eq_false_iff.mpr fun q=>?_
  have e:D=tp:=Value.ref.inj (beq_iff_eq.mp q)
  subst e
  unfold PySem.W.clsIn at hcD
  split at hcD
  ·rename_i c' d' cd' sl' ho
   have z:=(X _ _ ho).symm.trans htp
   cases z
  ·cases hcD
 ca:=fun X I k=>rQ N X I hm (PySem.W.findObj_data (by obtain ⟨cd,hc,_⟩:=PySem.W.any_some hdct;rw [hc];rfl) ha hn htk) k
end
end XC
namespace XC
open PySem PySem.Spec PyProof.Rows L2 My D3
structure AttE (K:PySem.W.Frag) (C:Addr) (f:Str):Prop where
 ea:ExA K C
 hd:PySem.W.hasDictIn K C=true
 no:PySem.W.findIn K (.ref C) f=some none
section
variable {X:Cx} {a C D dx:Addr} {oa od:Obj} {u:Value} {v:V} {f n:Str} {i:Nat} {p1 pos:Pos}
end
end XC
namespace XC
open PySem PySem.Spec PyProof.Rows L2 My D3
structure KitE (K:PySem.W.Frag) (C:Addr):Prop where
 ea:ExA K C
 hd:PySem.W.hasDictIn K C=true
 fd:PySem.W.findIn K (.ref C) "__class__" = some (some (.builtin "object.__class__"))
 sp:PySem.W.specialIn K (.builtin "object.__class__") "__get__" = some (some (.builtin "getset_descriptor.__get__"))
 tk:PySem.W.takesIn K (.builtin "object.__class__")=some true
 mr:PySem.W.mroIn K C (.type "object")=some true
section
variable {X:Cx} {a C D dx:Addr} {oa od:Obj} {b:Bool}
end
end XC
namespace XC
open PySem PySem.Spec PyProof.Rows L2 My D3
theorem mW {δ:DS} {i j:Nat} {x:U} (h:(δ.set i none)[j]? = some (some x)):j ≠ i∧δ[j]? = some (some x):=by
 by_cases e:j=i
 ·subst e
  by_cases l:j < δ.length
  ·rw [bW l] at h;cases h
  ·rw [b_ (by rw [cG];omega)] at h;cases h
 ·rw [aQ (Ne.symm e)] at h
  exact ⟨e,h⟩
theorem Rel.forget {K:PySem.W.Frag} {fl:List Fl} {G:Gh} {ow:Ow} {σ:L2.St} {H:Hp} {δ:DS} {i:Nat} {x:Option V} (R:Rel K fl G ow σ H δ) (hfl:fl[i]? = some .A):Rel K fl G ow (σ.set i x) H (δ.set i none):=by
 have no:∀ a,ow i ≠ some a:=fun a z=>by
  obtain ⟨_,hz,_⟩:=R.own i a z
  rw [hfl] at hz
  rcases hz with ⟨z,_⟩ | ⟨z,_⟩ <;> cases z
 refine ⟨R.s0,R.s1,by rw [cG,cG];exact R.len,fun j a h=>?_,R.inj,R.pin,fun j d' h1 hn h2=>?_,fun j d' h1 hn h2 h3=>?_,R.nt,R.nd,R.ns,R.np,fun j d' hn h1=>?_⟩
 ·have hj:j ≠ i:=fun z=>no a (z ▸ h)
  obtain ⟨h0,hf,xs,ds,h1,h2,h3,h4⟩:=R.own j a h
  exact ⟨h0,hf,xs,ds,by rw [aQ (Ne.symm hj)];exact h1,h2,h3,by rw [aQ (Ne.symm hj)];exact h4⟩
 ·obtain ⟨hj,e⟩:=mW h1
  obtain ⟨v',h3,h4⟩:=R.dat j d' e hn h2
  exact ⟨v',by rw [aQ (Ne.symm hj)];exact h3,h4⟩
 ·obtain ⟨hj,e⟩:=mW h1
  exact R.oo j d' e hn h2 h3
 ·obtain ⟨hj,e⟩:=mW h1
  obtain ⟨v',h3,h4⟩:=R.nr j d' hn e
  exact ⟨v',by rw [aQ (Ne.symm hj)];exact h3,h4⟩
def tEt (i:Nat) (a:Addr) (b:Bool):TE:=fun σ H Q=>σ[i]? = some (some (.ref a))∧∀ H',Same H H'→Q (.bl b) H'
section
variable {X S:Cx} {a C I0 D dx:Addr} {oa od:Obj} {u:Value} {v:V} {f n cn:Str} {i j:Nat} {p p1 p2 pos:Pos} {cond a1 b1:Expr} {rest es:List Expr} {b:Bool} {k:Nat}
end
end XC
namespace XC
open PySem PySem.Spec PyProof.Rows L2 My D3
structure SuiG (K:PySem.W.Frag) (mg:Str→Option Value) (fld:Addr→Str) (cn f ic n1 n2 n3:Str):Prop where
 ex:∃ C I D1 D2 D3,Exc K mg cn f C I∧fld C=f∧mg ic=some (.ref I)∧KitE K C∧AttE K C f∧mg n1=some (.ref D1)∧mg n2=some (.ref D2)∧mg n3=some (.ref D3)∧PySem.W.kitAny K (.ref C) [.ref D1,.ref D2,.ref D3]=some false
theorem SuiG.up {K:PySem.W.Frag} {mg:Str→Option Value} {fld:Addr→Str} {cn f ic n1 n2 n3:Str} (h:SuiG K mg fld cn f ic n1 n2 n3):ExcG K mg fld cn f ic:=by
 obtain ⟨C,I,_,_,_,E,hf,m,_⟩:=h.ex
 exact ⟨C,I,E,hf,m⟩
theorem Room.q {k:Nat} {A:Around} {o:Option Value} (r:Room k A):RoomQ k (A.mark o):=⟨r.dp,r.un⟩
section
variable {X:Cx} {fl:List Fl} {fld:Addr→Str} {c f ic n1 n2 n3 n y g s0 s1:Str} {gp:List Str} {i j k:Nat} {W:List D→Option D} {rowE:Expr} {fr:FE}
variable {yp ap spos a1 a2 a3 a4 a5 a6 a7 a8 a9 b1 b2 b3 b4 b5 b6 b7 q0 q1 q2 q3 q4 q5 q6 q7 q8 q9 q10 q11 q12 q13 q14 rpos:Pos} {x1 j0 j1:Nat}
end
end XC
namespace XC
open PySem PySem.Spec PyProof.Rows L2 My D3
section
variable {X:Cx} {fl:List Fl} {fld:Addr→Str} {n i j:Nat} {x y ic en:Str} {ps cs:List Str} {F:List D→Option Or} {dvs:List V} {dd:List D} {e c:Expr} {es:List Expr} {fa:FA} {ft:FT} {f f1 f2:FX} {p yp pos pos2 np hpos tpos:Pos} {b0 st s1 s2:Stmt} {suite:List Stmt} {fS:Str→D→DS→Option D}
end
section
variable {P:Program} {w:World} {K:PySem.W.Frag} {mg:Str→Option Value} {base:Heap} {fld:Addr→Str} {x:Str} {ps N ks:List Str} {st:Stmt} {k n:Nat} {f:FX} {fl:List Fl} {dvs:List V}
end
end XC
namespace XC
open PySem PySem.Spec PyProof.Rows L2 My D3
structure SuiH (K:PySem.W.Frag) (mg:Str→Option Value) (fld:Addr→Str) (cn f ic n1 n2:Str):Prop where
 ex:∃ C I D1 D2,Exc K mg cn f C I∧fld C=f∧mg ic=some (.ref I)∧KitE K C∧AttE K C f∧mg n1=some (.ref D1)∧mg n2=some (.ref D2)∧PySem.W.kitAny K (.ref C) [.ref D1,.ref D2]=some false∧PySem.W.kitOne K (.ref C) (.ref I)=some true
theorem SuiH.up {K:PySem.W.Frag} {mg:Str→Option Value} {fld:Addr→Str} {cn f ic n1 n2:Str} (h:SuiH K mg fld cn f ic n1 n2):ExcG K mg fld cn f ic:=by
 obtain ⟨C,I,_,_,E,hf,m,_⟩:=h.ex
 exact ⟨C,I,E,hf,m⟩
structure SuiA (K:PySem.W.Frag) (mg:Str→Option Value) (fld:Addr→Str) (cn f ic:Str):Prop where
 ex:∃ C I,Exc K mg cn f C I∧fld C=f∧mg ic=some (.ref I)∧AttE K C f
theorem SuiA.up {K:PySem.W.Frag} {mg:Str→Option Value} {fld:Addr→Str} {cn f ic:Str} (h:SuiA K mg fld cn f ic):ExcG K mg fld cn f ic:=by
 obtain ⟨C,I,E,hf,m,_⟩:=h.ex
 exact ⟨C,I,E,hf,m⟩
section
variable {X:Cx} {a C D dx:Addr} {oa od:Obj} {ic n:Str} {i:Nat} {p p1 p2 pos:Pos} {b:Bool}
end
section
variable {X:Cx} {fl:List Fl} {fld:Addr→Str} {c f ic n1 n2 n g s0 s1:Str} {gp:List Str} {i k:Nat} {W:List D→Option D}
variable {ap spos a1 a2 a3 a4 a5 b1 b2 b3 b4 b6 b7 q0 q1 q2 q3 q4 q5 q6 q7 q8 q9 q10 q11 rpos rp2:Pos} {x1 x2 x3 j0 j1 j2:Nat}
end
end XC
namespace XC
open PySem PySem.Spec PyProof.Rows L2 My D3
section
variable {P:Program} {w:World} {K:PySem.W.Frag} {mg:Str→Option Value} {base:Heap} {N:List Str} {qual:Str} {scope:Scope} {fa:Addr} {cdv:Value} {A:Around} {outer:List Env} {s₀:Shared} {H₀:Hp} {E:XK} {fld:Addr→Str}
variable {fl:List Fl} {n:Nat} {x:Str} {ps:List Str} {F:List D→Option Or} {dvs:List V} {dd:List D} {e:Expr} {es:List Expr} {fs:FA} {p pos pos2:Pos}
end
end XC
namespace D3
open PySem
end D3
namespace XC
open PySem PySem.Spec PyProof.Rows L2 My D3
structure At (K:PySem.W.Frag) (i:Nat) (a:Addr) (v:V) (d:D) (σ:L2.St) (H:Hp):Prop where
 sl:σ[i]? = some (some (.ref a))
 ra:RA K ok0 false H v d
 fl:flat d=true
section
variable {K:PySem.W.Frag} {fl:List Fl} {i:Nat} {a:Addr} {v:V} {d:D} {σ:L2.St} {H H':Hp}
theorem At.set {j:Nat} {x:Option V} (h:At K i a v d σ H) (n:i ≠ j):At K i a v d (σ.set j x) H:=⟨by rw [aQ (Ne.symm n)];exact h.sl,h.ra,h.fl⟩
end
structure Sc where
 i:Nat
 a:Addr
 v:V
 d:D
section
variable {X:Cx} {fl:List Fl} {z:Sc} {e a b c:Expr} {es rest:List Expr} {st:Stmt} {sts body orelse:List Stmt} {k:Kd} {f fa fb:FE} {fs gs:FS} {ft gt:FT} {fr:FA} {pos:Pos}
end
end XC
namespace XC
open PySem PySem.Spec PyProof.Rows L2 My D3
section
variable {X:Cx} {pins:List (Addr × Obj)} {σ:L2.St} {H:Hp} {s:Shared} {a C I0 dx T D:Addr} {cn f ic n:Str} {u:Value} {i:Nat} {b0:Stmt} {suite:List Stmt} {np hpos:Pos}
theorem pG {M:Model} {A:Around} {E:Value→Shared→Prop} {Q:Unit→Shared→Prop} (I:Inv X pins σ H s) (hi:X.N[i]? = some n) (hN:X.N.Nodup) (hl:X.env.scope.names.lookup n=some .local)
 (h:∀ s',Inv X pins (σ.set i none) H s'→Q () s'):wpAny M A (do bindName X.env n .none;unbindBehindTheSuite X.env n hpos) Q E s:=by
 obtain ⟨m,hn,hm⟩:=id I.loc
 have cls:(X.env.scope.kind == .class || (X.env.scope.kind == .module && X.env.locals != X.env.globals))=false:=by rw [I.ok.kind];rfl
 refine wpAny_nameGoes_keeps hl hn cls fun h' v0 hn' hs=>h _ ?_
 have neL:∀ b o,X.s₀.heap.get? b=some o→b ≠ X.env.locals:=fun b o e z=>by
  rw [z] at e
  exact absurd (Heap.lt_size e) (cQ.mpr I.ok.above)
 refine ⟨I.ok,I.os,I.bare,⟨fun b o e z1 z2 z3=>(hs.2 b (neL b o e)).trans (I.base.keep b o e z1 z2 z3),fun b o e z1 z2 z3=>?_,I.base.free,fun b o e z1=>?_,I.base.tups,I.base.frzs,I.base.tbls⟩,⟨_,hn',fun j y v e1 e2 e3=>?_⟩,fun y c e=>?_,I.free,I.freeC,fun p hp=>?_,fun b ob e=>?_,by rw [cG];exact I.len⟩
 ·obtain ⟨sl,w⟩:=I.base.slot b o e z1 z2 z3
  exact ⟨sl,(hs.2 b (neL b o e)).trans w⟩
 ·obtain ⟨o',w⟩:=I.base.there b o e z1
  exact ⟨o',(hs.2 b (neL b o e)).trans w⟩
 ·have hj:j ≠ i:=fun z=>by
   subst z
   by_cases l:j < σ.length
   ·rw [bW l] at e2;cases e2
   ·rw [b_ (by rw [cG];omega)] at e2;cases e2
  rw [aQ (Ne.symm hj)] at e2
  obtain ⟨u',r',q⟩:=hm j y v e1 e2 e3
  refine ⟨u',r',?_⟩
  rcases q with ⟨k,e⟩ | ⟨k,c,e,z⟩
  ·refine .inl ⟨k,?_⟩
   have:y ≠ n:=fun e=>hj (jV hN e1 (e ▸ hi))
   simp [this,e]
  ·exact .inr ⟨k,c,e,z.sameBut hs (I.cne y c e)⟩
 ·obtain ⟨w,z⟩:=I.cell y c e
  exact ⟨w,z.sameBut hs (I.cne y c e)⟩
 ·obtain ⟨e,z1,z2,z3,z4⟩:=I.pin p hp
  exact ⟨(hs.2 p.1 z2).trans e,z1,z2,z3,z4⟩
 ·refine (I.hok b ob e).stay (fun c w hc q=>(hs.2 c fun z=>?_).trans q) (fun _ q=>q) fun _ _ q=>q
  rcases hc with y | y
  ·rw [← y,z,I.free] at e;cases e
  ·rw [z,I.free] at y;cases y
end
section
variable {X:Cx} {fl:List Fl} {fld:Addr→Str} {i:Nat} {ic en:Str} {cs:List Str} {f:FX} {np hpos tpos:Pos} {b0 st:Stmt} {suite:List Stmt} {fS:Str→D→FS}
end
structure SuiU (K:PySem.W.Frag) (mg:Str→Option Value) (fld:Addr→Str) (cn f ic:Str) (ts:List (Str × Bool)):Prop where
 ex:∃ C I,Exc K mg cn f C I∧fld C=f∧mg ic=some (.ref I)∧KitE K C∧AttE K C f∧∀ t ∈ ts,∃ D,mg t.1=some (.ref D)∧PySem.W.kitOne K (.ref C) (.ref D)=some t.2
theorem SuiU.up {K:PySem.W.Frag} {mg:Str→Option Value} {fld:Addr→Str} {cn f ic:Str} {ts:List (Str × Bool)} (h:SuiU K mg fld cn f ic ts):ExcG K mg fld cn f ic:=by
 obtain ⟨C,I,E,hf,m,_⟩:=h.ex
 exact ⟨C,I,E,hf,m⟩
structure SuK (X:Cx) (f:Str) (ts:List (Str × Bool)) (i:Nat) (n:Str) (a:Addr) (oa:Obj) (dx:Addr) (od:Obj) (v:V):Prop where
 is:∀ (t:Str × Bool),t ∈ ts→Gl X t.1→(t.1 == ("__debug__" : Str))=false→∀ p p1 p2 pos,PE (dU X a oa dx od) (.Call (.Name "isinstance" p) [.Name n p1,.Name t.1 p2] [] pos) (tEt i a t.2)
 isv:X.mg "ValueError" = none→Gl X "ValueError" → ∀ p p1 p2 pos,PE (dU X a oa dx od) (.Call (.Name "isinstance" p) [.Name n p1,.Name "ValueError" p2] [] pos) (tEt i a true)
 att:∀ p1 pos,PE (dU X a oa dx od) (.Attribute (.Name n p1) f pos) (fun σ H Q=>σ[i]? = some (some (.ref a))∧Q v H)
section
variable {X:Cx} {fl:List Fl} {fld:Addr→Str} {c f ic n g:Str} {ts:List (Str × Bool)} {i k:Nat} {a dx:Addr} {oa od:Obj} {v:V} {d:D} {b0:Stmt} {suite:List Stmt} {fS:Str→D→FS} {gp:List Str} {W:List D→Option D}
end
end XC
namespace XC
open PySem PySem.Spec PyProof.Rows L2 My D3
structure PreE (a:Addr) (oa:Obj) (dx:Addr) (od:Obj) (A:Around) (outer:List Env) (s:Shared) (H:Hp):Prop where
 hd:A.handled=some (.ref a)
 ga:s.heap.get? a=some oa
 gd:s.heap.get? dx=some od
 ha:H a=none
 hx:H dx=none
 fa:a ∉ frs outer
 fx:dx ∉ frs outer
 ca:∀ v,oa.data ≠ .cell v
 cx:∀ v,od.data ≠ .cell v
section
variable {P:Program} {w:World} {K:PySem.W.Frag} {mg:Str→Option Value} {base:Heap} {N:List Str} {qual:Str} {scope:Scope} {f:Addr} {cd:Value} {A:Around} {outer:List Env} {s:Shared} {H:Hp} {E:XK} {a dx:Addr} {oa od:Obj}
end
def spE (a:Addr) (b:Bool):Sp:=fun vs H Q _=>vs=[.ref a]∧Tb H∧∀ H',Same H H'→Q (.bl b) H'
structure HasE (P:Program) (w:World) (K:PySem.W.Frag) (mg:Str→Option Value) (base:Heap) (n:Nat) (x c:Str) (b:Bool):Prop where
 ex:∃ (f:Addr) (fd:FuncData) (q:Str) (C:Addr),mg c=some (.ref C)∧(∀ a oa dx od,oa.cls = .ref C→oa.dict=some dx→PySem.W.notCls oa=true→FnOkP P w K mg base (PreE a oa dx od) n f fd [q] (spE a b))∧Binds K fd [q] []∧PySem.W.keepIn K (.ref f)=true∧mg x=some (.ref f)
section
variable {P:Program} {w:World} {K:PySem.W.Frag} {mg:Str→Option Value} {base:Heap} {x p c:Str} {N:List Str} {st:Stmt} {k n:Nat} {fs:FS} {fl:List Fl} {b:Bool}
end
section
variable {X:Cx} {fl:List Fl} {z:Sc} {e a b:Expr} {rest:List Expr} {f fa fb:FE} {pos:Pos}
end
def namesOf:List Expr→List Str→Prop
 | [],[]=>True
 | .Name n _ :: es,m :: ms=>n=m∧namesOf es ms
 | _,_=>False
section
variable {X:Cx} {a C dx:Addr} {oa od:Obj} {i:Nat} {n:Str} {p p1 p2 pos:Pos} {x1:Nat}
end
structure SuT (X:Cx) (ts:List (Str × Bool)) (i:Nat) (n:Str) (a:Addr) (oa:Obj) (dx:Addr) (od:Obj):Prop where
 is:∀ (es:List Expr) (ms:List Str) x1,namesOf es ms→(∀ m ∈ ms,∃ t ∈ ts,t=(m,false)∧Gl X m∧(m == ("__debug__" : Str))=false)→ms.length ≤ 1000→∀ p p1 p2 pos,PE (dU X a oa dx od) (.Call (.Name "isinstance" p) [.Name n p1,.Tuple es x1 p2] [] pos) (tEt i a false)
 isv:X.mg "ValueError" = none→Gl X "ValueError" → ∀ p p1 p2 pos,PE (dU X a oa dx od) (.Call (.Name "isinstance" p) [.Name n p1,.Name "ValueError" p2] [] pos) (tEt i a true)
section
variable {X:Cx} {fl:List Fl} {fld:Addr→Str} {c f ic n g:Str} {ts:List (Str × Bool)} {i k:Nat} {a dx C:Addr} {oa od:Obj} {v:V} {d:D} {b:Bool}
end
section
variable {X:Cx} {fl:List Fl} {c g n:Str} {i k:Nat} {a dx C:Addr} {oa od:Obj} {v:V} {d:D} {b:Bool} {p p1 pos:Pos}
end
end XC
namespace D3
open PySem
def exD (C:Nat) (f:Str) (d:D):D:=.dict [(.none,.tuple [.int (C:Int),.str f,d])]
def scB:D→Bool
 | .none=>true
 | .bool _=>true
 | .int _=>true
 | .str _=>true
 | _=>false
def gB (C:Nat) (f:Str) (fa:FE):FE:=fun δ=>(fa δ).bind fun d=>if scB d=true then some (exD C f d) else none
def gn (Cs:List Nat) (C:Nat):D→Option D
 | .dict [(.none,.tuple [.int i,.str _g,_d])]=>if i.toNat ∈ Cs then some (.bool (decide (i.toNat=C))) else none
 | _=>none
def pH (Cs:List Nat):D→Option D
 | .dict [(.none,.tuple [.int i,.str _g,_d])]=>if i.toNat ∈ Cs then some (.bool true) else none
 | _=>none
def fL (Cs:List Nat) (f:Str):D→Option D
 | .dict [(.none,.tuple [.int i,.str g,d])]=>if i.toNat ∈ Cs∧g=f then some d else none
 | _=>none
def lY (i j:Nat) (f:FX) (cl:Str→Option (Nat × Str)):FS:=fun δ=>(f δ).bind fun o=>match o with
 | .ex c d=>(cl c).bind fun q=>if scB d=true∧j < δ.length then some (.nx (((δ.set i none).set j (some (.d (exD q.1 q.2 d)))).set i none)) else none
 | _=>none
end D3
namespace XC
open PySem PySem.Spec PyProof.Rows L2 My D3
section
variable {X:Cx} {pins:List (Addr × Obj)} {σ:L2.St} {H:Hp} {s:Shared} {a b C dx:Addr} {f:Str} {u:Value} {v:V} {tb:Option Addr}
theorem p8 {o:HO} (I:Inv X pins σ H s) (L:Loose X pins H b) (new:dF X.prog X.w (upd H b o) s.heap b o):Inv X pins σ (upd H b o) s:=by
 have ne:∀ {c u},H c=some u→c ≠ b:=fun e=>d9 e L.out
 refine ⟨I.ok,I.os,I.bare,⟨I.base.keep,I.base.slot,fun c w e n x=>?_,I.base.there,fun c xs e=>?_,fun c w y e=>?_,fun c q p e=>?_⟩,I.loc,I.cell,?_,fun x c e=>?_,fun p hp=>?_,fun c w e=>?_,I.len⟩
 ·rw [bK (fun z=>by rw [z] at e;exact absurd (Heap.lt_size e) (cQ.mpr L.new))]
  exact I.base.free c w e n x
 ·have q:=I.base.tups c xs e
  rw [bK (ne q)]
  exact q
 ·have q:=I.base.frzs c w y e
  rw [bK (ne q)]
  exact q
 ·have q:=I.base.tbls c q p e
  rw [bK (ne q)]
  exact q
 ·rw [bK (Ne.symm L.loc)]
  exact I.free
 ·rw [bK (L.cel x c e)]
  exact I.freeC x c e
 ·obtain ⟨h1,h2,h3⟩:=I.pin p hp
  exact ⟨h1,by rw [bK (L.pin p hp)];exact h2,h3⟩
 ·by_cases z:c=b
  ·subst z
   rw [dH] at e
   cases e
   exact new
  ·rw [bK z] at e
   exact (I.hok c w e).stay (fun _ _ _ q=>q) (fun d q=>by rw [bK (ne q)];exact q) fun d xs q=>by rw [bK (ne q)];exact q
theorem n6 {vs:Array Value} {sl:Array (Option Value)} (I:Inv X pins σ H s) (e1:s.heap.get? a=some ⟨.ref C,some dx,.fields vs,sl⟩) (Fd:s.heap.Ns1 dx (fun y=>if y=f then some u else none)) (ne:dx ≠ a) (La:Loose X pins H a) (Ld:Loose X pins H dx) (rv:RelV v u):∃ H',Same H H'∧ExO H' a C f v∧Inv X pins σ H' s:=by
 have F2:=Fd
 obtain ⟨od,es,ep,e2,e3⟩:=F2
 have I1:Inv X pins σ (upd H a (.frz ⟨.ref C,some dx,.fields vs,sl⟩ (.ext fun _=>True))) s:=p8 I La ⟨e1,True.intro,⟨_,e1⟩,fun _ _ _ _=>True.intro⟩
 have Ld':Loose X pins (upd H a (.frz ⟨.ref C,some dx,.fields vs,sl⟩ (.ext fun _=>True))) dx:=⟨Ld.new,Ld.loc,Ld.cel,Ld.pin,by rw [bK ne];exact Ld.out⟩
 have I2:=p8 (o:=.frz od (.xd [(f,v)])) I1 Ld' ⟨e2,_,Fd,fun g=>by
  by_cases z:g=f
  ·subst z
   simp only [bV,beq_self_eq_true,if_true]
   exact rv
  ·have:(g == f)=false:=beq_eq_false_iff_ne.mpr z
   simp only [bV,this,if_neg z]
   exact True.intro⟩
 refine ⟨_,(eU La.out _).trans (eU Ld'.out _),⟨dx,vs,sl,od,?_,dH⟩,I2⟩
 rw [bK (Ne.symm ne),dH]
theorem wZ (I:Inv X pins σ H s) (F:Fly s.heap a C dx f u tb) (La:Loose X pins H a) (Ld:Loose X pins H dx) (rv:RelV v u):∃ H',Same H H'∧ExO H' a C f v∧Inv X pins σ H' s:=by
 obtain ⟨vs,sl,e1,_⟩:=F.obj
 exact n6 I e1 F.dic F.ne La Ld rv
theorem zA {K:PySem.W.Frag} {ok:Ok} {pl:Bool} {d:D} (h:RA K ok pl H v d) (hs:scB d=true):scR v d:=by
 cases h with
 | non=>exact .inl ⟨rfl,rfl⟩
 | bl b=>exact .inr (.inl ⟨b,rfl,rfl⟩)
 | int i=>exact .inr (.inr (.inl ⟨i,rfl,rfl⟩))
 | str x=>exact .inr (.inr (.inr ⟨x,rfl,rfl⟩))
 | _=>cases hs
theorem Ey {K:PySem.W.Frag} {ok:Ok} {pl:Bool} {d:D} (h:scR v d):RA K ok pl H v d:=by
 rcases h with ⟨rfl,rfl⟩ | ⟨b,rfl,rfl⟩ | ⟨i,rfl,rfl⟩ | ⟨x,rfl,rfl⟩
 ·exact .non
 ·exact .bl b
 ·exact .int i
 ·exact .str x
theorem w6 {d:D} (h:scR v d):flat d=true:=by
 rcases h with ⟨rfl,rfl⟩ | ⟨b,rfl,rfl⟩ | ⟨i,rfl,rfl⟩ | ⟨x,rfl,rfl⟩ <;> rfl
theorem uF (I:Inv X pins σ H s) (h:ExO H a C f v):∃ oa od dx u,oa.cls = .ref C∧oa.dict=some dx∧PySem.W.notCls oa=true∧PySem.W.InstAt s.heap a oa C (some od)∧s.heap.get? dx=some od∧(∃ m,s.heap.Ns1 dx m∧m f=some u)∧RelV v u:=by
 obtain ⟨dx,vs,sl,od,h1,h2⟩:=h
 obtain ⟨g1,_⟩:=(show dF X.prog X.w H s.heap a (.frz ⟨.ref C,some dx,.fields vs,sl⟩ (.ext fun _=>True)) from I.hok a _ h1)
 obtain ⟨g2,m,g3,g4⟩:=(show dF X.prog X.w H s.heap dx (.frz od (.xd [(f,v)])) from I.hok dx _ h2)
 have q:=g4 f
 simp only [bV,beq_self_eq_true] at q
 cases hm:m f with
 | none=>rw [hm] at q;exact q.elim
 | some u =>
  rw [hm] at q
  exact ⟨_,od,dx,u,rfl,rfl,rfl,⟨g1,rfl,rfl,g2⟩,g2,⟨m,g3,hm⟩,q⟩
end
theorem RA.excE {K:PySem.W.Frag} {ok:Ok} {pl:Bool} {H:Hp} {v:V} {i:Int} {f:Str} {d:D} (h:RA K ok pl H v (.dict [(.none,.tuple [.int i,.str f,d])])):∃ a C w,v = .ref a∧i=((C:Nat):Int)∧ExO H a C f w∧scR w d:=by
 cases h with
 | dic e g k=>have:=g.isX;cases this
 | dik e g k=>have:=g.isX;cases this
 | exc q g=>exact ⟨_,_,_,rfl,rfl,q,g⟩
def xg (K:PySem.W.Frag) (Cs:List Nat):Prop:=∀ C ∈ Cs,KitE K C
def Ez (K:PySem.W.Frag) (Cs:List Nat) (D:Addr):Prop:=∀ C ∈ Cs,PySem.W.kitOne K (.ref C) (.ref D)=some (decide (C=D))
def KUp (K:PySem.W.Frag) (Cs:List Nat) (u:Value):Prop:=∀ C ∈ Cs,PySem.W.kitOne K (.ref C) u=some true
def KAt (K:PySem.W.Frag) (Cs:List Nat) (f:Str):Prop:=∀ C ∈ Cs,AttE K C f
section
variable {X:Cx} {fl:List Fl} {k:Nat} {cn f ic:Str} {C I0 D:Addr} {e:Expr} {fa:FE} {p p2 pos:Pos} {Cs:List Nat}
theorem cU (Ex:Exc X.K X.mg cn f C I0) (hr:Room (k + 2) X.A) (h:DE X fl .P e fa) (hg:Gl X cn:=by rfl) (hdb:(cn == ("__debug__" : Str))=false:=by decide)
 (he:starEach [e] X.env=(false,eval e X.env) :: starEach [] X.env:=by exact dB rfl) (hpl:(backTo pos (starEach [] X.env)).any (·.1)=false:=by exact jK rfl) :
 DE X fl .FC (.Call (.Name cn p) [e] [] pos) (gB C f fa):=by
 intro pins s σ H Q I h0
 obtain ⟨G,ow,δ,x,R,hf,q⟩:=h0
 obtain ⟨d,e1,e2⟩:=bind1 hf
 by_cases hs:scB d=true
 case neg=>rw [if_neg hs] at e2;cases e2
 rw [if_pos hs] at e2
 cases e2
 refine wpAny_mono (kI (R:=fun v H1=>Same H H1∧RA X.K ok1 true H1 v d) Ex hr hg hdb h I ⟨G,ow,δ,d,R,e1,fun v H1 s1 r1=>⟨s1,r1⟩⟩ he hpl) (fun r s' z=>?_) fun _ _ z=>z
 obtain ⟨v,H1,a,dx,u,rfl,⟨s1,r1⟩,rv,J',F,La,Ld⟩:=z
 obtain ⟨H2,s2,eo,I2⟩:=wZ J' F La Ld rv
 exact ⟨.ref a,H2,I2,rfl,q _ H2 (s1.trans s2) (.inl ⟨rfl,.exc eo (zA r1 hs)⟩)⟩
theorem qb (Ex:Exc X.K X.mg cn f C I0) (At:AttE X.K C f) (hr:Room (k + 2) X.A) (h:DE X fl .P e fa) (hg:Gl X cn:=by rfl) (hdb:(cn == ("__debug__" : Str))=false:=by decide)
 (he:starEach [e] X.env=(false,eval e X.env) :: starEach [] X.env:=by exact dB rfl) (hpl:(backTo pos (starEach [] X.env)).any (·.1)=false:=by exact jK rfl)
 (hb:attributeBase (.Call (.Name cn p) [e] [] pos) f X.env (eval (.Call (.Name cn p) [e] [] pos) X.env)=eval (.Call (.Name cn p) [e] [] pos) X.env:=by rfl) :
 DE X fl .P (.Attribute (.Call (.Name cn p) [e] [] pos) f p2) fa:=by
 intro pins s σ H Q I h0
 obtain ⟨G,ow,δ,d,R,e1,q⟩:=h0
 refine pQ hb (wpAny_mono (kI (R:=fun v H1=>Same H H1∧RA X.K ok1 true H1 v d) Ex hr hg hdb h I ⟨G,ow,δ,d,R,e1,fun v H1 s1 r1=>⟨s1,r1⟩⟩ he hpl) (fun r s' z=>?_) fun _ _ z=>z)
 obtain ⟨v,H1,a,dx,u,rfl,⟨s1,r1⟩,rv,J',F,La,Ld⟩:=z
 obtain ⟨vs,sl,w1,_⟩:=F.obj
 obtain ⟨od,w2,w3⟩:=jD F.dic
 refine nY (ox:=⟨.ref C,some dx,.fields vs,sl⟩) (od:=some od) At.ea J'.kIn ⟨w1,rfl,rfl,w2⟩ (PySem.W.findObj_own At.hd At.no rfl (by rw [w3,if_pos rfl])) (lF rv) ⟨v,H1,J'.tok _,rv,q v H1 s1 r1⟩
theorem kJ {r:V} {u:Value} {b:Bool} {a:Addr} {w:V} {g:Str} (ru:(∃ D,r = .ref D∧u = .ref D)∨∃ c,r = .ty c∧u = .type c):lE X (.builtin "isinstance") (fun xs H Q=>xs=[.ref a,r]∧ExO H a C g w∧KitE X.K C∧PySem.W.kitOne X.K (.ref C) u=some b∧Q (.bl b) H):=by
 intro pins s σ H xs us Q I rr h
 obtain ⟨rfl,eo,N,e,q⟩:=h
 obtain ⟨u1,u2,rfl,r1,r2⟩:∃ u1 u2,us=[u1,u2]∧RelV (.ref a) u1∧RelV r u2:=by
  cases rr with
  | cons r1 r=>cases r with
   | cons r2 r=>cases r;exact ⟨_,_,rfl,r1,r2⟩
 cases r1
 obtain ⟨oa,od,dx,_,h1,h2,h3,h4,_⟩:=uF I eo
 rcases ru with ⟨D,rfl,rfl⟩ | ⟨c,rfl,rfl⟩
 ·cases r2
  exact PySem.W.kia_one (nZ (ox:=oa) (od:=od) N.ea N.hd N.fd N.sp N.tk N.mr) I.kIn h4 e (fun z=>nomatch z) fun tk=>⟨.bl b,H,I.tok _,rfl,q⟩
 ·cases r2
  exact PySem.W.kia_one (nZ (ox:=oa) (od:=od) N.ea N.hd N.fd N.sp N.tk N.mr) I.kIn h4 e (fun z=>nomatch z) fun tk=>⟨.bl b,H,I.tok _,rfl,q⟩
theorem cV (N:xg X.K Cs) (hk:Ez X.K Cs D) (h:DE X fl .P e fa) (hic:X.mg ic=some (.ref D)) (hmi:X.mg "isinstance" = none) (hgi:Gl X "isinstance" := by rfl) (hg:Gl X ic:=by rfl) (hdb:(ic == ("__debug__" : Str))=false:=by decide)
 (he:starEach [e,.Name ic p2] X.env=(false,eval e X.env) :: starEach [.Name ic p2] X.env:=by exact dB rfl) (hpl:(backTo pos (starEach [.Name ic p2] X.env)).any (·.1)=false:=by exact jK rfl) :
 DE X fl .FC (.Call (.Name "isinstance" p) [e,.Name ic p2] [] pos) (dUn (gn Cs D) fa):=by
 intro pins s σ H Q I h0
 obtain ⟨G,ow,δ,x,R,hf,q⟩:=h0
 obtain ⟨d,e1,e2⟩:=bind1 hf
 unfold gn at e2
 split at e2
 ·next i g d' =>
  split at e2
  ·next hm =>
   cases e2
   refine wpAny_Call_Name_kw (jC I hgi hmi boot_isinstance ?_ (by decide) (by decide))
   refine PyProof.Rows.callWith_builtin1 (thn (eO h (eO (pN (v:=.ref D) hg hic rfl hdb) jm (by exact dB rfl)) he pos pins s σ H (fun vs H1=>∃ v,vs=[v,.ref D]∧Same H H1∧RA X.K ok1 true H1 v (.dict [(.none,.tuple [.int i,.str g,d'])])) I ⟨G,ow,δ,_,R,e1,fun v H1 s1 r1=>⟨v,rfl,s1,r1⟩⟩) fun us s1 ⟨vs,H1,I1,r1,v,ev,sm,rd⟩=>?_) he hpl
   subst ev
   obtain ⟨a,C,w,rfl,rfl,eo,_⟩:=RA.excE rd
   rw [eH] at hm q
   exact kJ (b:=decide (C=D)) (.inl ⟨D,rfl,rfl⟩) pins s1 σ H1 _ _ Q I1 r1 ⟨rfl,eo,N C hm,hk C hm,q _ H1 sm (.inl ⟨rfl,.bl _⟩)⟩
  ·cases e2
 ·cases e2
theorem Bk (N:xg X.K Cs) (hk:KUp X.K Cs (.ref D)) (h:DE X fl .P e fa) (hic:X.mg ic=some (.ref D)) (hmi:X.mg "isinstance" = none) (hgi:Gl X "isinstance" := by rfl) (hg:Gl X ic:=by rfl) (hdb:(ic == ("__debug__" : Str))=false:=by decide)
 (he:starEach [e,.Name ic p2] X.env=(false,eval e X.env) :: starEach [.Name ic p2] X.env:=by exact dB rfl) (hpl:(backTo pos (starEach [.Name ic p2] X.env)).any (·.1)=false:=by exact jK rfl) :
 DE X fl .FC (.Call (.Name "isinstance" p) [e,.Name ic p2] [] pos) (dUn (pH Cs) fa):=by
 intro pins s σ H Q I h0
 obtain ⟨G,ow,δ,x,R,hf,q⟩:=h0
 obtain ⟨d,e1,e2⟩:=bind1 hf
 unfold pH at e2
 split at e2
 ·next i g d' =>
  split at e2
  ·next hm =>
   cases e2
   refine wpAny_Call_Name_kw (jC I hgi hmi boot_isinstance ?_ (by decide) (by decide))
   refine PyProof.Rows.callWith_builtin1 (thn (eO h (eO (pN (v:=.ref D) hg hic rfl hdb) jm (by exact dB rfl)) he pos pins s σ H (fun vs H1=>∃ v,vs=[v,.ref D]∧Same H H1∧RA X.K ok1 true H1 v (.dict [(.none,.tuple [.int i,.str g,d'])])) I ⟨G,ow,δ,_,R,e1,fun v H1 s1 r1=>⟨v,rfl,s1,r1⟩⟩) fun us s1 ⟨vs,H1,I1,r1,v,ev,sm,rd⟩=>?_) he hpl
   subst ev
   obtain ⟨a,C,w,rfl,rfl,eo,_⟩:=RA.excE rd
   rw [eH] at hm
   exact kJ (b:=true) (.inl ⟨D,rfl,rfl⟩) pins s1 σ H1 _ _ Q I1 r1 ⟨rfl,eo,N C hm,hk C hm,q _ H1 sm (.inl ⟨rfl,.bl _⟩)⟩
  ·cases e2
 ·cases e2
theorem Bm (N:xg X.K Cs) (hk:KUp X.K Cs (.type "ValueError")) (h:DE X fl .P e fa) (hmv:X.mg "ValueError" = none) (hmi:X.mg "isinstance" = none) (hgi:Gl X "isinstance" := by rfl) (hg:Gl X "ValueError" := by rfl)
 (he:starEach [e,.Name "ValueError" p2] X.env=(false,eval e X.env) :: starEach [.Name "ValueError" p2] X.env:=by exact dB rfl) (hpl:(backTo pos (starEach [.Name "ValueError" p2] X.env)).any (·.1)=false:=by exact jK rfl) :
 DE X fl .FC (.Call (.Name "isinstance" p) [e,.Name "ValueError" p2] [] pos) (dUn (pH Cs) fa):=by
 intro pins s σ H Q I h0
 obtain ⟨G,ow,δ,x,R,hf,q⟩:=h0
 obtain ⟨d,e1,e2⟩:=bind1 hf
 unfold pH at e2
 split at e2
 ·next i g d' =>
  split at e2
  ·next hm =>
   cases e2
   refine wpAny_Call_Name_kw (jC I hgi hmi boot_isinstance ?_ (by decide) (by decide))
   refine PyProof.Rows.callWith_builtin1 (thn (eO h (eO (pO (v:=.ty "ValueError") hg hmv (by decide +kernel) rfl (by decide) (by decide)) jm (by exact dB rfl)) he pos pins s σ H (fun vs H1=>∃ v,vs=[v,.ty "ValueError"]∧Same H H1∧RA X.K ok1 true H1 v (.dict [(.none,.tuple [.int i,.str g,d'])])) I ⟨G,ow,δ,_,R,e1,fun v H1 s1 r1=>⟨v,rfl,s1,r1⟩⟩) fun us s1 ⟨vs,H1,I1,r1,v,ev,sm,rd⟩=>?_) he hpl
   subst ev
   obtain ⟨a,C,w,rfl,rfl,eo,_⟩:=RA.excE rd
   rw [eH] at hm
   exact kJ (b:=true) (.inr ⟨"ValueError", rfl,rfl⟩) pins s1 σ H1 _ _ Q I1 r1 ⟨rfl,eo,N C hm,hk C hm,q _ H1 sm (.inl ⟨rfl,.bl _⟩)⟩
  ·cases e2
 ·cases e2
theorem cF (N:KAt X.K Cs f) (h:DE X fl .P e fa) (hb:attributeBase e f X.env (eval e X.env)=eval e X.env:=by rfl):DE X fl .FC (.Attribute e f pos) (dUn (fL Cs f) fa):=by
 intro pins s σ H Q I h0
 obtain ⟨G,ow,δ,x,R,hf,q⟩:=h0
 obtain ⟨d,e1,e2⟩:=bind1 hf
 unfold fL at e2
 split at e2
 ·next i g d' =>
  split at e2
  ·next hm =>
   cases e2
   refine pQ hb (thn (h pins s σ H (fun v H1=>Same H H1∧RA X.K ok1 true H1 v (.dict [(.none,.tuple [.int i,.str g,x])])) I ⟨G,ow,δ,_,R,e1,fun v H1 s1 r1=>⟨s1,r1⟩⟩) fun uu s1 ⟨v,H1,I1,rx,sm,rd⟩=>?_)
   obtain ⟨a,C,w,rfl,rfl,eo,sc⟩:=RA.excE rd
   cases rx
   rw [eH] at hm
   obtain ⟨hm,rfl⟩:=hm
   have At:=N C hm
   obtain ⟨oa,od,dx,u,h1,h2,h3,h4,h5,⟨m,g3,g4⟩,rv⟩:=uF I1 eo
   obtain ⟨od',w2,w3⟩:=jD g3
   rw [h5] at w2
   cases w2
   exact nY (ox:=oa) (od:=some od) At.ea I1.kIn h4 (PySem.W.findObj_own At.hd At.no rfl (by rw [w3,g4])) (lF rv) ⟨w,H1,I1.tok _,rv,q _ H1 sm (.inl ⟨w6 sc,Ey sc⟩)⟩
  ·cases e2
 ·cases e2
end
section
variable {X:Cx} {fl:List Fl} {pins:List (Addr × Obj)} {σ:L2.St} {H:Hp} {s:Shared} {k i j:Nat} {a dx T:Addr} {cn f ic n x en:Str} {C I0:Addr} {u:Value} {v:V} {e c:Expr} {fa:FE} {ft:FT} {p p2 pos rpos np hpos tpos xp ep apos:Pos} {cl:Str→Option (Nat × Str)} {body rest:List Stmt} {f1 f2 fx:FX}
def XQ (X:Cx) (pins:List (Addr × Obj)) (σ:L2.St) (H:Hp) (C:Addr) (f:Str) (d:D):Value→Shared→Prop:=fun e s'=>∃ a dx u v H1,e = .ref a∧Inv X pins σ H1 s'∧Same H H1∧Fly s'.heap a C dx f u none∧Loose X pins H1 a∧Loose X pins H1 dx∧RelV v u∧RA X.K ok1 true H1 v d
def DXR (X:Cx) (fl:List Fl) (cl:Str→Option (Nat × Str)) (sts:List Stmt) (f:FX):Prop:=∀ pins s σ H G ow δ c d C g,Inv X pins σ H s→Rel X.K fl G ow σ H δ→f δ=some (.ex c d)→cl c=some (C,g)→wpAny (model X.prog X.w) X.A (execs sts X.env) (fun _ _=>False) (XQ X pins σ H C g d) s
theorem jc (Ex:Exc X.K X.mg cn f C I0) (hcl:cl cn=some (C,f)) (hr:Room (k + 2) X.A) (h:DE X fl .P e fa) (hx:X=X.nox:=by rfl) (hg:Gl X cn:=by rfl) (hdb:(cn == ("__debug__" : Str))=false:=by decide)
 (he:starEach [e] X.env=(false,eval e X.env) :: starEach [] X.env:=by exact dB rfl) (hpl:(backTo pos (starEach [] X.env)).any (·.1)=false:=by exact jK rfl) :
 DXR X fl cl [.Raise (some (.Call (.Name cn p) [e] [] pos)) none rpos] (cR cn fa):=by
 intro pins s σ H G ow δ c d C' g I R hf hc
 obtain ⟨d',e1,e2⟩:=bind1 hf
 cases e2
 rw [hcl] at hc
 cases hc
 have Ex0:=Ex
 obtain ⟨mgC,kp,hB,N,fI,mN,mI,TK,i1,i2,s1,s2,n1,n2,_⟩:=Ex
 have hxe:∀ e s,X.xe e s→False:=fun e s z=>by rw [hx] at z;exact z
 refine wpAny_execs_cons ?_
 rw [arm_exec_Raise]
 simp only [evalOpt,Option.map]
 refine wpAny_bind (wpAny_standAt (pD (C:=C) (N:=N) (I:=I0) (bmB:=bmV) (mN:=mN) (mI:=mI) (B := "ValueError") (newId := "ValueError.__new__") hr.hd (by decide) ?_))
 refine wpAny_bind (wpAny_mono (kI (R:=fun v H1=>Same H H1∧RA X.K ok1 true H1 v d) Ex0 hr hg hdb h I ⟨G,ow,δ,d,R,e1,fun v H1 s1 r1=>⟨s1,r1⟩⟩ he hpl) (fun r s' q=>?_) fun _ _ z=>(hxe _ _ z).elim)
 obtain ⟨v,H1,a,dx,u,rfl,⟨sm,rd⟩,rv,J',F,La,Ld⟩:=q
 refine wpAny_bind (wpAny_standAt (wpAny_pure ?_))
 obtain ⟨vs,sl,w1,w2⟩:=F.obj
 exact ⟨a,_,rfl,TK _ J'.kIn,w1,rfl,⟨vs,rfl,w2⟩,a,dx,u,v,H1,rfl,J',sm,F,La,Ld,rv,rd⟩
theorem pI (hc:DT X fl c ft) (h1:DXR X fl cl body f1) (h2:DXR X fl cl rest f2) (hx:X=X.nox:=by rfl):DXR X fl cl (.If c body [] pos :: rest) (xIf ft f1 f2):=by
 intro pins s σ H G ow δ cc d C g I R hf hcl
 obtain ⟨t,e1,e2⟩:=bind1 hf
 have hc':DT X.nox fl c ft:=by rw [← hx];exact hc
 refine wpAny_execs_cons (wpAny_If (wpAny_mono (hc' pins s σ H (fun b H1=>b=t∧Same H H1) (I.wish _) ⟨G,ow,δ,t,R,e1,fun H' s=>⟨rfl,s⟩⟩) (fun b s1 z=>?_) fun _ _ z=>z.elim))
 obtain ⟨H1,J1,rfl,sm⟩:=z
 have J1:Inv X pins σ H1 s1:=J1.wish _
 have up:∀ e s',XQ X pins σ H1 C g d e s'→XQ X pins σ H C g d e s':=fun e s' ⟨a,dx,u,v,H2,h1,h2,h3,h4⟩=>⟨a,dx,u,v,H2,h1,h2,sm.trans h3,h4⟩
 cases b with
 | true =>
  rw [if_pos rfl] at e2
  exact wpAny_mono (h1 pins s1 σ H1 G ow δ cc d C g J1 (R.grow sm) e2 hcl) (fun _ _ z=>z.elim) up
 | false =>
  rw [if_neg (by decide)] at e2
  refine wpAny_execs_nil ?_
  exact wpAny_mono (h2 pins s1 σ H1 G ow δ cc d C g J1 (R.grow sm) e2 hcl) (fun _ _ z=>z.elim) up
theorem EY {Dn:Ends} (I:Inv X pins σ H s) (F:Fly s.heap a C dx f u (some T)) (La:Loose X pins H a) (Ld:Loose X pins H dx) (LT:Loose X pins H T) (Ex:Exc X.K X.mg cn f C I0) (hic:X.mg ic=some (.ref I0)) (hg:Gl X ic) (hdb:(ic == ("__debug__" : Str))=false)
 (hi:X.N[i]? = some n) (hj:X.N[j]? = some x) (hN:X.N.Nodup) (hl:X.env.scope.names.lookup n=some .local) (hlx:X.env.scope.names.lookup x=some .local) (rv:RelV v u) (hdn:(n == ("__debug__" : Str))=false) (hcn:(n == ("__classdict__" : Str))=false)
 (hs:swapsWith (.Name n ep) (some (.Name x xp)) apos.line X.env=pure false)
 (hq:∀ H',Same H H'→ExO H' a C f v→Dn.nx (((σ.set i (some (.ref a))).set j (some (.ref a))).set i none) H') :
 wpAny (model X.prog X.w) X.A (handleBy (.ref a) X.env [.ExceptHandler (some (.Name ic np)) (some n) [.Assign [.Name x xp] (.Name n ep) apos] hpos]) (SP X pins Dn) X.xe s:=by
 obtain ⟨oa,od,ea,ed,IS⟩:=rO I F La Ld
 obtain ⟨mgC,kp,hB,N,fI,mN,mI,TK,_⟩:=Ex
 have TT:=TK _ I.kIn
 obtain ⟨vs,sl,e1,_⟩:=F.obj
 have Fd:=F.dic
 obtain ⟨od',es1,ep1,w2,w3⟩:=Fd
 rw [ed] at w2
 cases w2
 rw [e1] at ea
 cases ea
 refine wpAny_handleBy_cons (codeAny_handlers_test (jR (X:=dU X a ⟨.ref C,some dx,.fields vs,sl⟩ dx od) IS hg hic ?_ hdb)) (by intro q;cases q)
 have go:∀ {E':Value→Shared→Prop} {Q':Bool→Shared→Prop},Q' true s→wpAny (model X.prog X.w) (X.A.mark (some (.ref a))) (excMatches (.ref a) (.ref I0)) Q' E' s:=fun {E' Q'} q=>by
  obtain ⟨hp,g,d,tk,os⟩:=s
  exact TT.match_up e1 rfl (by decide) q
 refine go ?_
 refine codeAny_handlers_suite_as ?_
 have LT':∀ p ∈ (dU X a ⟨.ref C,some dx,.fields vs,sl⟩ dx od).pn++pins,p.1 ≠ T:=fun p hp=>by
  obtain ⟨Ta,Td,_⟩:=F.hd T rfl
  have hp:p ∈ (X.pn++[(a,(⟨.ref C,some dx,.fields vs,sl⟩:Obj)),(dx,od)])++pins:=hp
  rcases bY.mp hp with hp | hp
  ·rcases bY.mp hp with hp | hp
   ·exact LT.pin p (bB _ hp)
   ·rcases bf.mp hp with rfl | hp
    ·exact Ne.symm Ta
    ·rw [bN.mp hp];exact Ne.symm Td
  ·exact LT.pin p (aK _ hp)
 refine pF IS F LT.out LT.loc LT.new LT.cel LT' fun s1 I1 _=>?_
 refine jW (X:=dU X a ⟨.ref C,some dx,.fields vs,sl⟩ dx od) (i:=i) (v:=V.ref a) I1 hN hi (.inl hl) rfl (fun s2 I2=>?_) (.inr hl)
 have li:i < σ.length:=by rw [I.len];exact (cM.mp hi).1
 have ps:PSs (dU X a ⟨.ref C,some dx,.fields vs,sl⟩ dx od) [.Assign [.Name x xp] (.Name n ep) apos] (fun D σ H=>σ[i]? = some (some (.ref a))∧D.nx (σ.set j (some (.ref a))) H) :=
  PSs.imp (pP (sS (X:=dU X a ⟨.ref C,some dx,.fields vs,sl⟩ dx od) (i:=j) hN hj (.inl hlx) (sI (X:=dU X a ⟨.ref C,some dx,.fields vs,sl⟩ dx od) hi (.inl hl) hdn hcn) hs (.inr hlx))) fun D σ H h=>⟨_,h.1,h.2⟩
 refine wpAny_mono (ps pins s2 _ H { nx:=fun σ' H'=>σ'=(σ.set i (some (.ref a))).set j (some (.ref a))∧H'=H,rt:=fun _ _=>False,bk:=fun _ _=>False,ct:=fun _ _=>False } I2 ⟨bW li,rfl,rfl⟩) (fun fl s3 q=>?_) fun _ _ z=>z.elim
 cases fl with
 | next =>
  obtain ⟨σ',H',I3,rfl,rfl⟩:=q
  have ha:=(I3.pin (a,_) (bB _ (aK _ aB))).1
  have hd:=(I3.pin (dx,od) (bB _ (aK _ (aA _ aB)))).1
  obtain ⟨H2,sm,eo,I4⟩:=n6 (j7 I.ok I3) ha ⟨od,es1,ep1,hd,w3⟩ F.ne La Ld rv
  exact pG I4 hi hN hl fun s4 I5=>⟨_,H2,I5,hq H2 sm eo⟩
 | ret v=>obtain ⟨_,_,_,_,_,z⟩:=q;exact z.elim
 | brk=>obtain ⟨_,_,_,z⟩:=q;exact z.elim
 | cont=>obtain ⟨_,_,_,z⟩:=q;exact z.elim
theorem xq (h:DXR X fl cl body fx) (hcl:∀ c C g,cl c=some (C,g)→∃ I0,Exc X.K X.mg c g C I0∧X.mg ic=some (.ref I0)) (hfi:fl[i]? = some .A) (hfj:fl[j]? = some .A)
 (hi:X.N[i]? = some en) (hj:X.N[j]? = some x) (hN:X.N.Nodup) (hl:X.env.scope.names.lookup en=some .local) (hlx:X.env.scope.names.lookup x=some .local) (hst:X.stack=X.env :: X.outer:=by rfl) (hfr:X.env.frame=some X.env.locals:=by rfl)
 (hgi:Gl X ic:=by rfl) (hdi:(ic == ("__debug__" : Str))=false:=by decide) (hdn:(en == ("__debug__" : Str))=false:=by decide) (hcn:(en == ("__classdict__" : Str))=false:=by decide)
 (hs:swapsWith (.Name en ep) (some (.Name x xp)) apos.line X.env=pure false:=by rfl) :
 DS1 X fl (.Try body [.ExceptHandler (some (.Name ic np)) (some en) [.Assign [.Name x xp] (.Name en ep) apos] hpos] [] [] tpos) (lY i j fx cl):=by
 intro pins s σ H Dn J h0
 obtain ⟨G,ow,δ,o,R,hf,q⟩:=h0
 obtain ⟨o1,e1,e2⟩:=bind1 hf
 split at e2
 ·next c d =>
  obtain ⟨⟨C,g⟩,e3,e4⟩:=bind1 e2
  by_cases hs':scB d=true∧j < δ.length
  case neg=>rw [if_neg hs'] at e4;cases e4
  rw [if_pos hs'] at e4
  cases e4
  obtain ⟨I0,Ex,hic⟩:=hcl c C g e3
  refine wpAny_Try_except (wpAny_mono (h pins s σ H G ow δ c d C g J R e1 e3) (fun _ _ z=>z.elim) (fun e s' z=>?_))
  obtain ⟨a,dx,u,v,H1,rfl,I',sm,F,La,Ld,rv,rd⟩:=z
  refine uD rfl I' hst hfr F La Ld (fun T z=>by cases z) fun s2 T2 I2 F2 o1 o2 LT2=>?_
  refine EY I2 F2 La Ld LT2 Ex hic hgi hdi hi hj hN hl hlx rv hdn hcn hs fun H' s' eo=>?_
  refine q ow _ H' (Rel.forget (((Rel.forget (R.grow (sm.trans s')) hfi).setA hfj ?_ (.exc eo (zA rd hs'.1)))) hfi)
  rw [cG]
  exact mU R hs'.2
 ·cases e2
end
structure ExK (K:PySem.W.Frag) (mg:Str→Option Value) (cn f:Str) (C I:Addr):Prop where
 ex:Exc K mg cn f C I
 kit:KitE K C
 att:AttE K C f
structure KxP (K:PySem.W.Frag) (mg:Str→Option Value) (Cs:List Nat) (I:Addr):Prop where
 kit:xg K Cs
 one:∀ C ∈ Cs,∀ D ∈ Cs,PySem.W.kitOne K (.ref C) (.ref D)=some (decide (C=D))
 up:KUp K Cs (.ref I)
 vu:KUp K Cs (.type "ValueError")
 inn:mg "InnError" = some (.ref I)
theorem KxP.k1 {K:PySem.W.Frag} {mg:Str→Option Value} {Cs:List Nat} {I D:Addr} (h:KxP K mg Cs I) (hd:D ∈ Cs):Ez K Cs D:=fun C hc=>h.one C hc D hd
theorem Bo {K:PySem.W.Frag} {Cs:List Nat} (h:(Cs.all fun C=>Cs.all fun D=>decide (PySem.W.kitOne K (.ref C) (.ref D)=some (decide (C=D))))=true):∀ C ∈ Cs,∀ D ∈ Cs,PySem.W.kitOne K (.ref C) (.ref D)=some (decide (C=D)):=fun C hC D hD =>
 of_decide_eq_true (cj.mp (cj.mp h C hC) D hD)
theorem zB {K:PySem.W.Frag} {Cs:List Nat} {u:Value} (h:(Cs.all fun C=>decide (PySem.W.kitOne K (.ref C) u=some true))=true):KUp K Cs u:=fun C hC=>of_decide_eq_true (cj.mp h C hC)
theorem uG {c:Str} {v:Nat × Str}:∀ {l:List (Str × Nat × Str)},bV c l=some v→(c,v) ∈ l
 | [],h=>by cases h
 | (k,w) :: r,h=>by
  rw [bV] at h
  split at h
  ·next z =>
   cases h
   rw [beq_iff_eq.mp z]
   exact aB
  ·exact aA _ (uG h)
theorem Bp {K:PySem.W.Frag} {mg:Str→Option Value} {ic:Str} {l:List (Str × Nat × Str)} (h:∀ q ∈ l,∃ I0,Exc K mg q.1 q.2.2 q.2.1 I0∧mg ic=some (.ref I0)):∀ c C g,bV c l=some (C,g)→∃ I0,Exc K mg c g C I0∧mg ic=some (.ref I0):=fun c C g hl=>h _ (uG hl)
end XC
namespace D3
open PySem
def rR:D→D→Option D:=fun x y=>match x,y with
 | .str z,.int i=>if z.length ≤ 1000000 then (L2.atI z.cps.toList i).map fun c=>.str ⟨#[c]⟩ else none
 | _,_=>none
def jL:List D→Option (List Str)
 | []=>some []
 | .str x :: r=>(jL r).map (x :: ·)
 | _=>none
def qd:D→D→Option D:=fun x y=>match x,y with
 | .str z,.list l=>(jL l).bind fun ts=>if l.length ≤ 1000000∧(ts.all fun t=>decide (t.length + z.length ≤ 16))=true∧z.length ≤ 16 then some (.str (Txt.join z ts)) else none
 | _,_=>none
def uH:D→D→Option D:=fun x y=>match x,y with
 | .dict [],.dict []=>some (.bool false)
 | x,y=>gNe x y
theorem strs_map (ts:List Str):jL (ts.map PyData.str)=some ts:=by
 induction ts with
 | nil=>rfl
 | cons t r ih=>rw [cP,jL,ih];rfl
end D3
namespace XC
open PySem PySem.Spec PyProof.Rows L2 My D3
section
variable {X:Cx} {fl:List Fl} {a b e:Expr} {fa fb fe f:FE} {pos apos cpos:Pos}
theorem Bq (ha:DE X fl .P a fa) (hb:DE X fl .P b fb) (hs:jT b):DE X fl .FC (.Subscript a b pos) (dOp rR fa fb):=PE.imp (yV sX ha hb hs) fun σ H Q h=>by
 obtain ⟨G,ow,δ,d,R,hf,q⟩:=h
 obtain ⟨x,y,e1,e2,e3⟩:=nH hf
 refine ⟨G,ow,δ,x,R,e1,fun v H1 s1 r1=>⟨G,ow,δ,y,R.grow s1,e2,fun u H2 s2 r2=>?_⟩⟩
 unfold rR at e3
 split at e3
 ·next z i =>
  split at e3
  ·next hz =>
   obtain rfl:=RA.intE r2
   obtain rfl:=RA.strE r1
   cases hc:atI z.cps.toList i with
   | none=>rw [hc] at e3;cases e3
   | some c =>
    rw [hc] at e3
    cases e3
    exact ⟨z,i,c,rfl,rfl,aV hz (by decide),hc,q _ H2 (s1.trans s2) (.inl ⟨rfl,.str _⟩)⟩
  ·cases e3
 ·cases e3
theorem qe {K:PySem.W.Frag} {ok:Ok} {pl:Bool} {H:Hp}:∀ {l:List D} {xs:List V} {ts:List Str},jL l=some ts→RAs K ok pl H xs l→xs=ts.map V.str∧l=ts.map PyData.str
 | [],_,_,h,r=>by cases h;cases r;exact ⟨rfl,rfl⟩
 | d :: l,_,_,h,r=>by
  cases r with
  | cons r1 r2 =>
   cases d with
   | str x =>
    rw [jL] at h
    cases e:jL l with
    | none=>rw [e] at h;cases h
    | some ts =>
     rw [e] at h
     cases h
     obtain ⟨z1,z2⟩:=qe e r2
     rw [z1,z2,RA.strE r1]
     exact ⟨rfl,rfl⟩
   | _=>cases h
theorem n8:∀ {ts:List Str} {us:List Value},Vals (ts.map V.str) us→CarriedAll us (ts.map PyData.str)
 | [],_,.nil=>.nil
 | t :: r,_,.cons h q=>by
  obtain ⟨k,rfl⟩:=(show ∃ k,_=Value.str t k from h)
  exact .cons (.str t k) (n8 q)
theorem xr:MtR X "str.join" (fun x xs H Q=>∃ (z:Str) (p:Addr) (ts:List Str),x = .str z∧xs=[.ref p]∧SqL X.K H p (ts.map V.str)∧ts.length ≤ 1000000∧(∀ t ∈ ts,t.length + z.length ≤ 16)∧z.length ≤ 16∧Q (.str (Txt.join z ts)) H):=by
 intro pins s σ H x xs v us Q I rx rv h
 obtain ⟨z,p,ts,rfl,rfl,hx,hn,hl,hz,q⟩:=h
 obtain ⟨t0,rfl⟩:=(show ∃ k,v=Value.str z k from rx)
 obtain ⟨u,rfl,ru⟩:=vals1 rv
 cases ru
 obtain ⟨its,rvs,pl,_⟩:=I.list hx
 have ca:=n8 rvs
 refine PySem.W.KT.join_B (l:=ts) (g:=fun t=>t) (16 - z.length) (ys:=its) pl.isList ca (fun t ht=>by have:=hl t ht;omega) (by omega) (by omega) fun t' k=>?_
 rw [List.map_id']
 exact ⟨.str (Txt.join z ts),H,I.tok _,⟨t',rfl⟩,q⟩
theorem xu (h:DE X fl .P a f) (h2:DE X fl .P e fe)
 (hbase:attributeBase a "join" X.env (eval a X.env)=eval a X.env:=by rfl)
 (hfew:((backTo cpos (starEach [e] X.env)).all (fun x=>!x.1) && (backToKw cpos (keywordEach [] X.env)).all (fun x=>x.1.isSome)
  && decide (([e]:List Expr).length + ([]:List Keyword).length + (if ([]:List Keyword).isEmpty then 0 else 1) < 30))=true:=by rfl)
 (hline:(apos.endLine == cpos.line)=true:=by rfl) (hst:starEach [e] X.env=(false,eval e X.env) :: starEach [] X.env:=by exact dB rfl) (hplain:(backTo cpos (starEach [] X.env)).any (·.1)=false:=by rfl) :
 DE X fl .FC (.Call (.Attribute a "join" apos) [e] [] cpos) (dOp qd f fe) :=
 PE.imp (DR PySem.F.plainAttrs_str PySem.F.slot_str_join PySem.F.type_str_join xr h (eO h2 jm hst) hbase hfew hline hst hplain) fun σ H Q h=>by
 obtain ⟨G,ow,δ,d,R,hf,q⟩:=h
 obtain ⟨x,y,e1,e2,e3⟩:=nH hf
 unfold qd at e3
 split at e3
 ·next z l =>
  obtain ⟨ts,e4,e5⟩:=bind1 e3
  split at e5
  ·next hc =>
   cases e5
   refine ⟨G,ow,δ,_,R,e1,fun v H1 s1 r1=>?_⟩
   obtain rfl:=RA.strE r1
   refine ⟨rfl,G,ow,δ,_,R.grow s1,e2,fun v2 H2 s2 r2=>?_⟩
   obtain ⟨p,xs,rfl,hx,hr⟩:=RA.lstE r2
   obtain ⟨rfl,rfl⟩:=qe e4 hr
   exact ⟨z,p,ts,rfl,rfl,hx,by have:=hc.1;rw [aX] at this;exact this,fun t ht=>of_decide_eq_true (cj.mp hc.2.1 t ht),hc.2.2,q _ H2 (s1.trans s2) (.inl ⟨rfl,.str _⟩)⟩
  ·cases e5
 ·cases e3
def E_ (K:PySem.W.Frag):R2:=fun x y H Q=>Am K x y H Q∨(RA K ok1 true H x (.dict [])∧RA K ok1 true H y (.dict [])∧Q (.bl false) H)
theorem uI (hu:X.A.units + 64 < cLine):OpR X (compareOp .NotEq) (E_ X.K):=by
 intro pins s σ H x y v u Q I rx ry h
 rcases h with h | ⟨r1,r2,q⟩
 ·exact Ao hu pins s σ H x y v u Q I rx ry h
 ·obtain ⟨a,rfl,ha⟩:=r1.dicE rfl
  obtain ⟨b,rfl,hb⟩:=r2.dicE rfl
  cases rx;cases ry
  obtain ⟨ma,va,ka,da⟩:=zx I (kvs:=[]) (qs:=[]) rfl ha
  obtain ⟨mb,vb,kb,db⟩:=zx I (kvs:=[]) (qs:=[]) rfl hb
  have hn:(vb.map (·.1)).Nodup:=by obtain ⟨_,_,_,_,_,_,_,_,c⟩:=db X.prog X.w;exact c
  refine PySem.W.keq_ne (knd:=eN X.prog X.w) (r:=true) ma mb (da _ _) (db _ _) (by omega) (fun _=>ux ka kb hn) ?_
  have e:va.length=vb.length:=by
   have h1:=congrArg jH (gJ ka).1
   have h2:=congrArg jH (gJ kb).1
   rw [aX,aX] at h1 h2
   exact h1.trans h2.symm
  rw [e,beq_self_eq_true,Bool.true_and]
  exact ⟨.bl false,H,I,rfl,q⟩
theorem zE {K:PySem.W.Frag}:BrO K (E_ K) uH:=by
 intro H x y dx dy d Q rx ry e q
 unfold uH at e
 split at e
 ·cases e
  exact .inr ⟨rx,ry,q _ rfl (.bl _)⟩
 ·exact .inl (Hf _ _ _ _ _ _ Q rx ry e q)
end
end XC
namespace D3
open PySem
end D3
namespace D3
open PySem
end D3
namespace D3
open PySem
end D3
namespace D3
open PySem
end D3
namespace D3
open PySem PySem.Spec PyProof.Rows L2 My
section
variable {X:Cx} {fl:List Fl} {e a b:Expr} {es:List Expr} {f fa fb:FE} {fr:FA} {k:Kd} {pos:Pos}
theorem vP (i:Nat) {x:Str} (hfl:fl[i]? = some .A:=by rfl) (hN:X.N[i]? = some x:=by rfl) (hv:Vis X.env.scope x:=by first | exact Or.inl rfl | exact Or.inr (Or.inl rfl) | exact Or.inr (Or.inr rfl)) (hd:(x == ("__debug__" : Str))=false:=by decide)
 (hcd:(x == ("__classdict__" : Str))=false:=by decide):DE X fl .P (.Name x pos) (ak i):=bJ (pU i hfl hN hv hd hcd)
theorem vB (i:Nat) {x:Str} (hfl:fl[i]? = some .A:=by rfl) (hN:X.N[i]? = some x:=by rfl) (hv:Vis X.env.scope x:=by first | exact Or.inl rfl | exact Or.inr (Or.inl rfl) | exact Or.inr (Or.inr rfl)) (hd:(x == ("__debug__" : Str))=false:=by decide)
 (hcd:(x == ("__classdict__" : Str))=false:=by decide):DE X fl (.B []) (.Name x pos) (ak i):=dI (pU i hfl hN hv hd hcd)
theorem iP {i j pos}:DE X fl .P (.Constant (.int i) j pos) (dC (.int i)):=aY tW
theorem iC {i j pos}:DE X fl .C (.Constant (.int i) j pos) (dC (.int i)):=aM tW
theorem dz:DB X fl k [] bH:=Bb
theorem dq (h:DE X fl k e f) (hr:DB X fl k es fr) (hk:isR k=true:=by rfl) (hs:starEach (e :: es) X.env=(false,eval e X.env) :: starEach es X.env:=by exact dB rfl):DB X fl k (e :: es) (ao f fr):=wL hk h hr hs
theorem dx {L:List Nat} (ha:DE X fl (.B L) a fa) (hb:DE X fl .P b fb) (hs:jT b:=by exact fun _ _=>rfl):DE X fl .A (.Subscript a b pos) (dOp gIx fa fb):=Er ha hb hs
theorem sA {i:Nat} {x:Str} {pos':Pos} (hN:X.N.Nodup) (h:DE X fl .A e f) (hfl:fl[i]? = some .A:=by rfl) (hi:X.N[i]? = some x:=by rfl) (hv:X.env.scope.names.lookup x=some .local∨X.env.scope.names.lookup x=some .cell:=by first | exact Or.inl rfl | exact Or.inr rfl)
 (hs:swapsWith e (some (.Name x pos')) pos.line X.env=pure false:=by rfl) (hfn:X.fn x=true∨X.env.scope.names.lookup x=some .local:=by first | exact .inl rfl | exact .inr rfl) :
 DS1 X fl (.Assign [.Name x pos'] e pos) (cL i f):=wJ hfl hN hi hv h hs hfn
theorem gN' {i:Nat} {x:Str} {pos:Pos} (hN:X.N.Nodup) (hfl:fl[i]? = some .A:=by rfl) (hi:X.N[i]? = some x:=by rfl) (hv:X.env.scope.names.lookup x=some .local∨X.env.scope.names.lookup x=some .cell:=by first | exact Or.inl rfl | exact Or.inr rfl)
 (hfn:X.fn x=true∨X.env.scope.names.lookup x=some .local:=by first | exact .inl rfl | exact .inr rfl):DG X fl [i] (.Name x pos) (gNl i):=wK hfl hN hi hv hfn
end
theorem fsc {N P:List Str} {sc:Scope} (a:sc.kind = .function:=by rfl) (b:sc.isCoroutine=false:=by rfl) (c:sc.isGenerator=false:=by rfl) (d:N.Nodup:=by decide +kernel) (e:N.take P.length=P:=by rfl) (f:∀ x ∈ P,sc.names.lookup x=some .local∨sc.names.lookup x=some .cell:=by decide +kernel) (g:∀ y ∈ sc.names,y.2 ≠ .free:=by decide +kernel):FnScope N P sc:=⟨a,b,c,d,e,f,g⟩
end D3
namespace D3
open PySem
def qS (o:Option Oc) (b:FS):Option Oc:=match o with
 | some (.nx δ)=>b δ
 | some o=>some o
 | none=>none
def qI (o:Option Bool) (a b:FS) (δ:DS):Option Oc:=match o with
 | some true=>a δ
 | some false=>b δ
 | none=>none
def qO (g:D→D→Option D) (a b:Option D):Option D:=match a,b with
 | some x,some y=>g x y
 | _,_=>none
def qU (g:D→Option D) (a:Option D):Option D:=match a with
 | some x=>g x
 | none=>none
def qC (a:Option D) (r:Option (List D)):Option (List D):=match a,r with
 | some x,some l=>some (x :: l)
 | _,_=>none
def qF (F:List D→Option D) (l:Option (List D)):Option D:=match l with
 | some l=>F l
 | none=>none
def qR (a:Option D):Option Oc:=match a with
 | some d=>some (.rt d)
 | none=>none
def Br (i:Nat) (a:Option D) (δ:DS):Option Oc:=match a with
 | some d=>if i < δ.length then some (.nx (δ.set i (some (.d d)))) else none
 | none=>none
def rT (a:Option D) (fb:FE) (δ:DS):Option D:=match a with
 | some (.bool true)=>fb δ
 | some (.bool false)=>some (.bool false)
 | _=>none
def qOr (a:Option D) (fb:FE) (δ:DS):Option D:=match a with
 | some (.bool true)=>some (.bool true)
 | some (.bool false)=>fb δ
 | _=>none
def qN (a:Option D):Option D:=match a with
 | some (.bool b)=>some (.bool (!b))
 | _=>none
def qB (a:Option D):Option Bool:=match a with
 | some (.bool b)=>some b
 | _=>none
def qTA (a:Option Bool) (b:FT) (δ:DS):Option Bool:=match a with
 | some true=>b δ
 | some false=>some false
 | none=>none
def qTO (a:Option Bool) (b:FT) (δ:DS):Option Bool:=match a with
 | some true=>some true
 | some false=>b δ
 | none=>none
def qTN (a:Option Bool):Option Bool:=match a with
 | some b=>some (!b)
 | none=>none
def qE (a:Option Bool) (fa fb:FE) (δ:DS):Option D:=match a with
 | some true=>fa δ
 | some false=>fb δ
 | none=>none
def qL (a:Option D):Option (List D):=match a with
 | some (.list l)=>some l
 | _=>none
def Bt (a:Option (List D)) (g:FG) (b:FS) (δ:DS):Option Oc:=match a with
 | some l=>iQ g b l δ
 | none=>none
def qD (a:Option DS):Option Oc:=match a with
 | some δ=>some (.nx δ)
 | none=>none
def qG (a:Option D) (g:FG) (δ:DS):Option DS:=match a with
 | some d=>g d δ
 | none=>none
def qGs (a:Option DS) (r:List D→DS→Option DS) (l:List D):Option DS:=match a with
 | some δ=>r l δ
 | none=>none
def qT (a:Option (List D)):Option D:=match a with
 | some l=>if l.length ≤ sizeLine then some (.tuple l) else none
 | none=>none
def qK (a:Option (List D)):Option D:=match a with
 | some l=>if l.length ≤ sizeLine then some (.list l) else none
 | none=>none
def qFl (p:D→Bool) (a:Option D):Option D:=match a with
 | some d=>if p d=true then some d else none
 | none=>none
def qA (i:Nat) (x a:Option D) (δ:DS):Option Oc:=match x,a with
 | some (.list l),some d=>if l.length < 1000000 then some (.nx (δ.set i (some (.d (.list (l++[d])))))) else none
 | _,_=>none
def qP (i:Nat) (a x k:Option D) (δ:DS):Option Oc:=match a,x,k with
 | some d,some (.list l),some (.int j)=>(pIx l.length j).bind fun n=>some (.nx (δ.set i (some (.d (.list (l.set n d))))))
 | _,_,_=>none
def qCh (g':D→D→Option D) (z:Option D) (y:Option D) (fc:FE) (δ:DS):Option D:=match z with
 | some (.bool true)=>qO g' y (fc δ)
 | some (.bool false)=>some (.bool false)
 | _=>none
def qFn (o:Option Oc):Option D:=match o with
 | some (.rt d)=>some d
 | some (.nx _)=>some .none
 | _=>none
def qCo (a:Option (List D)) (g:FG) (c:FT) (e:FE) (t:Nat) (ix:List Nat) (δ:DS):Option D:=match a with
 | some l=>if l.length ≤ 100000 then (match d_ g c e (jx t ix δ) l with | some r=>some (.list r) | none=>none) else none
 | none=>none
section
variable {a b:FS} {c c':FT} {fa fb fc:FE} {fr:FA} {δ:DS} {g:D→D→Option D} {h:D→Option D} {F:List D→Option D} {i:Nat} {G:FG} {d:D}
theorem Fb:dw a b δ=qS (a δ) b:=by
 unfold dw qS
 cases a δ with
 | none=>rfl
 | some o=>cases o <;> rfl
theorem uJ {δ':DS}:qS (some (.nx δ')) b=b δ':=rfl
theorem uK:qS (some (.rt d)) b=some (.rt d):=rfl
theorem uL {δ':DS}:qS (some (.bk δ')) b=some (.bk δ'):=rfl
theorem uM {δ':DS}:qS (some (.ct δ')) b=some (.ct δ'):=rfl
theorem Fe:iM δ=some (.nx δ):=rfl
theorem Hh:sBk δ=some (.bk δ):=rfl
theorem Hi:sCt δ=some (.ct δ):=rfl
theorem Hj:sIf c a b δ=qI (c δ) a b δ:=by
 unfold sIf qI
 cases c δ with
 | none=>rfl
 | some t=>cases t <;> rfl
theorem Bu:qI (some true) a b δ=a δ:=rfl
theorem Bv:qI (some false) a b δ=b δ:=rfl
theorem v_op:dOp g fa fb δ=qO g (fa δ) (fb δ):=by
 unfold dOp qO
 cases fa δ <;> cases fb δ <;> rfl
theorem Bw {x y:D}:qO g (some x) (some y)=g x y:=rfl
theorem Hl:dUn h fa δ=qU h (fa δ):=by
 unfold dUn qU
 cases fa δ <;> rfl
theorem Bx {x:D}:qU h (some x)=h x:=rfl
theorem BJ:bH δ=some []:=rfl
theorem xG:ao fa fr δ=qC (fa δ) (fr δ):=by
 unfold ao qC
 cases fa δ <;> cases fr δ <;> rfl
theorem rU {x:D} {l:List D}:qC (some x) (some l)=some (x :: l):=rfl
theorem BK:dCall F fr δ=qF F (fr δ):=by
 unfold dCall qF
 cases fr δ <;> rfl
theorem uN {l:List D}:qF F (some l)=F l:=rfl
theorem Fg:dY fa δ=qR (fa δ):=by
 unfold dY qR
 cases fa δ <;> rfl
theorem xH:qR (some d)=some (.rt d):=rfl
theorem BL:Ea δ=some (.rt .none):=rfl
theorem Fi:cL i fa δ=Br i (fa δ) δ:=by
 unfold cL D_ Br
 cases fa δ with
 | none=>simp
 | some d=>rfl
theorem xJ:Br i (some d) δ=if i < δ.length then some (.nx (δ.set i (some (.d d)))) else none:=rfl
theorem v_c:dC d δ=some d:=rfl
theorem v_and:tM fa fb δ=rT (fa δ) fb δ:=by
 unfold tM rT
 cases fa δ with
 | none=>rfl
 | some x =>
  cases x <;> try rfl
  next b=>cases b <;> rfl
theorem xK:rT (some (.bool true)) fb δ=fb δ:=rfl
theorem xM:rT (some (.bool false)) fb δ=some (.bool false):=rfl
theorem v_or:dOr fa fb δ=qOr (fa δ) fb δ:=by
 unfold dOr qOr
 cases fa δ with
 | none=>rfl
 | some x =>
  cases x <;> try rfl
  next b=>cases b <;> rfl
theorem BP:qOr (some (.bool true)) fb δ=some (.bool true):=rfl
theorem BR:qOr (some (.bool false)) fb δ=fb δ:=rfl
theorem v_not:wA fa δ=qN (fa δ):=by
 unfold wA qN
 cases fa δ with
 | none=>rfl
 | some x=>cases x <;> rfl
theorem xO {b:Bool}:qN (some (.bool b))=some (.bool (!b)):=rfl
theorem Ho:bT fa δ=qB (fa δ):=by
 unfold bT qB
 cases fa δ with
 | none=>rfl
 | some x=>cases x <;> rfl
theorem BW {b:Bool}:qB (some (.bool b))=some b:=rfl
theorem BX:D3.q_ c c' δ=qTA (c δ) c' δ:=by
 unfold D3.q_ qTA
 cases c δ with
 | none=>rfl
 | some t=>cases t <;> rfl
theorem uO:qTA (some true) c δ=c δ:=rfl
theorem uP:qTA (some false) c δ=some false:=rfl
theorem Fj:D3.tOr c c' δ=qTO (c δ) c' δ:=by
 unfold D3.tOr qTO
 cases c δ with
 | none=>rfl
 | some t=>cases t <;> rfl
theorem xP:qTO (some true) c δ=some true:=rfl
theorem xQ:qTO (some false) c δ=c δ:=rfl
theorem BZ:D3.iH c δ=qTN (c δ):=by
 unfold D3.iH qTN
 cases c δ <;> rfl
theorem uQ {b:Bool}:qTN (some b)=some (!b):=rfl
theorem v_ite:dIf c fa fb δ=qE (c δ) fa fb δ:=by
 unfold dIf qE
 cases c δ with
 | none=>rfl
 | some t=>cases t <;> rfl
theorem xR:qE (some true) fa fb δ=fa δ:=rfl
theorem xT:qE (some false) fa fb δ=fb δ:=rfl
theorem Fo:tQ fa δ=qL (fa δ):=by
 unfold tQ qL asList
 cases fa δ with
 | none=>rfl
 | some x=>cases x <;> rfl
theorem xU {l:List D}:qL (some (.list l))=some l:=rfl
theorem Fp:tO fr G b δ=Bt (fr δ) G b δ:=by
 unfold tO Bt
 cases fr δ <;> rfl
theorem xV {l:List D}:Bt (some l) G b δ=iQ G b l δ:=rfl
theorem rW:iQ G b [] δ=some (.nx δ):=rfl
theorem Fq:Ec fa G δ=qD (qG (fa δ) G δ):=by
 unfold Ec qG qD
 cases fa δ with
 | none=>rfl
 | some d =>
  dsimp only [aL]
  cases G d δ <;> rfl
theorem xW:qG (some d) G δ=G d δ:=rfl
theorem xX {δ':DS}:qD (some δ')=some (.nx δ'):=rfl
theorem Hq:gNl i d δ=if i < δ.length then some (δ.set i (some (.d d))) else none:=rfl
theorem Hr {n:Nat} {gs:List D→DS→Option DS} {l:List D}:gTn n gs (.tuple l) δ=if l.length=n then gs l δ else none:=rfl
theorem Ft:Eb [] δ=some δ:=rfl
theorem Fv {gs:List D→DS→Option DS} {l:List D}:Av G gs (d :: l) δ=qGs (G d δ) gs l:=by
 show (G d δ).bind (fun δ'=>gs l δ')=qGs (G d δ) gs l
 cases G d δ <;> rfl
theorem xY {gs:List D→DS→Option DS} {l:List D} {δ':DS}:qGs (some δ') gs l=gs l δ':=rfl
theorem Fw:dTup fr δ=qT (fr δ):=by
 unfold dTup qT
 cases fr δ <;> rfl
theorem xZ {l:List D}:qT (some l)=if l.length ≤ sizeLine then some (.tuple l) else none:=rfl
theorem Hs:gP fr δ=qK (fr δ):=by
 unfold gP qK
 cases fr δ <;> rfl
theorem B_ {l:List D}:qK (some l)=if l.length ≤ sizeLine then some (.list l) else none:=rfl
theorem Ca:yW fa δ=qFl flat (fa δ):=by
 unfold yW qFl
 cases fa δ <;> rfl
theorem Fx:oY fa δ=qFl fl1 (fa δ):=by
 unfold oY qFl
 cases fa δ <;> rfl
theorem Cd {p:D→Bool}:qFl p (some d)=if p d=true then some d else none:=rfl
theorem Fy:Ed i fa δ=qA i (ak i δ) (fa δ) δ:=by
 unfold Ed qA
 cases ak i δ with
 | none=>rfl
 | some x =>
  cases fa δ with
  | none=>cases x <;> rfl
  | some d=>cases x <;> rfl
theorem yc {l:List D}:qA i (some (.list l)) (some d) δ=if l.length < 1000000 then some (.nx (δ.set i (some (.d (.list (l++[d])))))) else none:=rfl
theorem Fz {fk:FE}:Ef i fk fa δ=qP i (fa δ) (ak i δ) (fk δ) δ:=by
 unfold Ef qP
 cases fa δ with
 | none=>rfl
 | some d =>
  cases ak i δ with
  | none=>rfl
  | some x =>
   cases fk δ with
   | none=>cases x <;> rfl
   | some k=>cases x <;> cases k <;> rfl
theorem yd {l:List D} {j:Int}:qP i (some d) (some (.list l)) (some (.int j)) δ=(pIx l.length j).bind fun n=>some (.nx (δ.set i (some (.d (.list (l.set n d)))))):=rfl
theorem yg {g':D→D→Option D}:mK g g' fa fb fc δ=qCh g' (qO g (fa δ) (fb δ)) (fb δ) fc δ:=by
 unfold mK qCh qO
 cases fa δ with
 | none=>rfl
 | some x =>
  cases fb δ with
  | none=>rfl
  | some y =>
   dsimp only [aL]
   cases g x y with
   | none=>rfl
   | some z =>
    cases z <;> try rfl
    next b =>
    cases b with
    | false=>rfl
    | true=>dsimp only [aL];cases fc δ <;> rfl
theorem rY {g':D→D→Option D} {y:Option D}:qCh g' (some (.bool true)) y fc δ=qO g' y (fc δ):=rfl
theorem rZ {g':D→D→Option D} {y:Option D}:qCh g' (some (.bool false)) y fc δ=some (.bool false):=rfl
theorem FJ {p q:Nat} {ds:List D}:fnD p q b ds=if ds.length=p then qFn (b (ds.map (fun d=>some (.d d))++bC q none)) else none:=by
 unfold fnD qFn
 rfl
theorem yh:qFn (some (.rt d))=some d:=rfl
theorem yj {δ':DS}:qFn (some (.nx δ'))=some .none:=rfl
theorem Ce {t:Nat} {ix:List Nat}:iR fr G c fa t ix δ=qCo (fr δ) G c fa t ix δ:=by
 unfold iR qCo
 cases fr δ with
 | none=>rfl
 | some l =>
  dsimp only [aL]
  by_cases z:l.length ≤ 100000
  ·rw [if_pos z,if_pos z]
   cases d_ G c fa (jx t ix δ) l <;> rfl
  ·rw [if_neg z,if_neg z]
theorem uR {t:Nat} {ix:List Nat} {l:List D}:qCo (some l) G c fa t ix δ=if l.length ≤ 100000 then (match d_ G c fa (jx t ix δ) l with | some r=>some (.list r) | none=>none) else none:=rfl
theorem FN:D3.gw δ=some true:=rfl
theorem Cg {r:DS} {x:D}:ak 0 (some (.d x) :: r)=some x:=rfl
theorem Ci {r:DS} {y:Option U}:ak (i + 1) (y :: r)=ak i r:=rfl
end
section
variable {i j:Int} {l m:List D} {d:D}
theorem FP:iw (.int i) (.int j)=some (.int (i + j)):=rfl
theorem FQ:Aw (.int i) (.int j)=some (.int (i - j)):=rfl
theorem Ht:gLt (.int i) (.int j)=some (.bool (decide (i < j))):=rfl
theorem Hu:gLe (.int i) (.int j)=some (.bool (decide (i ≤ j))):=rfl
theorem Hv:gGt (.int i) (.int j)=some (.bool (decide (j < i))):=rfl
theorem Hw:gGe (.int i) (.int j)=some (.bool (decide (j ≤ i))):=rfl
theorem zF:gEq (.int i) (.int j)=some (.bool (decide (i=j))):=rfl
theorem FW:gNe (.int i) (.int j)=some (.bool (!decide (i=j))):=rfl
theorem FZ:nF [.list l]=some (.int l.length):=rfl
theorem Cj:nF [.tuple l]=some (.int l.length):=rfl
theorem Ga:G7 [.int i]=some (.int (if i < 0 then -i else i)):=rfl
theorem Gb:Ej [.int i,.int j]=some (.int (if j > i then j else i)):=rfl
theorem Gd:Ek [.int i,.int j]=some (.int (if j < i then j else i)):=rfl
theorem Ge:G8 (.int i)=some (.int (-i)):=rfl
theorem Hx:gIx (.list l) (.int i)=pAt l i:=rfl
theorem Gf:gIx (.tuple l) (.int i)=pAt l i:=rfl
theorem Gg:gA (.list l) (.list m)=if l.length + m.length ≤ 1000000 then some (.list (l++m)) else none:=rfl
theorem Ck:zc (.list l)=some (.list l):=rfl
theorem yq:zc (.tuple l)=some (.list l):=rfl
theorem Gi:pAt (d :: l) 0=some d:=by
 unfold pAt pIx
 rw [if_pos (by decide),if_pos (by simp)]
 rfl
end
def Cm (i j:Nat) (a:Option (List D)) (δ:DS):Option Oc:=match a with
 | some l=>match l with
  | [x,y]=>if i < δ.length∧j < δ.length then some (.nx ((δ.set i (some (.d x))).set j (some (.d y)))) else none
  | _=>none
 | none=>none
def lZ (a:Option (List D)):Option (List D):=match a with
 | some l=>match l with
  | [.int j]=>if j9 j=true then some (cY 0 j) else none
  | _=>none
 | none=>none
def zG (a:Option (List D)):Option (List D):=match a with
 | some l=>match l with
  | [.int i,.int j]=>if (j9 i && j9 j)=true then some (cY i j) else none
  | _=>none
 | none=>none
def qSl (x:Option D) (a b:Option (Option Int)):Option D:=match x,a,b with
 | some (.list l),some a,some b=>some (.list (cutD l a b))
 | _,_,_=>none
def qOP (x:Option D):Option (Option Int):=match x with
 | some (.int i)=>some (some i)
 | _=>none
def qEn (x:Option D):Option (List D):=match x with
 | some (.list l)=>some (tR l)
 | _=>none
section
variable {a b:FS} {fa:FE} {fr:FA} {δ:DS} {i j:Nat} {g:FG}
theorem Gj:El i j fr δ=Cm i j (fr δ) δ:=by
 unfold El Cm
 cases fr δ with
 | none=>rfl
 | some l=>rfl
theorem yr {x y:D}:Cm i j (some [x,y]) δ=if i < δ.length∧j < δ.length then some (.nx ((δ.set i (some (.d x))).set j (some (.d y)))) else none:=rfl
theorem Cp:jg fr δ=lZ (fr δ):=by
 unfold jg lZ
 cases fr δ with
 | none=>rfl
 | some l=>rfl
theorem Cq {k:Int} (h : -(2 ^ 62) ≤ k) (h2:k < 2 ^ 62):lZ (some [.int k])=some (cY 0 k):=by
 show (if j9 k=true then some (cY 0 k) else none)=_
 rw [if_pos]
 unfold j9
 rw [dTr h,dTr h2]
 rfl
theorem Cr:yZ fr δ=zG (fr δ):=by
 unfold yZ zG
 cases fr δ with
 | none=>rfl
 | some l=>rfl
theorem Hy {lo hi:FO}:dSl fa lo hi δ=qSl (fa δ) (lo δ) (hi δ):=by
 unfold dSl qSl
 cases fa δ with
 | none=>rfl
 | some x =>
  dsimp only [aL]
  cases lo δ with
  | none=>cases x <;> rfl
  | some p =>
   dsimp only [aL]
   cases hi δ with
   | none=>cases x <;> rfl
   | some r=>cases x <;> rfl
theorem Cu {l:List D} {p r:Option Int}:qSl (some (.list l)) (some p) (some r)=some (.list (cutD l p r)):=rfl
theorem Hz:jh δ=some none:=rfl
theorem HB:gk fa δ=qOP (fa δ):=by
 unfold gk qOP
 cases fa δ with
 | none=>rfl
 | some x=>cases x <;> rfl
theorem Cv {k:Int}:qOP (some (.int k))=some (some k):=rfl
theorem Cw:zf fa δ=qEn (fa δ):=by
 unfold zf qEn
 cases fa δ with
 | none=>rfl
 | some x=>cases x <;> rfl
theorem uT {l:List D}:qEn (some (.list l))=some (tR l):=rfl
theorem yt (Inv:Nat→DS→Prop):∀ (l:List D) (δ:DS),Inv 0 δ→(∀ i d δ,l[i]? = some d→Inv i δ→∃ δ1 δ',g d δ=some δ1∧(b δ1=some (.nx δ')∨b δ1=some (.ct δ'))∧Inv (i + 1) δ')→∃ δ',iQ g b l δ=some (.nx δ')∧Inv l.length δ':=by
 have key:∀ (l:List D) (k:Nat) (δ:DS),Inv k δ→(∀ i d δ,l[i]? = some d→Inv (k + i) δ→∃ δ1 δ',g d δ=some δ1∧(b δ1=some (.nx δ')∨b δ1=some (.ct δ'))∧Inv (k + i + 1) δ')→∃ δ',iQ g b l δ=some (.nx δ')∧Inv (k + l.length) δ':=by
  intro l
  induction l with
  | nil=>exact fun k δ h _=>⟨δ,rfl,h⟩
  | cons d r ih =>
   intro k δ h hs
   obtain ⟨δ1,δ',e1,e2,e3⟩:=hs 0 d δ rfl h
   obtain ⟨δ2,e4,e5⟩:=ih (k + 1) δ' e3 fun i d' δ'' hd hi=>by
    have:=hs (i + 1) d' δ'' (by simpa using hd) (by rw [show k + (i + 1)=k + 1 + i by omega];exact hi)
    rw [show k + (i + 1) + 1=k + 1 + i + 1 by omega] at this
    exact this
   refine ⟨δ2,?_,by rw [fB,show k + (r.length + 1)=k + 1 + r.length by omega];exact e5⟩
   rw [iQ,e1,aL]
   rcases e2 with e2 | e2
   ·rw [e2];exact e4
   ·rw [e2];exact e4
 intro l δ h hs
 have:=key l 0 δ h fun i d δ hd hi=>by
  have:=hs i d δ hd (by rw [g8] at hi;exact hi)
  rw [g8]
  exact this
 rw [g8] at this
 exact this
end
def qX (a:Option D) (δ:DS):Option Oc:=match a with
 | some _=>some (.nx δ)
 | none=>none
theorem Cy {fa:FE} {δ:DS}:yX fa δ=qX (fa δ) δ:=by
 unfold yX qX
 cases fa δ <;> rfl
theorem uU {d:D} {δ:DS}:qX (some d) δ=some (.nx δ):=rfl
theorem uV {g g' g'':D→D→Option D} {fa fb fc fd:FE} {δ:DS}:pR g g' g'' fa fb fc fd δ=rT (qO g (fa δ) (fb δ)) (mK g' g'' fb fc fd) δ:=by
 unfold pR rT mK qO
 cases fa δ with
 | none=>rfl
 | some x =>
  cases fb δ with
  | none=>rfl
  | some y =>
   dsimp only [aL]
   cases g x y with
   | none=>rfl
   | some z =>
    cases z <;> try rfl
    next b=>cases b <;> rfl
def qZ (a b:Option D):Option (List D):=match a,b with
 | some (.list l),some (.list m)=>some (wC l m)
 | _,_=>none
theorem Gk {f g:FE} {δ:DS}:Em f g δ=qZ (f δ) (g δ):=by
 unfold Em qZ
 cases f δ with
 | none=>rfl
 | some x =>
  cases g δ with
  | none=>cases x <;> rfl
  | some y=>cases x <;> cases y <;> rfl
theorem yu {l m:List D}:qZ (some (.list l)) (some (.list m))=some (wC l m):=rfl
theorem HD {fa:FE} {δ:DS}:dN1 fa δ=qFl (fun d=>decide (nl d ≤ 1)) (fa δ):=by
 unfold dN1 qFl
 cases fa δ <;> rfl
theorem Gm:flat .none=true:=rfl
theorem HJ {b:Bool}:flat (.bool b)=true:=rfl
theorem f_int {i:Int}:flat (.int i)=true:=rfl
theorem Gn {x:Str}:flat (.str x)=true:=rfl
theorem Gp {l:List D}:flat (.list l)=false:=rfl
theorem f_tup {l:List D}:flat (.tuple l)=flats l:=rfl
theorem Gq:flats []=true:=rfl
theorem Cz {d:D} {l:List D}:flats (d :: l)=(flat d && flats l):=rfl
theorem CG:fl1 .none=true:=rfl
theorem Gr {b:Bool}:fl1 (.bool b)=true:=rfl
theorem CJ {i:Int}:fl1 (.int i)=true:=rfl
theorem CK {x:Str}:fl1 (.str x)=true:=rfl
theorem CN {l:List D}:fl1 (.list l)=flats l:=rfl
theorem CP {l:List D}:fl1 (.tuple l)=flats l:=rfl
theorem HN {c:String}:(gIs c .none=some (.bool (isT c "NoneType")))∧(∀ b,gIs c (.bool b)=some (.bool (isT c "bool")))∧(∀ i,gIs c (.int i)=some (.bool (isT c "int")))∧(∀ x,gIs c (.str x)=some (.bool (isT c "str")))∧(∀ l,gIs c (.list l)=some (.bool (isT c "list")))∧(∀ l,gIs c (.tuple l)=some (.bool (isT c "tuple"))):=⟨rfl,fun _=>rfl,fun _=>rfl,fun _=>rfl,fun _=>rfl,fun _=>rfl⟩
theorem Gs {d:D}:Ay d=some (.bool (isNone d)):=rfl
theorem CQ {d:D}:Eh d=some (.bool (!isNone d)):=rfl
theorem Gu:isNone .none=true:=rfl
theorem HS {b:Bool}:isNone (.bool b)=false:=rfl
theorem Gv {i:Int}:isNone (.int i)=false:=rfl
theorem Gw {x:Str}:isNone (.str x)=false:=rfl
theorem Gx {l:List D}:isNone (.list l)=false:=rfl
theorem Gy {l:List D}:isNone (.tuple l)=false:=rfl
theorem Gz {l:List (D × D)}:isNone (.dict l)=false:=rfl
def EVL:=And.intro @Gm <| And.intro @HJ <| And.intro @f_int <| And.intro @Gn <| And.intro @Gp <| And.intro @f_tup <| And.intro @Gq <| And.intro @Cz <| And.intro @CG <| And.intro @Gr <| And.intro @CJ <| And.intro @CK <| And.intro @CN <| And.intro @CP <| And.intro @HN <| And.intro @Gs <| And.intro @CQ <| And.intro @Gu <| And.intro @HS <| And.intro @Gv <| And.intro @Gw <| And.intro @Gx <| And.intro @Gy <| And.intro @Gz <| And.intro @fB.{0} <| And.intro @List.length_nil.{0} <| And.intro @cP.{0,0} <| And.intro @List.map_nil.{0,0} <| And.intro @List.replicate_succ.{0} <| And.intro @List.replicate_zero.{0} <| And.intro @List.cons_append.{0} <| And.intro @List.nil_append.{0} <| And.intro @fQ.{0} <| And.intro @List.set_cons_zero.{0} <| And.intro @List.set_cons_succ.{0} <| And.intro @g8 <| And.intro @if_true.{1} <| And.intro @decide_true <| And.intro @decide_false <| And.intro @Int.cast_ofNat_Int <| And.intro @Bool.not_true <| And.intro @Bool.not_false <| @Bool.and_self
def EV:=And.intro EVL <| And.intro @HD <| And.intro @Gk <| And.intro @yu <| And.intro @Cy <| And.intro @uU <| And.intro @uV <| And.intro @Fb (And.intro @uJ (And.intro @uK (And.intro @uL (And.intro @uM (And.intro @Fe (And.intro @Hh (And.intro @Hi (And.intro @Hj (And.intro @Bu (And.intro @Bv (And.intro @v_op (And.intro @Bw (And.intro @Hl (And.intro @Bx (And.intro @BJ (And.intro @xG (And.intro @rU (And.intro @BK (And.intro @uN (And.intro @Fg (And.intro @xH (And.intro @BL (And.intro @Fi (And.intro @xJ (And.intro @v_c (And.intro @v_and (And.intro @xK (And.intro @xM (And.intro @v_or (And.intro @BP (And.intro @BR (And.intro @v_not (And.intro @xO (And.intro @Ho (And.intro @BW (And.intro @BX (And.intro @uO (And.intro @uP (And.intro @Fj (And.intro @xP (And.intro @xQ (And.intro @BZ (And.intro @uQ (And.intro @v_ite (And.intro @xR (And.intro @xT (And.intro @Fo (And.intro @xU (And.intro @Fp (And.intro @xV (And.intro @rW (And.intro @Fq (And.intro @xW (And.intro @xX (And.intro @Hq (And.intro @Hr (And.intro @Ft (And.intro @Fv (And.intro @xY (And.intro @Fw (And.intro @xZ (And.intro @Hs (And.intro @B_ (And.intro @Ca (And.intro @Fx (And.intro @Cd (And.intro @Fy (And.intro @yc (And.intro @Fz (And.intro @yd (And.intro @yg (And.intro @rY (And.intro @rZ (And.intro @FJ (And.intro @yh (And.intro @yj (And.intro @Ce (And.intro @uR (And.intro @FN (And.intro @Cg (And.intro @Ci (And.intro @FP (And.intro @FQ (And.intro @Ht (And.intro @Hu (And.intro @Hv (And.intro @Hw (And.intro @zF (And.intro @FW (And.intro @FZ (And.intro @Cj (And.intro @Ga (And.intro @Gb (And.intro @Gd (And.intro @Ge (And.intro @Hx (And.intro @Gf (And.intro @Gg (And.intro @Ck (And.intro @yq (And.intro @Gi (And.intro @Gj (And.intro @yr (And.intro @Cp (And.intro @Cr (And.intro @Hy (And.intro @Cu (And.intro @Hz (And.intro @HB (And.intro @Cv (And.intro @Cw @uT)))))))))))))))))))))))))))))))))))))))))))))))))))))))))))))))))))))))))))))))))))))))))))))))))))))))))))))))
end D3
namespace My
def gM (ns:List Int) (i:Int):Int :=
 if i < (ns.length:Int) then ns.getD i.toNat 0 % 1000000007
 else if ns=[] then 7919 * i + 5000011
 else ns.getD (i * 7 % (ns.length:Int)).toNat 0 % 1000000007 + 7919 * i
def divs (n:Int):Nat→Int
 | 0=>n
 | k + 1=>divs n k / 1000003
def qg (c i k m:Int):Int :=
 (((c + 65537 * i + 3) * (1299709 + 15485863 * k) % 2147483629 * ((c + 65537 * i + 3) * (1299709 + 15485863 * k) % 2147483629) % 1500450271 + 104729) *
  ((c + 65537 * i + 3) * (1299709 + 15485863 * k) % 2147483629 * ((c + 65537 * i + 3) * (1299709 + 15485863 * k) % 2147483629) % 1500450271 + 104729)) % 715827883 / 64 % m
def fj (ns:List Int) (i k m:Int):Int :=
 if i < (ns.length:Int)∧10 ^ 40 ≤ ns.getD i.toNat 0∧0 < divs (ns.getD i.toNat 0) k.toNat then divs (ns.getD i.toNat 0) k.toNat % 1000003 % m
 else qg (gM ns i) i k m
theorem fM (ns:List Int) (i k:Int) {m:Int} (h:0 < m):0 ≤ fj ns i k m∧fj ns i k m < m:=by
 unfold fj qg
 split
 ·exact ⟨d7 _ (by omega),dh _ h⟩
 ·exact ⟨d7 _ (by omega),dh _ h⟩
theorem su {ns:List Int} {i k m:Int} (h1:i < (ns.length:Int)) (h2:10 ^ 40 ≤ ns.getD i.toNat 0) (h3:0 < divs (ns.getD i.toNat 0) k.toNat) :
 fj ns i k m=divs (ns.getD i.toNat 0) k.toNat % 1000003 % m:=by
 unfold fj
 rw [if_pos ⟨h1,h2,h3⟩]
theorem ju {ns:List Int} {i k m:Int} (h:¬ (i < (ns.length:Int)∧10 ^ 40 ≤ ns.getD i.toNat 0∧0 < divs (ns.getD i.toNat 0) k.toNat)) :
 fj ns i k m=qg (gM ns i) i k m:=by
 unfold fj
 rw [if_neg h]
end My
namespace Com
open PySem D3
noncomputable def cZ:List D→Option D:=fnD 2 0 (dw (sIf (bT (dOp gLt (ak 1) (dCall nF (ao (ak 0) (bH))))) (dY (dOp jf (dOp gIx (ak 0) (ak 1)) (dC (.int 1000000007)))) (iM))
 (dw (sIf (bT (dOp gEq (ak 0) (gP (bH)))) (dY (dOp iw (dOp iy (dC (.int 7919)) (ak 1)) (dC (.int 5000011)))) (iM))
 (dY (dOp iw (dOp jf (dOp gIx (ak 0) (dOp jf (dOp iy (ak 1) (dC (.int 7))) (dCall nF (ao (ak 0) (bH))))) (dC (.int 1000000007))) (dOp iy (dC (.int 7919)) (ak 1))))))
noncomputable def aZ:List D→Option D:=fnD 4 2 (dw (sIf (D3.q_ (bT (dOp gLt (ak 1) (dCall nF (ao (ak 0) (bH))))) (bT (dOp gGe (dOp gIx (ak 0) (ak 1)) (dOp mJ (dC (.int 10)) (dC (.int 40)))))) (dw (cL 4 (dOp gIx (ak 0) (ak 1)))
 (dw (tO (jg (ao (ak 2) (bH))) (gNl 5) (cL 4 (dOp nD (ak 4) (dC (.int 1000003)))))
 (sIf (bT (dOp gGt (ak 4) (dC (.int 0)))) (dY (dOp jf (dOp jf (ak 4) (dC (.int 1000003))) (ak 3))) (iM)))) (iM))
 (dw (cL 4 (dOp jf (dOp iy (dOp iw (dOp iw (dCall cZ (ao (ak 0) (ao (ak 1) (bH)))) (dOp iy (dC (.int 65537)) (ak 1))) (dC (.int 3))) (dOp iw (dC (.int 1299709)) (dOp iy (dC (.int 15485863)) (ak 2)))) (dC (.int 2147483629))))
 (dw (cL 4 (dOp iw (dOp jf (dOp iy (ak 4) (ak 4)) (dC (.int 1500450271))) (dC (.int 104729))))
 (dY (dOp jf (dOp nD (dOp jf (dOp iy (ak 4) (ak 4)) (dC (.int 715827883))) (dC (.int 64))) (ak 3))))))
noncomputable def dJ:List D→Option D:=fnD 2 0 (dw (sIf (bT (dOp gLt (ak 1) (dCall nF (ao (ak 0) (bH))))) (dY (dOp jf (dOp gIx (ak 0) (ak 1)) (dOp mJ (dC (.int 10)) (dC (.int 60))))) (iM))
 (dY (dOp iw (dOp iy (dCall aZ (ao (ak 0) (ao (ak 1) (ao (dC (.int 59)) (ao (dOp mJ (dC (.int 10)) (dC (.int 6))) (bH)))))) (dOp mJ (dC (.int 10)) (dC (.int 40)))) (dCall aZ (ao (ak 0) (ao (ak 1) (ao (dC (.int 60)) (ao (dOp mJ (dC (.int 10)) (dC (.int 6))) (bH)))))))))
noncomputable def dW:List D→Option D:=fnD 1 0 (dY (tM (dUn (gIs "int") (ak 0)) (wA (dUn (gIs "bool") (ak 0)))))
end Com
namespace Com
open PySem D3 My
theorem iW {ns:List Int} {i:Int} (h0:0 ≤ i) (h1:i < ns.length):pAt (ns.map PyData.int) i=some (.int (ns.getD i.toNat 0)):=by
 unfold pAt pIx
 rw [aX,if_pos h0,if_pos h1,aL,bI]
 have h:i.toNat < ns.length:=by omega
 rw [bR h]
 simp [List.getD,h]
theorem yw {l:List D} {k:Nat}:pAt l (k:Int)=l[k]?:=by
 unfold pAt pIx
 rw [if_pos (by omega)]
 by_cases h:k < l.length
 ·rw [if_pos (by omega),aL]
  simp
 ·rw [if_neg (by omega),b_ (by omega)]
  rfl
theorem at1 {a b:D} {l:List D}:pAt (a :: b :: l) 1=some b:=yw (k:=1)
theorem lq {i j:Int} (h:0 < j):jf (.int i) (.int j)=some (.int (i % j)):=by
 show (if decide (j ≠ 0)=true then some (PyData.int (i.fmod j)) else none)=_
 rw [if_pos (dTr (by omega)),Int.fmod_eq_emod_of_nonneg i (by omega)]
theorem uW {j:Int} (h:j.natAbs < 2 ^ 64):j.natAbs < 2 ^ 9000:=aP h (Nat.pow_le_pow_right (by decide) (by decide))
theorem HW {i j:Int} (h:0 < j) (h2:j.natAbs < 2 ^ 9000):nD (.int i) (.int j)=some (.int (i / j)):=by
 show (if oZ i j=true then some (PyData.int (i.fdiv j)) else none)=_
 have e:oZ i j=true:=by
  unfold oZ
  rw [aN]
  exact ⟨dTr (by omega),dTr h2⟩
 rw [if_pos e,Int.fdiv_eq_ediv_of_nonneg i (by omega)]
theorem GC {i j:Int} (h:0 < j) (h2:j < 18446744073709551616):nD (.int i) (.int j)=some (.int (i / j)):=HW h (uW (by omega))
theorem mulL {i j:Int} (h1 : -18446744073709551616 < i) (h2:i < 18446744073709551616):iy (.int i) (.int j)=some (.int (i * j)):=by
 show (if j8 i j=true then some (PyData.int (i * j)) else none)=_
 have e:j8 i j=true:=by
  unfold j8
  rw [dTr (show i.natAbs < 2 ^ 64 by omega)]
  rfl
 rw [if_pos e]
theorem mulR {i j:Int} (h1 : -18446744073709551616 < j) (h2:j < 18446744073709551616):iy (.int i) (.int j)=some (.int (i * j)):=by
 show (if j8 i j=true then some (PyData.int (i * j)) else none)=_
 have e:j8 i j=true:=by
  unfold j8
  rw [dTr (show j.natAbs < 2 ^ 64 by omega),eG]
  rfl
 rw [if_pos e]
theorem uX:mJ (.int 10) (.int 40)=some (.int (10 ^ 40)):=rfl
theorem GD:mJ (.int 10) (.int 60)=some (.int (10 ^ 60)):=rfl
theorem HX:mJ (.int 10) (.int 6)=some (.int (10 ^ 6)):=rfl
theorem sz {n:Nat} (h:n ≤ 1000000):n ≤ sizeLine:=aV h (by decide)
theorem shaped_ints (ns:List Int):SeqAt.shaped (.list (ns.map PyData.int))=true:=by
 have h1:∀ ns:List Int,PyData.canLayAll0 (ns.map PyData.int)=true:=fun ns=>by
  induction ns with
  | nil=>rfl
  | cons a r ih=>simp [PyData.canLayAll0,PyData.canLay0,ih]
 have h2:∀ ns:List Int,PyData.depthAll (ns.map PyData.int) ≤ 1:=fun ns=>by
  induction ns with
  | nil=>simp [PyData.depthAll]
  | cons a r ih=>simp [PyData.depthAll,PyData.depth];omega
 unfold SeqAt.shaped
 rw [aN]
 refine ⟨by simp [PyData.canLay0,h1],dTr ?_⟩
 have:=h2 ns
 simp only [PyData.depth]
 omega
theorem eq_empty (ns:List Int):gEq (.list (ns.map PyData.int)) (.list [])=some (.bool (decide (ns=[]))):=by
 unfold gEq
 rw [shaped_ints ns]
 cases ns with
 | nil=>rfl
 | cons a r=>rfl
theorem sy {ns:List Int} {i:Int} (h0:0 ≤ i):cZ [.list (ns.map .int),.int i]=some (.int (gM ns i)):=by
 unfold cZ gM
 by_cases h:i < (ns.length:Int)
 ·rw [if_pos h]
  simp only [EV,reduceIte,aC,aF,aq,au,aG,aH,aJ,lMp,dTr h,iW h0 h,lq (show (0:Int) < 1000000007 by decide)]
 ·rw [if_neg h]
  by_cases hn:ns=[]
  ·rw [if_pos hn]
   simp only [EV,reduceIte,aC,aF,aq,au,aG,aH,aJ,lMp,dFa h,eq_empty,dTr hn,gC,mulL (show (-18446744073709551616:Int) < 7919 by decide) (show (7919:Int) < 18446744073709551616 by decide)]
  ·rw [if_neg hn]
   have hl:0 < ns.length:=by
    cases ns with
    | nil=>exact absurd rfl hn
    | cons _ _=>simp
   have h7:0 ≤ i * 7 % (ns.length:Int):=d7 _ (by omega)
   have h8:i * 7 % (ns.length:Int) < (ns.length:Int):=dh _ (by omega)
   simp only [EV,reduceIte,aC,aF,aq,au,aG,aH,aJ,lMp,dFa h,eq_empty,dFa hn,gC,mulL (show (-18446744073709551616:Int) < 7919 by decide) (show (7919:Int) < 18446744073709551616 by decide),mulR (show (-18446744073709551616:Int) < 7 by decide) (show (7:Int) < 18446744073709551616 by decide),lq (show (0:Int) < 1000000007 by decide),lq (show (0:Int) < ns.length by omega),iW h7 h8]
theorem mj {l:D} {i k m:D} (n:Int):∀ (js:List D) (c:Nat) (y:Option U),(∀ j ∈ js,∃ x,j = .int x)→∃ y',iQ (gNl 5) (cL 4 (dOp nD (ak 4) (dC (.int 1000003)))) js [some (.d l),some (.d i),some (.d k),some (.d m),some (.d (.int (divs n c))),y] =
 some (.nx [some (.d l),some (.d i),some (.d k),some (.d m),some (.d (.int (divs n (c + js.length)))),y'])
 | [],c,y,_=>⟨y,rfl⟩
 | j :: js,c,y,h=>by
  obtain ⟨y',e⟩:=mj (l:=l) (i:=i) (k:=k) (m:=m) n js (c + 1) (some (.d j)) fun j' hj=>h j' (aA _ hj)
  refine ⟨y',?_⟩
  rw [iQ]
  simp only [EV,reduceIte,aC,aF,aq,au,aG,aH,aJ,GC (show (0:Int) < 1000003 by decide) (show (1000003:Int) < 18446744073709551616 by decide),aL]
  rw [show c + (js.length + 1)=c + 1 + js.length by omega,← e]
  rfl
theorem sE (lo hi:Int):∀ j ∈ cY lo hi,∃ x,j = .int x:=by
 intro j hj
 unfold cY at hj
 obtain ⟨k,_,rfl⟩:=dO.mp hj
 exact ⟨_,rfl⟩
theorem fZ {ns:List Int} {i k m:Int} (h0:0 ≤ i) (hk0:0 ≤ k) (hk:k ≤ 1000) (hm:0 < m):aZ [.list (ns.map .int),.int i,.int k,.int m]=some (.int (fj ns i k m)):=by
 have rest:∀ x y:Option U,qFn ((dw (cL 4 (dOp jf (dOp iy (dOp iw (dOp iw (dCall cZ (ao (ak 0) (ao (ak 1) (bH)))) (dOp iy (dC (.int 65537)) (ak 1))) (dC (.int 3))) (dOp iw (dC (.int 1299709)) (dOp iy (dC (.int 15485863)) (ak 2)))) (dC (.int 2147483629))))
  (dw (cL 4 (dOp iw (dOp jf (dOp iy (ak 4) (ak 4)) (dC (.int 1500450271))) (dC (.int 104729))))
  (dY (dOp jf (dOp nD (dOp jf (dOp iy (ak 4) (ak 4)) (dC (.int 715827883))) (dC (.int 64))) (ak 3))))) [some (.d (.list (ns.map .int))),some (.d (.int i)),some (.d (.int k)),some (.d (.int m)),x,y])=some (.int (qg (gM ns i) i k m)):=by
  intro x y
  have b1:0 ≤ (gM ns i + 65537 * i + 3) * (1299709 + 15485863 * k) % 2147483629:=d7 _ (by decide)
  have b2:(gM ns i + 65537 * i + 3) * (1299709 + 15485863 * k) % 2147483629 < 2147483629:=dh _ (by decide)
  have b3:0 ≤ (gM ns i + 65537 * i + 3) * (1299709 + 15485863 * k) % 2147483629 * ((gM ns i + 65537 * i + 3) * (1299709 + 15485863 * k) % 2147483629) % 1500450271:=d7 _ (by decide)
  have b4:(gM ns i + 65537 * i + 3) * (1299709 + 15485863 * k) % 2147483629 * ((gM ns i + 65537 * i + 3) * (1299709 + 15485863 * k) % 2147483629) % 1500450271 < 1500450271:=dh _ (by decide)
  simp only [EV,reduceIte,aC,aF,aq,au,aG,aH,aJ,sy h0,mulL (show (-18446744073709551616:Int) < 65537 by decide) (show (65537:Int) < 18446744073709551616 by decide),mulL (show (-18446744073709551616:Int) < 15485863 by decide) (show (15485863:Int) < 18446744073709551616 by decide),
   mulR (i:=gM ns i + 65537 * i + 3) (show (-18446744073709551616:Int) < 1299709 + 15485863 * k by omega) (show 1299709 + 15485863 * k < (18446744073709551616:Int) by omega),lq (show (0:Int) < 2147483629 by decide)]
  simp only [mulL (show (-18446744073709551616:Int) < (gM ns i + 65537 * i + 3) * (1299709 + 15485863 * k) % 2147483629 by omega) (show (gM ns i + 65537 * i + 3) * (1299709 + 15485863 * k) % 2147483629 < (18446744073709551616:Int) by omega)]
  simp only [EV,reduceIte,aC,aF,aq,au,aG,aH,aJ,lq (show (0:Int) < 1500450271 by decide)]
  rw [mulL (by omega) (by omega)]
  simp only [EV,reduceIte,aC,aF,aq,au,aG,aH,aJ,lq (show (0:Int) < 715827883 by decide),GC (show (0:Int) < 64 by decide) (show (64:Int) < 18446744073709551616 by decide),lq hm]
  rfl
 unfold aZ
 rw [FJ]
 simp only [EV,reduceIte,aC,aF,aq,au,aG,aH,aJ]
 by_cases h:i < (ns.length:Int)
 ·by_cases h2:10 ^ 40 ≤ ns.getD i.toNat 0
  ·simp only [EV,reduceIte,aC,aF,aq,au,aG,aH,aJ,lMp,dTr h,iW h0 h,uX,dTr h2]
   obtain ⟨y',e⟩:=mj (l:=.list (ns.map .int)) (i:=.int i) (k:=.int k) (m:=.int m) (ns.getD i.toNat 0) (cY 0 k) 0 none (sE 0 k)
   have el:0 + (cY 0 k).length=k.toNat:=by simp [cY]
   rw [el] at e
   have e':iQ (gNl 5) (cL 4 (dOp nD (ak 4) (dC (.int 1000003)))) (cY 0 k) [some (.d (.list (ns.map .int))),some (.d (.int i)),some (.d (.int k)),some (.d (.int m)),some (.d (.int (ns.getD i.toNat 0))),none] =
    some (.nx [some (.d (.list (ns.map .int))),some (.d (.int i)),some (.d (.int k)),some (.d (.int m)),some (.d (.int (divs (ns.getD i.toNat 0) k.toNat))),y']):=e
   rw [Cq (by omega) (by omega)]
   simp only [EV,reduceIte,aC,aF,aq,au,aG,aH,aJ,e']
   by_cases h3:0 < divs (ns.getD i.toNat 0) k.toNat
   ·simp only [EV,reduceIte,aC,aF,aq,au,aG,aH,aJ,dTr h3,lq (show (0:Int) < 1000003 by decide),lq hm]
    rw [su h h2 h3]
   ·simp only [EV,reduceIte,aC,aF,aq,au,aG,aH,aJ,dFa h3]
    rw [ju (fun z=>h3 z.2.2)]
    have:=rest (some (.d (.int (divs (ns.getD i.toNat 0) k.toNat)))) y'
    simp only [EV,reduceIte,aC,aF,aq,au,aG,aH,aJ] at this
    exact this
  ·simp only [EV,reduceIte,aC,aF,aq,au,aG,aH,aJ,lMp,dTr h,iW h0 h,uX,dFa h2]
   rw [ju (fun z=>h2 z.2.1)]
   have:=rest none none
   simp only [EV,reduceIte,aC,aF,aq,au,aG,aH,aJ] at this
   exact this
 ·simp only [EV,reduceIte,aC,aF,aq,au,aG,aH,aJ,lMp,dFa h]
  rw [ju (fun z=>h z.1)]
  have:=rest none none
  simp only [EV,reduceIte,aC,aF,aq,au,aG,aH,aJ] at this
  exact this
end Com
namespace Com
open PySem D3 My
theorem cEx {α:Type} {g:FG} {c:FT} {e:FE} {δ:DS} (f:α→D) (P:α→Prop):∀ l:List D,(∀ d ∈ l,∃ δ1 x,g d δ=some δ1∧c δ1=some true∧P x∧e δ1=some (f x))→∃ xs:List α,xs.length=l.length∧(∀ x ∈ xs,P x)∧d_ g c e δ l=some (xs.map f)
 | [],_=>⟨[],rfl,(fun _ h=>by cases h),rfl⟩
 | d :: r,hs=>by
  obtain ⟨δ1,x,e1,e2,hp,e3⟩:=hs d aB
  obtain ⟨xs,l1,h1,e4⟩:=cEx f P r fun x hx=>hs x (aA _ hx)
  refine ⟨x :: xs,by simp [l1],fun y hy=>?_,?_⟩
  ·rcases bf.mp hy with rfl | z
   ·exact hp
   ·exact h1 y z
  ·rw [d_,e1,aL,e2,aL,if_pos rfl,e3,aL,e4]
   rfl
theorem CT {α:Type} {g:FG} {c:FT} {e:FE} {δ:DS} (f:α→D) (h:α→D):∀ l:List α,(∀ s ∈ l,∃ δ1,g (f s) δ=some δ1∧c δ1=some true∧e δ1=some (h s))→d_ g c e δ (l.map f)=some (l.map h)
 | [],_=>rfl
 | s :: r,hs=>by
  obtain ⟨δ1,e1,e2,e3⟩:=hs s aB
  rw [cP,d_,e1,aL,e2,aL,if_pos rfl,e3,aL,CT f h r fun x hx=>hs x (aA _ hx)]
  rfl
theorem mX {m:Int}:(cY 0 m).length=m.toNat:=by unfold cY;rw [aX,List.length_range,Int.sub_zero]
theorem mY {m:Int} {d:D} (h:d ∈ cY 0 m):∃ k:Nat,(k:Int) < m∧d = .int (k:Int):=by
 unfold cY at h
 obtain ⟨k,hk,rfl⟩:=dO.mp h
 have:=eF.mp hk
 exact ⟨k,by omega,by rw [Int.zero_add]⟩
theorem isList:D3.isT "list" "list" = true:=rfl
mutual
theorem eqv_refl:∀ d:D,d.canLay0=true→PyData.eqv d d=true
 | .none,_=>by simp [PyData.eqv]
 | .bool b,_=>by simp [PyData.eqv]
 | .int i,_=>by simp [PyData.eqv]
 | .str x,_=>by simp [PyData.eqv]
 | .list l,h=>by
  have:=eqvAll_refl l (by simpa [PyData.canLay0] using h)
  simpa [PyData.eqv] using this
 | .tuple l,h=>by
  have:=eqvAll_refl l (by simpa [PyData.canLay0] using h)
  simpa [PyData.eqv] using this
 | .dict l,h=>by simp [PyData.canLay0] at h
theorem eqvAll_refl:∀ l:List D,PyData.canLayAll0 l=true→PyData.eqvAll l l=true
 | [],_=>by simp [PyData.eqvAll]
 | d :: r,h=>by
  rw [PyData.canLayAll0,aN] at h
  rw [PyData.eqvAll,eqv_refl d h.1,eqvAll_refl r h.2]
  rfl
end
def ly (n:Nat) (d:D):Prop:=d.canLay0=true∧d.depth ≤ n
def lys (n:Nat) (l:List D):Prop:=PyData.canLayAll0 l=true∧PyData.depthAll l ≤ n
theorem zH {n m:Nat} {d:D} (h:ly n d) (l:n ≤ m):ly m d:=⟨h.1,aV h.2 l⟩
theorem qj {n:Nat}:lys n []:=⟨by simp [PyData.canLayAll0],by simp [PyData.depthAll]⟩
theorem cg {n:Nat} {d:D} {l:List D} (h:ly n d) (q:lys n l):lys n (d :: l) :=
 ⟨by rw [PyData.canLayAll0,h.1,q.1];rfl,by have:=h.2;have:=q.2;simp only [PyData.depthAll];omega⟩
theorem ql {α:Type} {n:Nat} (f:α→D) (h:∀ a,ly n (f a)):∀ l:List α,lys n (l.map f)
 | []=>qj
 | a :: r=>cg (h a) (ql f h r)
theorem qm {n:Nat} {l:List D} (h:lys n l):ly (n + 1) (.list l):=⟨by simp [PyData.canLay0,h.1],by have:=h.2;simp only [PyData.depth];omega⟩
theorem gQ {n:Nat} {i:Int}:ly (n + 1) (.int i):=⟨rfl,by simp [PyData.depth]⟩
theorem sG {d:D} (h:ly 60 d):SeqAt.shaped d=true:=by
 unfold SeqAt.shaped
 rw [aN]
 exact ⟨h.1,dTr (by have:=h.2;omega)⟩
theorem eq_self {d:D} (h:ly 60 d):gEq d d=some (.bool true):=by
 unfold gEq
 rw [sG h,eqv_refl d h.1]
 rfl
end Com
namespace Com
open PySem D3 My
def q (t b:Int):Rat:=mkRat t b.toNat
end Com
namespace Com
open PySem D3 My
def sm (k:Nat) (x:Int):Prop:=x.natAbs < 2 ^ k
end Com
namespace Com
open PySem D3 My
structure Tb where
 N:Nat
 w:Nat→Int
 B:Int
def sumTo (f:Nat→Int):Nat→Int
 | 0=>0
 | n + 1=>sumTo f n + f n
structure TbOk (t:Tb) (k:Nat):Prop where
 B0:0 < t.B
 Bs:sm (7 * k + 1) t.B
 w0:∀ j,0 ≤ t.w j
 wB:∀ j,t.w j ≤ t.B
 wz:∀ j,t.N ≤ j→t.w j=0
 N1:1 ≤ t.N
 N4:t.N ≤ 1 + 4 * k
 sum:sumTo t.w t.N=t.B
end Com
namespace Com
open PySem D3 My
end Com
namespace Com
open PySem D3 My
structure bd (k:Nat) (a:Rat):Prop where
 n:sm k a.num
 d:sm k (a.den:Int)
end Com
namespace Com
open PySem D3 My
theorem yx {hi:Int} {i:Nat} {d:D} (h:(cY 0 hi)[i]? = some d):(i:Int) < hi∧d = .int (i:Int):=by
 unfold cY at h
 rw [bI] at h
 by_cases hi':i < (hi - 0).toNat
 ·rw [je hi'] at h
  cases h
  refine ⟨by omega,?_⟩
  show PyData.int (0 + (i:Int))=_
  rw [Int.zero_add]
 ·rw [b_ (by simpa using hi')] at h
  cases h
end Com
namespace K18
open PySem D3
noncomputable abbrev cZ:List D→Option D:=Com.cZ
noncomputable abbrev aZ:List D→Option D:=Com.aZ
noncomputable abbrev dJ:List D→Option D:=Com.dJ
noncomputable abbrev dW:List D→Option D:=Com.dW
noncomputable def dM:List D→Option D:=fnD 2 1 (dw (cL 2 (dC (.str "abcdefghijklmnopqrstuvwxyz -Z7")))
 (dY (dOp qd (dC (.str "")) (iR (jg (ao (dCall aZ (ao (ak 0) (ao (ak 1) (ao (dC (.int 0)) (ao (dC (.int 9)) (bH)))))) (bH))) (gNl 0) (gw) (dOp rR (ak 1) (dCall aZ (ao (ak 2) (ao (ak 3) (ao (dOp iw (dC (.int 1)) (ak 0)) (ao (dC (.int 30)) (bH))))))) 1 [2,0,1]))))
noncomputable def cW:List D→Option D:=fnD 2 0 (dY (dOp iy (dOp Aw (dC (.int 1)) (dOp iy (dC (.int 2)) (dCall aZ (ao (ak 0) (ao (ak 1) (ao (dC (.int 0)) (ao (dC (.int 2)) (bH)))))))) (dCall dJ (ao (ak 0) (ao (ak 1) (bH))))))
noncomputable def fO:List D→Option D:=fnD 1 0 (dY (gP (ao (gB 44 "text" (ak 0)) (ao (gB 63 "text" (ak 0)) (ao (gB 82 "text" (ak 0)) (ao (gB 101 "text" (ak 0)) (bH)))))))
noncomputable def dN:List D→Option D:=fnD 1 1 (dw (cL 1 (gP (ao (gB 120 "at" (dOp gIx (ak 0) (dC (.int 0)))) (ao (gB 139 "at" (dOp gIx (ak 0) (dC (.int 1)))) (ao (gB 158 "room" (dOp gIx (ak 0) (dC (.int 2)))) (ao (gB 177 "room" (dOp gIx (ak 0) (dC (.int 3)))) (ao (gB 196 "night" (dOp gIx (ak 0) (dC (.int 4)))) (bH))))))))
 (dY (oY (dOp gA (ak 1) (gP (ao (gB 215 "kind" (dOp gIx (ak 0) (dC (.int 5)))) (ao (gB 234 "night" (dOp gIx (ak 0) (dC (.int 6)))) (ao (gB 253 "kind" (dOp gIx (ak 0) (dC (.int 7)))) (ao (gB 272 "number" (dOp gIx (ak 0) (dC (.int 8)))) (bH))))))))))
noncomputable def eZ:List D→Option D:=fnD 1 1 (dw (cL 1 (gP (ao (gB 291 "name" (dOp gIx (ak 0) (dC (.int 0)))) (ao (gB 310 "name" (dOp gIx (ak 0) (dC (.int 1)))) (ao (gB 329 "name" (dOp gIx (ak 0) (dC (.int 2)))) (ao (gB 348 "name" (dOp gIx (ak 0) (dC (.int 3)))) (bH)))))))
 (dY (oY (dOp gA (ak 1) (gP (ao (gB 367 "name" (dOp gIx (ak 0) (dC (.int 4)))) (ao (gB 386 "name" (dOp gIx (ak 0) (dC (.int 5)))) (ao (gB 405 "name" (dOp gIx (ak 0) (dC (.int 6)))) (ao (gB 424 "name" (dOp gIx (ak 0) (dC (.int 7)))) (bH))))))))))
noncomputable def aO:List D→Option D:=fnD 1 1 (dw (cL 1 (gP (ao (dUn (gn [215,386,101,329,234,367,253,291,44,158,82,120,310,63,139,405,424,348,177,196,272] 44) (ak 0)) (ao (dUn (gn [215,386,101,329,234,367,253,291,44,158,82,120,310,63,139,405,424,348,177,196,272] 63) (ak 0)) (ao (dUn (gn [215,386,101,329,234,367,253,291,44,158,82,120,310,63,139,405,424,348,177,196,272] 82) (ak 0)) (ao (dUn (gn [215,386,101,329,234,367,253,291,44,158,82,120,310,63,139,405,424,348,177,196,272] 101) (ak 0)) (bH)))))))
 (dw (cL 1 (dOp gA (ak 1) (gP (ao (dUn (gn [215,386,101,329,234,367,253,291,44,158,82,120,310,63,139,405,424,348,177,196,272] 120) (ak 0)) (ao (dUn (gn [215,386,101,329,234,367,253,291,44,158,82,120,310,63,139,405,424,348,177,196,272] 139) (ak 0)) (ao (dUn (gn [215,386,101,329,234,367,253,291,44,158,82,120,310,63,139,405,424,348,177,196,272] 158) (ak 0)) (ao (dUn (gn [215,386,101,329,234,367,253,291,44,158,82,120,310,63,139,405,424,348,177,196,272] 177) (ak 0)) (bH))))))))
 (dw (cL 1 (dOp gA (ak 1) (gP (ao (dUn (gn [215,386,101,329,234,367,253,291,44,158,82,120,310,63,139,405,424,348,177,196,272] 196) (ak 0)) (ao (dUn (gn [215,386,101,329,234,367,253,291,44,158,82,120,310,63,139,405,424,348,177,196,272] 215) (ak 0)) (ao (dUn (gn [215,386,101,329,234,367,253,291,44,158,82,120,310,63,139,405,424,348,177,196,272] 234) (ak 0)) (ao (dUn (gn [215,386,101,329,234,367,253,291,44,158,82,120,310,63,139,405,424,348,177,196,272] 253) (ak 0)) (bH))))))))
 (dw (cL 1 (dOp gA (ak 1) (gP (ao (dUn (gn [215,386,101,329,234,367,253,291,44,158,82,120,310,63,139,405,424,348,177,196,272] 272) (ak 0)) (ao (dUn (gn [215,386,101,329,234,367,253,291,44,158,82,120,310,63,139,405,424,348,177,196,272] 291) (ak 0)) (ao (dUn (gn [215,386,101,329,234,367,253,291,44,158,82,120,310,63,139,405,424,348,177,196,272] 310) (ak 0)) (ao (dUn (gn [215,386,101,329,234,367,253,291,44,158,82,120,310,63,139,405,424,348,177,196,272] 329) (ak 0)) (bH))))))))
 (dw (cL 1 (dOp gA (ak 1) (gP (ao (dUn (gn [215,386,101,329,234,367,253,291,44,158,82,120,310,63,139,405,424,348,177,196,272] 348) (ak 0)) (ao (dUn (gn [215,386,101,329,234,367,253,291,44,158,82,120,310,63,139,405,424,348,177,196,272] 367) (ak 0)) (ao (dUn (gn [215,386,101,329,234,367,253,291,44,158,82,120,310,63,139,405,424,348,177,196,272] 386) (ak 0)) (ao (dUn (gn [215,386,101,329,234,367,253,291,44,158,82,120,310,63,139,405,424,348,177,196,272] 405) (ak 0)) (bH))))))))
 (dY (oY (dOp gA (ak 1) (gP (ao (dUn (gn [215,386,101,329,234,367,253,291,44,158,82,120,310,63,139,405,424,348,177,196,272] 424) (ak 0)) (bH)))))))))))
noncomputable def fJ:List D→Option D:=fnD 1 1 (dw (cL 1 (gP (ao (dUn (fL [120,139] "at") (dOp gIx (ak 0) (dC (.int 4)))) (ao (dUn (fL [120,139] "at") (dOp gIx (ak 0) (dC (.int 5)))) (ao (dUn (fL [158,177] "room") (dOp gIx (ak 0) (dC (.int 6)))) (ao (dUn (fL [158,177] "room") (dOp gIx (ak 0) (dC (.int 7)))) (ao (dUn (fL [234,196] "night") (dOp gIx (ak 0) (dC (.int 8)))) (ao (dUn (fL [215,253] "kind") (dOp gIx (ak 0) (dC (.int 9)))) (ao (dUn (fL [234,196] "night") (dOp gIx (ak 0) (dC (.int 10)))) (bH))))))))))
 (dw (cL 1 (dOp gA (ak 1) (gP (ao (dUn (fL [215,253] "kind") (dOp gIx (ak 0) (dC (.int 11)))) (ao (dUn (fL [272] "number") (dOp gIx (ak 0) (dC (.int 12)))) (ao (dUn (fL [386,329,367,291,310,405,424,348] "name") (dOp gIx (ak 0) (dC (.int 13)))) (ao (dUn (fL [386,329,367,291,310,405,424,348] "name") (dOp gIx (ak 0) (dC (.int 14)))) (ao (dUn (fL [386,329,367,291,310,405,424,348] "name") (dOp gIx (ak 0) (dC (.int 15)))) (ao (dUn (fL [386,329,367,291,310,405,424,348] "name") (dOp gIx (ak 0) (dC (.int 16)))) (bH))))))))))
 (dY (oY (dOp gA (ak 1) (gP (ao (dUn (fL [386,329,367,291,310,405,424,348] "name") (dOp gIx (ak 0) (dC (.int 17)))) (ao (dUn (fL [386,329,367,291,310,405,424,348] "name") (dOp gIx (ak 0) (dC (.int 18)))) (ao (dUn (fL [386,329,367,291,310,405,424,348] "name") (dOp gIx (ak 0) (dC (.int 19)))) (ao (dUn (fL [386,329,367,291,310,405,424,348] "name") (dOp gIx (ak 0) (dC (.int 20)))) (bH)))))))))))
noncomputable def aD:List D→Option D:=fnD 2 0 (dw (sIf (D3.tOr (D3.iH (bT (dUn (pH [215,386,101,329,234,367,253,291,44,158,82,120,310,63,139,405,424,348,177,196,272]) (ak 0)))) (D3.iH (bT (dUn (pH [215,386,101,329,234,367,253,291,44,158,82,120,310,63,139,405,424,348,177,196,272]) (ak 0))))) (dY (dC (.bool false))) (iM))
 (dY (dOp gEq (dCall aO (ao (ak 0) (bH))) (iR (jg (ao (dC (.int 21)) (bH))) (gNl 0) (gw) (dOp gEq (ak 0) (ak 1)) 1 [1]))))
noncomputable def bA:List D→Option D:=fnD 3 2 (dw (cL 3 (dC (.none)))
 (dw (lY 4 3 (xIf (bT (dOp gEq (ak 0) (dC (.int 0)))) (cR "NoStay" (ak 1)) (xIf (bT (dOp gEq (ak 0) (dC (.int 1)))) (cR "TooFull" (ak 1)) (xIf (bT (dOp gEq (ak 0) (dC (.int 2)))) (cR "NoName" (ak 2)) (cR "NotTaken" (ak 2))))) (fun c=>bV c [("NoStay", 120, "at"),("TooFull", 196, "night"),("NoName", 291, "name"),("NotTaken", 405, "name")]))
 (dw (sIf (D3.tOr (bT (dUn Ay (ak 3))) (D3.iH (bT (dCall aD (ao (ak 3) (ao (dOp gIx (gP (ao (dC (.int 4)) (ao (dC (.int 8)) (ao (dC (.int 13)) (ao (dC (.int 19)) (bH)))))) (ak 0)) (bH))))))) (dY (dC (.bool false))) (iM))
 (dw (sIf (bT (dOp gEq (ak 0) (dC (.int 0)))) (dY (dOp gEq (dUn (fL [120,139] "at") (ak 3)) (ak 1))) (iM))
 (dw (sIf (bT (dOp gEq (ak 0) (dC (.int 1)))) (dY (dOp gEq (dUn (fL [234,196] "night") (ak 3)) (ak 1))) (iM))
 (dY (dOp gEq (dUn (fL [386,329,367,291,310,405,424,348] "name") (ak 3)) (ak 2))))))))
noncomputable def eE:List D→Option D:=fnD 3 1 (dw (cL 3 (dCall fJ (ao (ak 0) (bH))))
 (dw (sIf (D3.tOr (D3.iH (bT (dCall nG (ao (iR (tQ (dSl (ak 3) jh (gk (dC (.int 9))))) (gNl 0) (gw) (dCall dW (ao (ak 0) (bH))) 1 []) (bH))))) (D3.iH (bT (dCall nG (ao (iR (tQ (dSl (ak 3) (gk (dC (.int 9))) jh)) (gNl 0) (gw) (dUn (gIs "str") (ak 0)) 1 []) (bH)))))) (dY (dC (.bool false))) (iM))
 (dY (dOp gEq (ak 3) (dOp gA (ak 1) (ak 2))))))
noncomputable def qp:List D→Option D:=fnD 1 6 (dw (cL 1 (iR (jg (ao (dC (.int 18)) (bH))) (gNl 0) (gw) (dCall cW (ao (ak 1) (ao (ak 0) (bH)))) 1 [0]))
 (dw (cL 2 (iR (jg (ao (dC (.int 18)) (bH))) (gNl 0) (gw) (dCall dM (ao (ak 1) (ao (dOp iw (dC (.int 18)) (ak 0)) (bH)))) 1 [0]))
 (dw (cL 3 (dOp gA (dOp gA (dCall fO (ao (dOp gIx (ak 2) (dC (.int 16))) (bH))) (dCall dN (ao (dSl (ak 1) jh (gk (dC (.int 9)))) (bH)))) (dCall eZ (ao (dSl (ak 2) jh (gk (dC (.int 8)))) (bH)))))
 (dw (cL 4 (dOp gA (dOp gA (dCall fO (ao (dOp gIx (ak 2) (dC (.int 17))) (bH))) (dCall dN (ao (dSl (ak 1) (gk (dC (.int 9))) jh) (bH)))) (dCall eZ (ao (dSl (ak 2) (gk (dC (.int 8))) (gk (dC (.int 16)))) (bH)))))
 (dw (tO (jg (ao (dC (.int 21)) (bH))) (gNl 5) (sIf (D3.tOr (D3.iH (bT (dCall aD (ao (dOp gIx (ak 3) (ak 5)) (ao (ak 5) (bH)))))) (D3.iH (bT (dCall aD (ao (dOp gIx (ak 4) (ak 5)) (ao (ak 5) (bH))))))) (dY (dC (.bool false))) (iM)))
 (dw (sIf (D3.iH (bT (dCall nG (ao (iR (jg (ao (dC (.int 4)) (bH))) (gNl 0) (gw) (dCall bA (ao (ak 0) (ao (dOp gIx (ak 1) (ak 0)) (ao (dOp gIx (ak 2) (ak 0)) (bH))))) 1 [1,2]) (bH))))) (dY (dC (.bool false))) (iM))
 (dw (cL 6 (dOp gIx (gP (ao (dC (.none)) (ao (dC (.bool true)) (ao (dTup (ao (dC (.int 1)) (ao (dC (.int 2)) (bH)))) (ao (gP (ao (dC (.int 3)) (bH))) (ao (dC (.dict [])) (bH))))))) (dCall aZ (ao (ak 0) (ao (dC (.int 36)) (ao (dC (.int 0)) (ao (dC (.int 5)) (bH))))))))
 (dw (sIf (D3.tOr (bT (dOp uH (ak 6) (ak 6))) (bT (dOp uH (ak 6) (ak 6)))) (dY (dC (.bool false))) (iM))
 (dY (tM (dCall eE (ao (ak 4) (ao (dSl (ak 1) (gk (dC (.int 9))) jh) (ao (dSl (ak 2) (gk (dC (.int 8))) (gk (dC (.int 16)))) (bH))))) (dCall eE (ao (ak 3) (ao (dSl (ak 1) jh (gk (dC (.int 9)))) (ao (dSl (ak 2) jh (gk (dC (.int 8)))) (bH)))))))))))))))
end K18
namespace K18
open PySem D3 My Com
def CV (ns:List Int) (i:Int):Int:=if i < (ns.length:Int) then ns.getD i.toNat 0 % 10 ^ 60 else fj ns i 59 (10 ^ 6) * 10 ^ 40 + fj ns i 60 (10 ^ 6)
theorem yC {ns:List Int} {i:Int} (h0:0 ≤ i):dJ [.list (ns.map .int),.int i]=some (.int (CV ns i)):=by
 show Com.dJ _=_
 unfold Com.dJ CV
 by_cases h:i < (ns.length:Int)
 ·rw [if_pos h]
  simp only [EV,reduceIte,aC,aF,aq,au,aG,aH,aJ,lMp,dTr h,iW h0 h,GD,lq (show (0:Int) < 10 ^ 60 by decide)]
 ·rw [if_neg h]
  have b:=fM ns i 59 (m:=10 ^ 6) (by decide)
  simp only [EV,reduceIte,aC,aF,aq,au,aG,aH,aJ,lMp,dFa h,uX,HX,fZ (ns:=ns) h0 (show (0:Int) ≤ 59 by decide) (show (59:Int) ≤ 1000 by decide) (show (0:Int) < 10 ^ 6 by decide),fZ (ns:=ns) h0 (show (0:Int) ≤ 60 by decide) (show (60:Int) ≤ 1000 by decide) (show (0:Int) < 10 ^ 6 by decide)]
  rw [mulL (by omega) (by have:(10:Int) ^ 6=1000000:=by decide
                          omega)]
  simp only [EV,reduceIte,aC,aF,aq,au,aG,aH,aJ]
theorem pJ (ns:List Int) {i:Int} (h0:0 ≤ i):∃ z:Int,cW [.list (ns.map .int),.int i]=some (.int z):=by
 have P:Com.aZ [.list (ns.map .int),.int i,.int 0,.int 2]=some (.int (fj ns i 0 2)):=fZ h0 (by decide) (by decide) (by decide)
 have R:=fM ns i 0 (m:=2) (by decide)
 generalize fj ns i 0 2=p at P R
 refine ⟨(1 - 2 * p) * CV ns i,?_⟩
 unfold cW
 simp only [EV,reduceIte,aC,aF,aq,au,aG,aH,aJ,P,yC h0,mulL (show -18446744073709551616 < (2:Int) by decide) (show (2:Int) < 18446744073709551616 by decide),mulL (show -18446744073709551616 < 1 - 2 * p by omega) (show 1 - 2 * p < 18446744073709551616 by omega)]
def cX (x:Str):Prop:=x.cps.all (· < 0x110000)=true
def ch (c:Nat):Str:=⟨#[c]⟩
theorem qt (a b:Array Nat) (p:Nat→Bool):(a++b).all p=(a.all p && b.all p):=Array.all_append ..
theorem qu:∀ l:List Nat,(∀ c ∈ l,c < 0x110000)→cX (Str.join (Str.ofString "") (l.map ch))
 | [],_=>by
  show (#[]:Array Nat).all (· < 0x110000)=true
  simp
 | [c],h=>by
  have:=h c aB
  show (#[c]:Array Nat).all (· < 0x110000)=true
  simp [this]
 | c :: k :: l,h=>by
  have hc:=h c aB
  have ih:=qu (k :: l) fun x hx=>h x (aA _ hx)
  show ((#[c]++(Str.ofString "").cps)++(Str.join (Str.ofString "") ((k :: l).map ch)).cps).all (· < 0x110000)=true
  unfold cX at ih
  rw [qt,qt,ih]
  have e:(Str.ofString "").cps = #[]:=by decide +kernel
  rw [e]
  simp [hc]
def lets:Str := "abcdefghijklmnopqrstuvwxyz -Z7"
theorem yD:∀ i:Nat,i < 30→∃ c,L2.atI lets.cps.toList (i:Int)=some c∧c < 0x110000:=by decide +kernel
theorem uY (ns:List Int) {i:Int} (h0:0 ≤ i):∃ x:Str,cX x∧dM [.list (ns.map .int),.int i]=some (.str x):=by
 have P:Com.aZ [.list (ns.map .int),.int i,.int 0,.int 9]=some (.int (fj ns i 0 9)):=fZ h0 (by decide) (by decide) (by decide)
 have R:=fM ns i 0 (m:=9) (by decide)
 generalize fj ns i 0 9=p at P R
 have rr:lZ (some [.int p])=some (cY 0 p):=Cq (by omega) (by omega)
 obtain ⟨cs,lc,hc,C⟩:=cEx (g:=(gNl 0)) (c:=(D3.gw)) (e:=(dOp rR (ak 1) (dCall aZ (ao (ak 2) (ao (ak 3) (ao (dOp iw (dC (.int 1)) (ak 0)) (ao (dC (.int 30)) (bH)))))))) (δ:=[none,some (.d (.str lets)),some (.d (.list (ns.map .int))),some (.d (.int i))]) (fun c:Nat=>PyData.str (ch c)) (fun c=>c < 0x110000) (cY 0 p) (fun d hd=>by
  obtain ⟨k,hk,rfl⟩:=mY hd
  have Q:Com.aZ [.list (ns.map .int),.int i,.int (1 + (k:Int)),.int 30]=some (.int (fj ns i (1 + (k:Int)) 30)):=fZ h0 (by omega) (by omega) (by decide)
  have R2:=fM ns i (1 + (k:Int)) (m:=30) (by decide)
  generalize fj ns i (1 + (k:Int)) 30=q at Q R2
  obtain ⟨c,e1,e2⟩:=yD q.toNat (by omega)
  rw [show ((q.toNat:Nat):Int)=q by omega] at e1
  refine ⟨[some (.d (.int (k:Int))),some (.d (.str lets)),some (.d (.list (ns.map .int))),some (.d (.int i))],c,rfl,rfl,e2,?_⟩
  have ix:rR (.str lets) (.int q)=some (.str (ch c)):=by
   show (if lets.length ≤ 1000000 then (L2.atI lets.cps.toList q).map fun c=>PyData.str ⟨#[c]⟩ else none)=_
   rw [if_pos (by decide +kernel),e1]
   rfl
  simp only [EV,reduceIte,aC,aF,aq,au,aG,aH,aJ,Q,ix])
 rw [mX] at lc
 have gj:qd (.str "") (.list (cs.map fun c:Nat=>PyData.str (ch c)))=some (.str (Txt.join "" (cs.map ch))):=by
  show (jL (cs.map fun c:Nat=>PyData.str (ch c))).bind _=_
  have:(cs.map fun c:Nat=>PyData.str (ch c))=(cs.map ch).map PyData.str:=by rw [List.map_map];rfl
  rw [this,strs_map,aL,if_pos]
  refine ⟨by rw [aX,aX];omega,cj.mpr fun t ht=>?_,by decide +kernel⟩
  obtain ⟨c,_,rfl⟩:=dO.mp ht
  have:(Str.ofString "").length=0:=by decide +kernel
  exact dTr (by rw [this];show 1 + 0 ≤ 16;decide)
 refine ⟨Txt.join "" (cs.map ch),?_,?_⟩
 ·show cX (Builtin.Str.glued (Str.ofString "") (cs.map ch))
  rw [StrLaws.glued_eq_join]
  exact qu cs hc
 have ca:∀ a b c:Option U,jx 1 [2,0,1] [a,b,c]=[none,c,a,b]:=fun _ _ _=>rfl
 have ll:(cY 0 p).length ≤ 100000:=by rw [mX];omega
 have C:d_ (gNl 0) (D3.gw) (dOp rR (ak 1) (dCall aZ (ao (ak 2) (ao (ak 3) (ao (dOp iw (dC (.int 1)) (ak 0)) (ao (dC (.int 30)) (bH))))))) [none,some (.d (.str "abcdefghijklmnopqrstuvwxyz -Z7")),some (.d (.list (ns.map .int))),some (.d (.int i))] (cY 0 p)=some (cs.map fun c:Nat=>PyData.str (ch c)):=C
 unfold dM
 simp only [EV,reduceIte,aC,aF,aq,au,aG,aH,aJ,P,rr,ca,ll,C,gj]
def Cs:List Nat:=[44,63,82,101,120,139,158,177,196,215,234,253,272,291,310,329,348,367,386,405,424]
theorem n_ (x:Str):fO [.str x]=some (.list [exD 44 "text" (.str x),exD 63 "text" (.str x),exD 82 "text" (.str x),exD 101 "text" (.str x)]):=rfl
theorem jM (z0 z1 z2 z3 z4 z5 z6 z7 z8:Int):dN [.list [.int z0,.int z1,.int z2,.int z3,.int z4,.int z5,.int z6,.int z7,.int z8]]=some (.list [exD 120 "at" (.int z0),exD 139 "at" (.int z1),exD 158 "room" (.int z2),exD 177 "room" (.int z3),exD 196 "night" (.int z4),exD 215 "kind" (.int z5),exD 234 "night" (.int z6),exD 253 "kind" (.int z7),exD 272 "number" (.int z8)]):=rfl
theorem mq (t0 t1 t2 t3 t4 t5 t6 t7:Str):eZ [.list [.str t0,.str t1,.str t2,.str t3,.str t4,.str t5,.str t6,.str t7]]=some (.list [exD 291 "name" (.str t0),exD 310 "name" (.str t1),exD 329 "name" (.str t2),exD 348 "name" (.str t3),exD 367 "name" (.str t4),exD 386 "name" (.str t5),exD 405 "name" (.str t6),exD 424 "name" (.str t7)]):=rfl
def bools (k:Nat):D:=.list ((fu 21).map fun i=>.bool (decide (i=k)))
theorem yE (d:D):aO [exD 44 "text" d]=some (bools 0):=rfl
theorem yF (d:D):aO [exD 63 "text" d]=some (bools 1):=rfl
theorem yG (d:D):aO [exD 82 "text" d]=some (bools 2):=rfl
theorem yH (d:D):aO [exD 101 "text" d]=some (bools 3):=rfl
theorem yI (d:D):aO [exD 120 "at" d]=some (bools 4):=rfl
theorem yJ (d:D):aO [exD 139 "at" d]=some (bools 5):=rfl
theorem yK (d:D):aO [exD 158 "room" d]=some (bools 6):=rfl
theorem yL (d:D):aO [exD 177 "room" d]=some (bools 7):=rfl
theorem yM (d:D):aO [exD 196 "night" d]=some (bools 8):=rfl
theorem yN (d:D):aO [exD 215 "kind" d]=some (bools 9):=rfl
theorem uZ (d:D):aO [exD 234 "night" d]=some (bools 10):=rfl
theorem u5 (d:D):aO [exD 253 "kind" d]=some (bools 11):=rfl
theorem u6 (d:D):aO [exD 272 "number" d]=some (bools 12):=rfl
theorem u9 (d:D):aO [exD 291 "name" d]=some (bools 13):=rfl
theorem u_ (d:D):aO [exD 310 "name" d]=some (bools 14):=rfl
theorem vd (d:D):aO [exD 329 "name" d]=some (bools 15):=rfl
theorem vf (d:D):aO [exD 348 "name" d]=some (bools 16):=rfl
theorem vg (d:D):aO [exD 367 "name" d]=some (bools 17):=rfl
theorem vh (d:D):aO [exD 386 "name" d]=some (bools 18):=rfl
theorem vm (d:D):aO [exD 405 "name" d]=some (bools 19):=rfl
theorem vo (d:D):aO [exD 424 "name" d]=some (bools 20):=rfl
theorem CW:∀ k:Nat,k < 21→d_ (gNl 0) D3.gw (dOp gEq (ak 0) (ak 1)) [none,some (.d (.int (k:Int)))] (cY 0 21)=some ((fu 21).map fun i=>PyData.bool (decide (i=k))):=by
 intro k hk
 have e:cY 0 21=(fu 21).map fun i:Nat=>PyData.int (i:Int):=rfl
 rw [e]
 exact CT (fun i:Nat=>PyData.int (i:Int)) (fun i:Nat=>PyData.bool (decide (i=k))) _ fun i _=>⟨[some (.d (.int (i:Int))),some (.d (.int (k:Int)))],rfl,rfl,by
  show gEq (.int (i:Int)) (.int (k:Int))=_
  rw [zF]
  congr 2
  exact decide_eq_decide.mpr (by omega)⟩
theorem vp (k:Nat):ly 60 (bools k):=zH (qm (ql (n:=1) (fun i:Nat=>PyData.bool (decide (i=k))) (fun _=>⟨rfl,by simp [PyData.depth]⟩) _)) (by decide)
theorem bG {e:D} {k:Nat} (hk:k < 21) (h1:pH [215,386,101,329,234,367,253,291,44,158,82,120,310,63,139,405,424,348,177,196,272] e=some (.bool true)) (h2:aO [e]=some (bools k)):aD [e,.int (k:Int)]=some (.bool true):=by
 have rr:lZ (some [.int 21])=some (cY 0 21):=rfl
 have ca:∀ a b:Option U,jx 1 [1] [a,b]=[none,b]:=fun _ _=>rfl
 have ll:(cY 0 21).length ≤ 100000:=by decide
 have C:=CW k hk
 have q:=Com.eq_self (vp k)
 unfold aD
 simp only [EV,reduceIte,aC,aF,aq,au,aG,aH,aJ,h1,h2,rr,ca,ll,C]
 exact q
theorem qw (d:D):aD [exD 44 "text" d,.int 0]=some (.bool true):=bG (k:=0) (by decide) rfl (yE d)
theorem qx (d:D):aD [exD 63 "text" d,.int 1]=some (.bool true):=bG (k:=1) (by decide) rfl (yF d)
theorem qy (d:D):aD [exD 82 "text" d,.int 2]=some (.bool true):=bG (k:=2) (by decide) rfl (yG d)
theorem qz (d:D):aD [exD 101 "text" d,.int 3]=some (.bool true):=bG (k:=3) (by decide) rfl (yH d)
theorem mZ (d:D):aD [exD 120 "at" d,.int 4]=some (.bool true):=bG (k:=4) (by decide) rfl (yI d)
theorem qH (d:D):aD [exD 139 "at" d,.int 5]=some (.bool true):=bG (k:=5) (by decide) rfl (yJ d)
theorem qJ (d:D):aD [exD 158 "room" d,.int 6]=some (.bool true):=bG (k:=6) (by decide) rfl (yK d)
theorem qM (d:D):aD [exD 177 "room" d,.int 7]=some (.bool true):=bG (k:=7) (by decide) rfl (yL d)
theorem m5 (d:D):aD [exD 196 "night" d,.int 8]=some (.bool true):=bG (k:=8) (by decide) rfl (yM d)
theorem qQ (d:D):aD [exD 215 "kind" d,.int 9]=some (.bool true):=bG (k:=9) (by decide) rfl (yN d)
theorem oh (d:D):aD [exD 234 "night" d,.int 10]=some (.bool true):=bG (k:=10) (by decide) rfl (uZ d)
theorem ou (d:D):aD [exD 253 "kind" d,.int 11]=some (.bool true):=bG (k:=11) (by decide) rfl (u5 d)
theorem oA (d:D):aD [exD 272 "number" d,.int 12]=some (.bool true):=bG (k:=12) (by decide) rfl (u6 d)
theorem kO (d:D):aD [exD 291 "name" d,.int 13]=some (.bool true):=bG (k:=13) (by decide) rfl (u9 d)
theorem oE (d:D):aD [exD 310 "name" d,.int 14]=some (.bool true):=bG (k:=14) (by decide) rfl (u_ d)
theorem oF (d:D):aD [exD 329 "name" d,.int 15]=some (.bool true):=bG (k:=15) (by decide) rfl (vd d)
theorem oG (d:D):aD [exD 348 "name" d,.int 16]=some (.bool true):=bG (k:=16) (by decide) rfl (vf d)
theorem oH (d:D):aD [exD 367 "name" d,.int 17]=some (.bool true):=bG (k:=17) (by decide) rfl (vg d)
theorem oJ (d:D):aD [exD 386 "name" d,.int 18]=some (.bool true):=bG (k:=18) (by decide) rfl (vh d)
theorem kW (d:D):aD [exD 405 "name" d,.int 19]=some (.bool true):=bG (k:=19) (by decide) rfl (vm d)
theorem oK (d:D):aD [exD 424 "name" d,.int 20]=some (.bool true):=bG (k:=20) (by decide) rfl (vo d)
theorem jA (z:Int):gEq (.int z) (.int z)=some (.bool true):=Com.eq_self gQ
theorem CZ {x:Str} (h:cX x):ly 60 (.str x):=⟨h,by simp [PyData.depth]⟩
theorem gO {n:Nat} {x:Str} (h:cX x):ly (n + 1) (.str x):=⟨h,by simp [PyData.depth]⟩
theorem jB {x:Str} (h:cX x):gEq (.str x) (.str x)=some (.bool true):=Com.eq_self (CZ h)
theorem vq (z:Int) {t:Str} (ht:cX t):bA [.int 0,.int z,.str t]=some (.bool true):=by
 have tr:lY 4 3 (xIf (bT (dOp gEq (ak 0) (dC (.int 0)))) (cR "NoStay" (ak 1)) (xIf (bT (dOp gEq (ak 0) (dC (.int 1)))) (cR "TooFull" (ak 1)) (xIf (bT (dOp gEq (ak 0) (dC (.int 2)))) (cR "NoName" (ak 2)) (cR "NotTaken" (ak 2))))) (fun c=>bV c [("NoStay", 120, "at"),("TooFull", 196, "night"),("NoName", 291, "name"),("NotTaken", 405, "name")]) [some (.d (.int 0)),some (.d (.int z)),some (.d (.str t)),some (.d .none),none]=some (.nx [some (.d (.int 0)),some (.d (.int z)),some (.d (.str t)),some (.d (exD 120 "at" (.int z))),none]):=rfl
 have al:=mZ (.int z)
 have at1:fL [120,139] "at" (exD 120 "at" (.int z))=some (.int z):=rfl
 have ix:∀ a b c d:D,gIx (.list [a,b,c,d]) (.int 0)=some a:=fun _ _ _ _=>rfl
 have nn:isNone (exD 120 "at" (.int z))=false:=rfl
 have si:=jA z
 have ss:=jB ht
 have c0:gEq (.int 0) (.int 0)=some (.bool true):=rfl
 have c1:gEq (.int 0) (.int 1)=some (.bool false):=rfl
 unfold bA
 simp only [EV,reduceIte,aC,aF,aq,au,aG,aH,aJ,tr,nn,ix,al,at1,c0,c1,si,ss,Com.sz (show 4 ≤ 1000000 by decide)]
theorem vA (z:Int) {t:Str} (ht:cX t):bA [.int 1,.int z,.str t]=some (.bool true):=by
 have tr:lY 4 3 (xIf (bT (dOp gEq (ak 0) (dC (.int 0)))) (cR "NoStay" (ak 1)) (xIf (bT (dOp gEq (ak 0) (dC (.int 1)))) (cR "TooFull" (ak 1)) (xIf (bT (dOp gEq (ak 0) (dC (.int 2)))) (cR "NoName" (ak 2)) (cR "NotTaken" (ak 2))))) (fun c=>bV c [("NoStay", 120, "at"),("TooFull", 196, "night"),("NoName", 291, "name"),("NotTaken", 405, "name")]) [some (.d (.int 1)),some (.d (.int z)),some (.d (.str t)),some (.d .none),none]=some (.nx [some (.d (.int 1)),some (.d (.int z)),some (.d (.str t)),some (.d (exD 196 "night" (.int z))),none]):=rfl
 have al:=m5 (.int z)
 have at1:fL [234,196] "night" (exD 196 "night" (.int z))=some (.int z):=rfl
 have ix:∀ a b c d:D,gIx (.list [a,b,c,d]) (.int 1)=some b:=fun _ _ _ _=>rfl
 have nn:isNone (exD 196 "night" (.int z))=false:=rfl
 have si:=jA z
 have ss:=jB ht
 have c0:gEq (.int 1) (.int 0)=some (.bool false):=rfl
 have c1:gEq (.int 1) (.int 1)=some (.bool true):=rfl
 unfold bA
 simp only [EV,reduceIte,aC,aF,aq,au,aG,aH,aJ,tr,nn,ix,al,at1,c0,c1,si,ss,Com.sz (show 4 ≤ 1000000 by decide)]
theorem vC (z:Int) {t:Str} (ht:cX t):bA [.int 2,.int z,.str t]=some (.bool true):=by
 have tr:lY 4 3 (xIf (bT (dOp gEq (ak 0) (dC (.int 0)))) (cR "NoStay" (ak 1)) (xIf (bT (dOp gEq (ak 0) (dC (.int 1)))) (cR "TooFull" (ak 1)) (xIf (bT (dOp gEq (ak 0) (dC (.int 2)))) (cR "NoName" (ak 2)) (cR "NotTaken" (ak 2))))) (fun c=>bV c [("NoStay", 120, "at"),("TooFull", 196, "night"),("NoName", 291, "name"),("NotTaken", 405, "name")]) [some (.d (.int 2)),some (.d (.int z)),some (.d (.str t)),some (.d .none),none]=some (.nx [some (.d (.int 2)),some (.d (.int z)),some (.d (.str t)),some (.d (exD 291 "name" (.str t))),none]):=rfl
 have al:=kO (.str t)
 have at1:fL [386,329,367,291,310,405,424,348] "name" (exD 291 "name" (.str t))=some (.str t):=rfl
 have ix:∀ a b c d:D,gIx (.list [a,b,c,d]) (.int 2)=some c:=fun _ _ _ _=>rfl
 have nn:isNone (exD 291 "name" (.str t))=false:=rfl
 have si:=jA z
 have ss:=jB ht
 have c0:gEq (.int 2) (.int 0)=some (.bool false):=rfl
 have c1:gEq (.int 2) (.int 1)=some (.bool false):=rfl
 unfold bA
 simp only [EV,reduceIte,aC,aF,aq,au,aG,aH,aJ,tr,nn,ix,al,at1,c0,c1,si,ss,Com.sz (show 4 ≤ 1000000 by decide)]
theorem vD (z:Int) {t:Str} (ht:cX t):bA [.int 3,.int z,.str t]=some (.bool true):=by
 have tr:lY 4 3 (xIf (bT (dOp gEq (ak 0) (dC (.int 0)))) (cR "NoStay" (ak 1)) (xIf (bT (dOp gEq (ak 0) (dC (.int 1)))) (cR "TooFull" (ak 1)) (xIf (bT (dOp gEq (ak 0) (dC (.int 2)))) (cR "NoName" (ak 2)) (cR "NotTaken" (ak 2))))) (fun c=>bV c [("NoStay", 120, "at"),("TooFull", 196, "night"),("NoName", 291, "name"),("NotTaken", 405, "name")]) [some (.d (.int 3)),some (.d (.int z)),some (.d (.str t)),some (.d .none),none]=some (.nx [some (.d (.int 3)),some (.d (.int z)),some (.d (.str t)),some (.d (exD 405 "name" (.str t))),none]):=rfl
 have al:=kW (.str t)
 have at1:fL [386,329,367,291,310,405,424,348] "name" (exD 405 "name" (.str t))=some (.str t):=rfl
 have ix:∀ a b c d:D,gIx (.list [a,b,c,d]) (.int 3)=some d:=fun _ _ _ _=>rfl
 have nn:isNone (exD 405 "name" (.str t))=false:=rfl
 have si:=jA z
 have ss:=jB ht
 have c0:gEq (.int 3) (.int 0)=some (.bool false):=rfl
 have c1:gEq (.int 3) (.int 1)=some (.bool false):=rfl
 unfold bA
 simp only [EV,reduceIte,aC,aF,aq,au,aG,aH,aJ,tr,nn,ix,al,at1,c0,c1,si,ss,Com.sz (show 4 ≤ 1000000 by decide)]
section
variable {x:Str} {z0 z1 z2 z3 z4 z5 z6 z7 z8:Int} {t0 t1 t2 t3 t4 t5 t6 t7:Str}
theorem pK:fJ [.list [exD 44 "text" (.str x),exD 63 "text" (.str x),exD 82 "text" (.str x),exD 101 "text" (.str x),exD 120 "at" (.int z0),exD 139 "at" (.int z1),exD 158 "room" (.int z2),exD 177 "room" (.int z3),exD 196 "night" (.int z4),exD 215 "kind" (.int z5),exD 234 "night" (.int z6),exD 253 "kind" (.int z7),exD 272 "number" (.int z8),exD 291 "name" (.str t0),exD 310 "name" (.str t1),exD 329 "name" (.str t2),exD 348 "name" (.str t3),exD 367 "name" (.str t4),exD 386 "name" (.str t5),exD 405 "name" (.str t6),exD 424 "name" (.str t7)]]=some (.list [.int z0,.int z1,.int z2,.int z3,.int z4,.int z5,.int z6,.int z7,.int z8,.str t0,.str t1,.str t2,.str t3,.str t4,.str t5,.str t6,.str t7]):=rfl
theorem oM (h0:cX t0) (h1:cX t1) (h2:cX t2) (h3:cX t3) (h4:cX t4) (h5:cX t5) (h6:cX t6) (h7:cX t7):eE [.list [exD 44 "text" (.str x),exD 63 "text" (.str x),exD 82 "text" (.str x),exD 101 "text" (.str x),exD 120 "at" (.int z0),exD 139 "at" (.int z1),exD 158 "room" (.int z2),exD 177 "room" (.int z3),exD 196 "night" (.int z4),exD 215 "kind" (.int z5),exD 234 "night" (.int z6),exD 253 "kind" (.int z7),exD 272 "number" (.int z8),exD 291 "name" (.str t0),exD 310 "name" (.str t1),exD 329 "name" (.str t2),exD 348 "name" (.str t3),exD 367 "name" (.str t4),exD 386 "name" (.str t5),exD 405 "name" (.str t6),exD 424 "name" (.str t7)],.list [.int z0,.int z1,.int z2,.int z3,.int z4,.int z5,.int z6,.int z7,.int z8],.list [.str t0,.str t1,.str t2,.str t3,.str t4,.str t5,.str t6,.str t7]]=some (.bool true):=by
 have V:=pK (x:=x) (z0:=z0) (z1:=z1) (z2:=z2) (z3:=z3) (z4:=z4) (z5:=z5) (z6:=z6) (z7:=z7) (z8:=z8) (t0:=t0) (t1:=t1) (t2:=t2) (t3:=t3) (t4:=t4) (t5:=t5) (t6:=t6) (t7:=t7)
 have k1:cutD [.int z0,.int z1,.int z2,.int z3,.int z4,.int z5,.int z6,.int z7,.int z8,.str t0,.str t1,.str t2,.str t3,.str t4,.str t5,.str t6,.str t7] none (some 9)=[.int z0,.int z1,.int z2,.int z3,.int z4,.int z5,.int z6,.int z7,.int z8]:=rfl
 have k2:cutD [.int z0,.int z1,.int z2,.int z3,.int z4,.int z5,.int z6,.int z7,.int z8,.str t0,.str t1,.str t2,.str t3,.str t4,.str t5,.str t6,.str t7] (some 9) none=[.str t0,.str t1,.str t2,.str t3,.str t4,.str t5,.str t6,.str t7]:=rfl
 have C1:d_ (gNl 0) (D3.gw) (dCall dW (ao (ak 0) (bH))) [none] [.int z0,.int z1,.int z2,.int z3,.int z4,.int z5,.int z6,.int z7,.int z8]=some [.bool true,.bool true,.bool true,.bool true,.bool true,.bool true,.bool true,.bool true,.bool true]:=rfl
 have C2:d_ (gNl 0) (D3.gw) (dUn (gIs "str") (ak 0)) [none] [.str t0,.str t1,.str t2,.str t3,.str t4,.str t5,.str t6,.str t7]=some [.bool true,.bool true,.bool true,.bool true,.bool true,.bool true,.bool true,.bool true]:=rfl
 have g1:nG [.list [.bool true,.bool true,.bool true,.bool true,.bool true,.bool true,.bool true,.bool true,.bool true]]=some (.bool true):=rfl
 have g2:nG [.list [.bool true,.bool true,.bool true,.bool true,.bool true,.bool true,.bool true,.bool true]]=some (.bool true):=rfl
 have gc:gA (.list [.int z0,.int z1,.int z2,.int z3,.int z4,.int z5,.int z6,.int z7,.int z8]) (.list [.str t0,.str t1,.str t2,.str t3,.str t4,.str t5,.str t6,.str t7])=some (.list [.int z0,.int z1,.int z2,.int z3,.int z4,.int z5,.int z6,.int z7,.int z8,.str t0,.str t1,.str t2,.str t3,.str t4,.str t5,.str t6,.str t7]):=rfl
 have ca:∀ a b c d:Option U,jx 1 [] [a,b,c,d]=[none]:=fun _ _ _ _=>rfl
 have q:gEq (.list [.int z0,.int z1,.int z2,.int z3,.int z4,.int z5,.int z6,.int z7,.int z8,.str t0,.str t1,.str t2,.str t3,.str t4,.str t5,.str t6,.str t7]) (.list [.int z0,.int z1,.int z2,.int z3,.int z4,.int z5,.int z6,.int z7,.int z8,.str t0,.str t1,.str t2,.str t3,.str t4,.str t5,.str t6,.str t7])=some (.bool true):=Com.eq_self (zH (m:=60) (qm (n:=58) (cg gQ (cg gQ (cg gQ (cg gQ (cg gQ (cg gQ (cg gQ (cg gQ (cg gQ (cg (gO h0) (cg (gO h1) (cg (gO h2) (cg (gO h3) (cg (gO h4) (cg (gO h5) (cg (gO h6) (cg (gO h7) (qj))))))))))))))))))) (by decide))
 unfold eE
 simp only [EV,reduceIte,aC,aF,aq,au,aG,aH,aJ,V,k1,k2,C1,C2,g1,g2,gc,ca,show 9 ≤ 100000 by decide,show 8 ≤ 100000 by decide,q]
end
theorem vG:∀ p:Nat,p < 5→∃ d,gIx (.list [.none,.bool true,.tuple [.int 1,.int 2],.list [.int 3],.dict []]) (.int (p:Int))=some d∧uH d d=some (.bool false)
 | 0,_=>⟨_,rfl,rfl⟩
 | 1,_=>⟨_,rfl,rfl⟩
 | 2,_=>⟨_,rfl,rfl⟩
 | 3,_=>⟨_,rfl,rfl⟩
 | 4,_=>⟨_,rfl,rfl⟩
 | p + 5,h=>absurd h (by omega)
section
variable {z0 z1 z2 z3 z4 z5 z6 z7 z8 z9 z10 z11 z12 z13 z14 z15 z16 z17:Int} {t0 t1 t2 t3 t4 t5 t6 t7 t8 t9 t10 t11 t12 t13 t14 t15 t16 t17:Str}
theorem atA:∀ i:Nat,i < 21→∃ e,gIx (.list [exD 44 "text" (.str t16),exD 63 "text" (.str t16),exD 82 "text" (.str t16),exD 101 "text" (.str t16),exD 120 "at" (.int z0),exD 139 "at" (.int z1),exD 158 "room" (.int z2),exD 177 "room" (.int z3),exD 196 "night" (.int z4),exD 215 "kind" (.int z5),exD 234 "night" (.int z6),exD 253 "kind" (.int z7),exD 272 "number" (.int z8),exD 291 "name" (.str t0),exD 310 "name" (.str t1),exD 329 "name" (.str t2),exD 348 "name" (.str t3),exD 367 "name" (.str t4),exD 386 "name" (.str t5),exD 405 "name" (.str t6),exD 424 "name" (.str t7)]) (.int (i:Int))=some e∧aD [e,.int (i:Int)]=some (.bool true)
 | 0,_=>⟨_,rfl,qw _⟩
 | 1,_=>⟨_,rfl,qx _⟩
 | 2,_=>⟨_,rfl,qy _⟩
 | 3,_=>⟨_,rfl,qz _⟩
 | 4,_=>⟨_,rfl,mZ _⟩
 | 5,_=>⟨_,rfl,qH _⟩
 | 6,_=>⟨_,rfl,qJ _⟩
 | 7,_=>⟨_,rfl,qM _⟩
 | 8,_=>⟨_,rfl,m5 _⟩
 | 9,_=>⟨_,rfl,qQ _⟩
 | 10,_=>⟨_,rfl,oh _⟩
 | 11,_=>⟨_,rfl,ou _⟩
 | 12,_=>⟨_,rfl,oA _⟩
 | 13,_=>⟨_,rfl,kO _⟩
 | 14,_=>⟨_,rfl,oE _⟩
 | 15,_=>⟨_,rfl,oF _⟩
 | 16,_=>⟨_,rfl,oG _⟩
 | 17,_=>⟨_,rfl,oH _⟩
 | 18,_=>⟨_,rfl,oJ _⟩
 | 19,_=>⟨_,rfl,kW _⟩
 | 20,_=>⟨_,rfl,oK _⟩
 | i + 21,h=>absurd h (by omega)
theorem atB:∀ i:Nat,i < 21→∃ e,gIx (.list [exD 44 "text" (.str t17),exD 63 "text" (.str t17),exD 82 "text" (.str t17),exD 101 "text" (.str t17),exD 120 "at" (.int z9),exD 139 "at" (.int z10),exD 158 "room" (.int z11),exD 177 "room" (.int z12),exD 196 "night" (.int z13),exD 215 "kind" (.int z14),exD 234 "night" (.int z15),exD 253 "kind" (.int z16),exD 272 "number" (.int z17),exD 291 "name" (.str t8),exD 310 "name" (.str t9),exD 329 "name" (.str t10),exD 348 "name" (.str t11),exD 367 "name" (.str t12),exD 386 "name" (.str t13),exD 405 "name" (.str t14),exD 424 "name" (.str t15)]) (.int (i:Int))=some e∧aD [e,.int (i:Int)]=some (.bool true)
 | 0,_=>⟨_,rfl,qw _⟩
 | 1,_=>⟨_,rfl,qx _⟩
 | 2,_=>⟨_,rfl,qy _⟩
 | 3,_=>⟨_,rfl,qz _⟩
 | 4,_=>⟨_,rfl,mZ _⟩
 | 5,_=>⟨_,rfl,qH _⟩
 | 6,_=>⟨_,rfl,qJ _⟩
 | 7,_=>⟨_,rfl,qM _⟩
 | 8,_=>⟨_,rfl,m5 _⟩
 | 9,_=>⟨_,rfl,qQ _⟩
 | 10,_=>⟨_,rfl,oh _⟩
 | 11,_=>⟨_,rfl,ou _⟩
 | 12,_=>⟨_,rfl,oA _⟩
 | 13,_=>⟨_,rfl,kO _⟩
 | 14,_=>⟨_,rfl,oE _⟩
 | 15,_=>⟨_,rfl,oF _⟩
 | 16,_=>⟨_,rfl,oG _⟩
 | 17,_=>⟨_,rfl,oH _⟩
 | 18,_=>⟨_,rfl,oJ _⟩
 | 19,_=>⟨_,rfl,kW _⟩
 | 20,_=>⟨_,rfl,oK _⟩
 | i + 21,h=>absurd h (by omega)
theorem pL (h0:cX t0) (h1:cX t1) (h2:cX t2) (h3:cX t3):∀ k:Nat,k < 4→∃ a b,gIx (.list [.int z0,.int z1,.int z2,.int z3,.int z4,.int z5,.int z6,.int z7,.int z8,.int z9,.int z10,.int z11,.int z12,.int z13,.int z14,.int z15,.int z16,.int z17]) (.int (k:Int))=some a∧gIx (.list [.str t0,.str t1,.str t2,.str t3,.str t4,.str t5,.str t6,.str t7,.str t8,.str t9,.str t10,.str t11,.str t12,.str t13,.str t14,.str t15,.str t16,.str t17]) (.int (k:Int))=some b∧bA [.int (k:Int),a,b]=some (.bool true)
 | 0,_=>⟨_,_,rfl,rfl,vq _ h0⟩
 | 1,_=>⟨_,_,rfl,rfl,vA _ h1⟩
 | 2,_=>⟨_,_,rfl,rfl,vC _ h2⟩
 | 3,_=>⟨_,_,rfl,rfl,vD _ h3⟩
 | k + 4,h=>absurd h (by omega)
theorem vH {S:DS} (a0 a1 a2 a6:Option U):∃ u',iQ (gNl 5) (sIf (D3.tOr (D3.iH (bT (dCall aD (ao (dOp gIx (ak 3) (ak 5)) (ao (ak 5) (bH)))))) (D3.iH (bT (dCall aD (ao (dOp gIx (ak 4) (ak 5)) (ao (ak 5) (bH))))))) (dY (dC (.bool false))) (iM)) (cY 0 21) [a0,a1,a2,some (.d (.list [exD 44 "text" (.str t16),exD 63 "text" (.str t16),exD 82 "text" (.str t16),exD 101 "text" (.str t16),exD 120 "at" (.int z0),exD 139 "at" (.int z1),exD 158 "room" (.int z2),exD 177 "room" (.int z3),exD 196 "night" (.int z4),exD 215 "kind" (.int z5),exD 234 "night" (.int z6),exD 253 "kind" (.int z7),exD 272 "number" (.int z8),exD 291 "name" (.str t0),exD 310 "name" (.str t1),exD 329 "name" (.str t2),exD 348 "name" (.str t3),exD 367 "name" (.str t4),exD 386 "name" (.str t5),exD 405 "name" (.str t6),exD 424 "name" (.str t7)])),some (.d (.list [exD 44 "text" (.str t17),exD 63 "text" (.str t17),exD 82 "text" (.str t17),exD 101 "text" (.str t17),exD 120 "at" (.int z9),exD 139 "at" (.int z10),exD 158 "room" (.int z11),exD 177 "room" (.int z12),exD 196 "night" (.int z13),exD 215 "kind" (.int z14),exD 234 "night" (.int z15),exD 253 "kind" (.int z16),exD 272 "number" (.int z17),exD 291 "name" (.str t8),exD 310 "name" (.str t9),exD 329 "name" (.str t10),exD 348 "name" (.str t11),exD 367 "name" (.str t12),exD 386 "name" (.str t13),exD 405 "name" (.str t14),exD 424 "name" (.str t15)])),none,a6]=some (.nx [a0,a1,a2,some (.d (.list [exD 44 "text" (.str t16),exD 63 "text" (.str t16),exD 82 "text" (.str t16),exD 101 "text" (.str t16),exD 120 "at" (.int z0),exD 139 "at" (.int z1),exD 158 "room" (.int z2),exD 177 "room" (.int z3),exD 196 "night" (.int z4),exD 215 "kind" (.int z5),exD 234 "night" (.int z6),exD 253 "kind" (.int z7),exD 272 "number" (.int z8),exD 291 "name" (.str t0),exD 310 "name" (.str t1),exD 329 "name" (.str t2),exD 348 "name" (.str t3),exD 367 "name" (.str t4),exD 386 "name" (.str t5),exD 405 "name" (.str t6),exD 424 "name" (.str t7)])),some (.d (.list [exD 44 "text" (.str t17),exD 63 "text" (.str t17),exD 82 "text" (.str t17),exD 101 "text" (.str t17),exD 120 "at" (.int z9),exD 139 "at" (.int z10),exD 158 "room" (.int z11),exD 177 "room" (.int z12),exD 196 "night" (.int z13),exD 215 "kind" (.int z14),exD 234 "night" (.int z15),exD 253 "kind" (.int z16),exD 272 "number" (.int z17),exD 291 "name" (.str t8),exD 310 "name" (.str t9),exD 329 "name" (.str t10),exD 348 "name" (.str t11),exD 367 "name" (.str t12),exD 386 "name" (.str t13),exD 405 "name" (.str t14),exD 424 "name" (.str t15)])),u',a6]):=by
 obtain ⟨δ',e,u',rfl⟩:=yt (g:=(gNl 5)) (b:=(sIf (D3.tOr (D3.iH (bT (dCall aD (ao (dOp gIx (ak 3) (ak 5)) (ao (ak 5) (bH)))))) (D3.iH (bT (dCall aD (ao (dOp gIx (ak 4) (ak 5)) (ao (ak 5) (bH))))))) (dY (dC (.bool false))) (iM))) (fun _ δ=>∃ u,δ=[a0,a1,a2,some (.d (.list [exD 44 "text" (.str t16),exD 63 "text" (.str t16),exD 82 "text" (.str t16),exD 101 "text" (.str t16),exD 120 "at" (.int z0),exD 139 "at" (.int z1),exD 158 "room" (.int z2),exD 177 "room" (.int z3),exD 196 "night" (.int z4),exD 215 "kind" (.int z5),exD 234 "night" (.int z6),exD 253 "kind" (.int z7),exD 272 "number" (.int z8),exD 291 "name" (.str t0),exD 310 "name" (.str t1),exD 329 "name" (.str t2),exD 348 "name" (.str t3),exD 367 "name" (.str t4),exD 386 "name" (.str t5),exD 405 "name" (.str t6),exD 424 "name" (.str t7)])),some (.d (.list [exD 44 "text" (.str t17),exD 63 "text" (.str t17),exD 82 "text" (.str t17),exD 101 "text" (.str t17),exD 120 "at" (.int z9),exD 139 "at" (.int z10),exD 158 "room" (.int z11),exD 177 "room" (.int z12),exD 196 "night" (.int z13),exD 215 "kind" (.int z14),exD 234 "night" (.int z15),exD 253 "kind" (.int z16),exD 272 "number" (.int z17),exD 291 "name" (.str t8),exD 310 "name" (.str t9),exD 329 "name" (.str t10),exD 348 "name" (.str t11),exD 367 "name" (.str t12),exD 386 "name" (.str t13),exD 405 "name" (.str t14),exD 424 "name" (.str t15)])),u,a6]) (cY 0 21) [a0,a1,a2,some (.d (.list [exD 44 "text" (.str t16),exD 63 "text" (.str t16),exD 82 "text" (.str t16),exD 101 "text" (.str t16),exD 120 "at" (.int z0),exD 139 "at" (.int z1),exD 158 "room" (.int z2),exD 177 "room" (.int z3),exD 196 "night" (.int z4),exD 215 "kind" (.int z5),exD 234 "night" (.int z6),exD 253 "kind" (.int z7),exD 272 "number" (.int z8),exD 291 "name" (.str t0),exD 310 "name" (.str t1),exD 329 "name" (.str t2),exD 348 "name" (.str t3),exD 367 "name" (.str t4),exD 386 "name" (.str t5),exD 405 "name" (.str t6),exD 424 "name" (.str t7)])),some (.d (.list [exD 44 "text" (.str t17),exD 63 "text" (.str t17),exD 82 "text" (.str t17),exD 101 "text" (.str t17),exD 120 "at" (.int z9),exD 139 "at" (.int z10),exD 158 "room" (.int z11),exD 177 "room" (.int z12),exD 196 "night" (.int z13),exD 215 "kind" (.int z14),exD 234 "night" (.int z15),exD 253 "kind" (.int z16),exD 272 "number" (.int z17),exD 291 "name" (.str t8),exD 310 "name" (.str t9),exD 329 "name" (.str t10),exD 348 "name" (.str t11),exD 367 "name" (.str t12),exD 386 "name" (.str t13),exD 405 "name" (.str t14),exD 424 "name" (.str t15)])),none,a6] ⟨none,rfl⟩ (by
  rintro i d δ hd ⟨u,rfl⟩
  obtain ⟨hk,rfl⟩:=yx hd
  obtain ⟨e1,g1,l1⟩:=atA (z0:=z0) (z1:=z1) (z2:=z2) (z3:=z3) (z4:=z4) (z5:=z5) (z6:=z6) (z7:=z7) (z8:=z8) (t0:=t0) (t1:=t1) (t2:=t2) (t3:=t3) (t4:=t4) (t5:=t5) (t6:=t6) (t7:=t7) (t16:=t16) i (by omega)
  obtain ⟨e2,g2,l2⟩:=atB (z9:=z9) (z10:=z10) (z11:=z11) (z12:=z12) (z13:=z13) (z14:=z14) (z15:=z15) (z16:=z16) (z17:=z17) (t8:=t8) (t9:=t9) (t10:=t10) (t11:=t11) (t12:=t12) (t13:=t13) (t14:=t14) (t15:=t15) (t17:=t17) i (by omega)
  refine ⟨_,_,rfl,.inl ?_,some (.d (.int (i:Int))),rfl⟩
  generalize [exD 44 "text" (.str t16),exD 63 "text" (.str t16),exD 82 "text" (.str t16),exD 101 "text" (.str t16),exD 120 "at" (.int z0),exD 139 "at" (.int z1),exD 158 "room" (.int z2),exD 177 "room" (.int z3),exD 196 "night" (.int z4),exD 215 "kind" (.int z5),exD 234 "night" (.int z6),exD 253 "kind" (.int z7),exD 272 "number" (.int z8),exD 291 "name" (.str t0),exD 310 "name" (.str t1),exD 329 "name" (.str t2),exD 348 "name" (.str t3),exD 367 "name" (.str t4),exD 386 "name" (.str t5),exD 405 "name" (.str t6),exD 424 "name" (.str t7)]=A at g1 ⊢
  generalize [exD 44 "text" (.str t17),exD 63 "text" (.str t17),exD 82 "text" (.str t17),exD 101 "text" (.str t17),exD 120 "at" (.int z9),exD 139 "at" (.int z10),exD 158 "room" (.int z11),exD 177 "room" (.int z12),exD 196 "night" (.int z13),exD 215 "kind" (.int z14),exD 234 "night" (.int z15),exD 253 "kind" (.int z16),exD 272 "number" (.int z17),exD 291 "name" (.str t8),exD 310 "name" (.str t9),exD 329 "name" (.str t10),exD 348 "name" (.str t11),exD 367 "name" (.str t12),exD 386 "name" (.str t13),exD 405 "name" (.str t14),exD 424 "name" (.str t15)]=B at g2 ⊢
  have g1:pAt A (i:Int)=some e1:=g1
  have g2:pAt B (i:Int)=some e2:=g2
  simp only [EV,reduceIte,aC,aF,aq,au,aG,aH,aJ,g1,l1,g2,l2])
 exact ⟨u',e⟩
end
theorem C_ (ns:List Int) {z0 z1 z2 z3 z4 z5 z6 z7 z8 z9 z10 z11 z12 z13 z14 z15 z16 z17:Int} {t0 t1 t2 t3 t4 t5 t6 t7 t8 t9 t10 t11 t12 t13 t14 t15 t16 t17:Str} (h0:cX t0) (h1:cX t1) (h2:cX t2) (h3:cX t3) (h4:cX t4) (h5:cX t5) (h6:cX t6) (h7:cX t7) (h8:cX t8) (h9:cX t9) (h10:cX t10) (h11:cX t11) (h12:cX t12) (h13:cX t13) (h14:cX t14) (h15:cX t15) (h16:cX t16) (h17:cX t17) (hZ:d_ (gNl 0) (D3.gw) (dCall cW (ao (ak 1) (ao (ak 0) (bH)))) [none,some (.d (.list (ns.map .int)))] (cY 0 18)=some [.int z0,.int z1,.int z2,.int z3,.int z4,.int z5,.int z6,.int z7,.int z8,.int z9,.int z10,.int z11,.int z12,.int z13,.int z14,.int z15,.int z16,.int z17]) (hT:d_ (gNl 0) (D3.gw) (dCall dM (ao (ak 1) (ao (dOp iw (dC (.int 18)) (ak 0)) (bH)))) [none,some (.d (.list (ns.map .int)))] (cY 0 18)=some [.str t0,.str t1,.str t2,.str t3,.str t4,.str t5,.str t6,.str t7,.str t8,.str t9,.str t10,.str t11,.str t12,.str t13,.str t14,.str t15,.str t16,.str t17]):qp [.list (ns.map .int)]=some (.bool true):=by
 have rr:∀ k:Int,0 ≤ k→k < 1000→lZ (some [.int k])=some (cY 0 k):=fun k a b=>Cq (by omega) (by omega)
 have r18:=rr 18 (by decide) (by decide)
 have r21:=rr 21 (by decide) (by decide)
 have r4:=rr 4 (by decide) (by decide)
 have ca0:∀ a b c d e f g:Option U,jx 1 [0] [a,b,c,d,e,f,g]=[none,a]:=fun _ _ _ _ _ _ _=>rfl
 have ca1:∀ a b c d e f g:Option U,jx 1 [1,2] [a,b,c,d,e,f,g]=[none,b,c]:=fun _ _ _ _ _ _ _=>rfl
 have l18:(cY 0 18).length ≤ 100000:=by decide
 have l4:(cY 0 4).length ≤ 100000:=by decide
 have P:Com.aZ [.list (ns.map .int),.int 36,.int 0,.int 5]=some (.int (fj ns 36 0 5)):=fZ (by decide) (by decide) (by decide) (by decide)
 have R:=fM ns 36 0 (m:=5) (by decide)
 generalize fj ns 36 0 5=p at P R
 obtain ⟨dd,o1,o2⟩:=vG p.toNat (by omega)
 rw [show ((p.toNat:Nat):Int)=p by omega] at o1
 have o1:pAt [.none,.bool true,.tuple [.int 1,.int 2],.list [.int 3],.dict []] p=some dd:=o1
 have x16:pAt [.str t0,.str t1,.str t2,.str t3,.str t4,.str t5,.str t6,.str t7,.str t8,.str t9,.str t10,.str t11,.str t12,.str t13,.str t14,.str t15,.str t16,.str t17] 16=some (.str t16):=rfl
 have x17:pAt [.str t0,.str t1,.str t2,.str t3,.str t4,.str t5,.str t6,.str t7,.str t8,.str t9,.str t10,.str t11,.str t12,.str t13,.str t14,.str t15,.str t16,.str t17] 17=some (.str t17):=rfl
 have b1:=n_ t16
 have b2:=n_ t17
 have c1:=jM z0 z1 z2 z3 z4 z5 z6 z7 z8
 have c2:=jM z9 z10 z11 z12 z13 z14 z15 z16 z17
 have n1:=mq t0 t1 t2 t3 t4 t5 t6 t7
 have n2:=mq t8 t9 t10 t11 t12 t13 t14 t15
 have k1:cutD [.int z0,.int z1,.int z2,.int z3,.int z4,.int z5,.int z6,.int z7,.int z8,.int z9,.int z10,.int z11,.int z12,.int z13,.int z14,.int z15,.int z16,.int z17] none (some 9)=[.int z0,.int z1,.int z2,.int z3,.int z4,.int z5,.int z6,.int z7,.int z8]:=rfl
 have k2:cutD [.int z0,.int z1,.int z2,.int z3,.int z4,.int z5,.int z6,.int z7,.int z8,.int z9,.int z10,.int z11,.int z12,.int z13,.int z14,.int z15,.int z16,.int z17] (some 9) none=[.int z9,.int z10,.int z11,.int z12,.int z13,.int z14,.int z15,.int z16,.int z17]:=rfl
 have k3:cutD [.str t0,.str t1,.str t2,.str t3,.str t4,.str t5,.str t6,.str t7,.str t8,.str t9,.str t10,.str t11,.str t12,.str t13,.str t14,.str t15,.str t16,.str t17] none (some 8)=[.str t0,.str t1,.str t2,.str t3,.str t4,.str t5,.str t6,.str t7]:=rfl
 have k4:cutD [.str t0,.str t1,.str t2,.str t3,.str t4,.str t5,.str t6,.str t7,.str t8,.str t9,.str t10,.str t11,.str t12,.str t13,.str t14,.str t15,.str t16,.str t17] (some 8) (some 16)=[.str t8,.str t9,.str t10,.str t11,.str t12,.str t13,.str t14,.str t15]:=rfl
 have g1:gA (.list [exD 44 "text" (.str t16),exD 63 "text" (.str t16),exD 82 "text" (.str t16),exD 101 "text" (.str t16)]) (.list [exD 120 "at" (.int z0),exD 139 "at" (.int z1),exD 158 "room" (.int z2),exD 177 "room" (.int z3),exD 196 "night" (.int z4),exD 215 "kind" (.int z5),exD 234 "night" (.int z6),exD 253 "kind" (.int z7),exD 272 "number" (.int z8)])=some (.list [exD 44 "text" (.str t16),exD 63 "text" (.str t16),exD 82 "text" (.str t16),exD 101 "text" (.str t16),exD 120 "at" (.int z0),exD 139 "at" (.int z1),exD 158 "room" (.int z2),exD 177 "room" (.int z3),exD 196 "night" (.int z4),exD 215 "kind" (.int z5),exD 234 "night" (.int z6),exD 253 "kind" (.int z7),exD 272 "number" (.int z8)]):=rfl
 have g2:gA (.list [exD 44 "text" (.str t16),exD 63 "text" (.str t16),exD 82 "text" (.str t16),exD 101 "text" (.str t16),exD 120 "at" (.int z0),exD 139 "at" (.int z1),exD 158 "room" (.int z2),exD 177 "room" (.int z3),exD 196 "night" (.int z4),exD 215 "kind" (.int z5),exD 234 "night" (.int z6),exD 253 "kind" (.int z7),exD 272 "number" (.int z8)]) (.list [exD 291 "name" (.str t0),exD 310 "name" (.str t1),exD 329 "name" (.str t2),exD 348 "name" (.str t3),exD 367 "name" (.str t4),exD 386 "name" (.str t5),exD 405 "name" (.str t6),exD 424 "name" (.str t7)])=some (.list [exD 44 "text" (.str t16),exD 63 "text" (.str t16),exD 82 "text" (.str t16),exD 101 "text" (.str t16),exD 120 "at" (.int z0),exD 139 "at" (.int z1),exD 158 "room" (.int z2),exD 177 "room" (.int z3),exD 196 "night" (.int z4),exD 215 "kind" (.int z5),exD 234 "night" (.int z6),exD 253 "kind" (.int z7),exD 272 "number" (.int z8),exD 291 "name" (.str t0),exD 310 "name" (.str t1),exD 329 "name" (.str t2),exD 348 "name" (.str t3),exD 367 "name" (.str t4),exD 386 "name" (.str t5),exD 405 "name" (.str t6),exD 424 "name" (.str t7)]):=rfl
 have g3:gA (.list [exD 44 "text" (.str t17),exD 63 "text" (.str t17),exD 82 "text" (.str t17),exD 101 "text" (.str t17)]) (.list [exD 120 "at" (.int z9),exD 139 "at" (.int z10),exD 158 "room" (.int z11),exD 177 "room" (.int z12),exD 196 "night" (.int z13),exD 215 "kind" (.int z14),exD 234 "night" (.int z15),exD 253 "kind" (.int z16),exD 272 "number" (.int z17)])=some (.list [exD 44 "text" (.str t17),exD 63 "text" (.str t17),exD 82 "text" (.str t17),exD 101 "text" (.str t17),exD 120 "at" (.int z9),exD 139 "at" (.int z10),exD 158 "room" (.int z11),exD 177 "room" (.int z12),exD 196 "night" (.int z13),exD 215 "kind" (.int z14),exD 234 "night" (.int z15),exD 253 "kind" (.int z16),exD 272 "number" (.int z17)]):=rfl
 have g4:gA (.list [exD 44 "text" (.str t17),exD 63 "text" (.str t17),exD 82 "text" (.str t17),exD 101 "text" (.str t17),exD 120 "at" (.int z9),exD 139 "at" (.int z10),exD 158 "room" (.int z11),exD 177 "room" (.int z12),exD 196 "night" (.int z13),exD 215 "kind" (.int z14),exD 234 "night" (.int z15),exD 253 "kind" (.int z16),exD 272 "number" (.int z17)]) (.list [exD 291 "name" (.str t8),exD 310 "name" (.str t9),exD 329 "name" (.str t10),exD 348 "name" (.str t11),exD 367 "name" (.str t12),exD 386 "name" (.str t13),exD 405 "name" (.str t14),exD 424 "name" (.str t15)])=some (.list [exD 44 "text" (.str t17),exD 63 "text" (.str t17),exD 82 "text" (.str t17),exD 101 "text" (.str t17),exD 120 "at" (.int z9),exD 139 "at" (.int z10),exD 158 "room" (.int z11),exD 177 "room" (.int z12),exD 196 "night" (.int z13),exD 215 "kind" (.int z14),exD 234 "night" (.int z15),exD 253 "kind" (.int z16),exD 272 "number" (.int z17),exD 291 "name" (.str t8),exD 310 "name" (.str t9),exD 329 "name" (.str t10),exD 348 "name" (.str t11),exD 367 "name" (.str t12),exD 386 "name" (.str t13),exD 405 "name" (.str t14),exD 424 "name" (.str t15)]):=rfl
 have K1:=oM (x:=t17) (z0:=z9) (z1:=z10) (z2:=z11) (z3:=z12) (z4:=z13) (z5:=z14) (z6:=z15) (z7:=z16) (z8:=z17) h8 h9 h10 h11 h12 h13 h14 h15
 have K2:=oM (x:=t16) (z0:=z0) (z1:=z1) (z2:=z2) (z3:=z3) (z4:=z4) (z5:=z5) (z6:=z6) (z7:=z7) (z8:=z8) h0 h1 h2 h3 h4 h5 h6 h7
 have C:=CT (g:=(gNl 0)) (c:=(D3.gw)) (e:=(dCall bA (ao (ak 0) (ao (dOp gIx (ak 1) (ak 0)) (ao (dOp gIx (ak 2) (ak 0)) (bH)))))) (δ:=[none,some (.d (.list [.int z0,.int z1,.int z2,.int z3,.int z4,.int z5,.int z6,.int z7,.int z8,.int z9,.int z10,.int z11,.int z12,.int z13,.int z14,.int z15,.int z16,.int z17])),some (.d (.list [.str t0,.str t1,.str t2,.str t3,.str t4,.str t5,.str t6,.str t7,.str t8,.str t9,.str t10,.str t11,.str t12,.str t13,.str t14,.str t15,.str t16,.str t17]))]) (fun k:Nat=>PyData.int (k:Int)) (fun _=>PyData.bool true) (fu 4) (fun k hk=>by
  obtain ⟨a,b,e1,e2,e3⟩:=pL (z0:=z0) (z1:=z1) (z2:=z2) (z3:=z3) (z4:=z4) (z5:=z5) (z6:=z6) (z7:=z7) (z8:=z8) (z9:=z9) (z10:=z10) (z11:=z11) (z12:=z12) (z13:=z13) (z14:=z14) (z15:=z15) (z16:=z16) (z17:=z17) (t4:=t4) (t5:=t5) (t6:=t6) (t7:=t7) (t8:=t8) (t9:=t9) (t10:=t10) (t11:=t11) (t12:=t12) (t13:=t13) (t14:=t14) (t15:=t15) (t16:=t16) (t17:=t17) h0 h1 h2 h3 k (eF.mp hk)
  refine ⟨[some (.d (.int (k:Int))),some (.d (.list [.int z0,.int z1,.int z2,.int z3,.int z4,.int z5,.int z6,.int z7,.int z8,.int z9,.int z10,.int z11,.int z12,.int z13,.int z14,.int z15,.int z16,.int z17])),some (.d (.list [.str t0,.str t1,.str t2,.str t3,.str t4,.str t5,.str t6,.str t7,.str t8,.str t9,.str t10,.str t11,.str t12,.str t13,.str t14,.str t15,.str t16,.str t17]))],rfl,rfl,?_⟩
  have e1:pAt [.int z0,.int z1,.int z2,.int z3,.int z4,.int z5,.int z6,.int z7,.int z8,.int z9,.int z10,.int z11,.int z12,.int z13,.int z14,.int z15,.int z16,.int z17] (k:Int)=some a:=e1
  have e2:pAt [.str t0,.str t1,.str t2,.str t3,.str t4,.str t5,.str t6,.str t7,.str t8,.str t9,.str t10,.str t11,.str t12,.str t13,.str t14,.str t15,.str t16,.str t17] (k:Int)=some b:=e2
  generalize ([.int z0,.int z1,.int z2,.int z3,.int z4,.int z5,.int z6,.int z7,.int z8,.int z9,.int z10,.int z11,.int z12,.int z13,.int z14,.int z15,.int z16,.int z17]:List D)=A at e1 ⊢
  generalize ([.str t0,.str t1,.str t2,.str t3,.str t4,.str t5,.str t6,.str t7,.str t8,.str t9,.str t10,.str t11,.str t12,.str t13,.str t14,.str t15,.str t16,.str t17]:List D)=B at e2 ⊢
  simp only [EV,reduceIte,aC,aF,aq,au,aG,aH,aJ,e1,e2,e3])
 have C:d_ (gNl 0) (D3.gw) (dCall bA (ao (ak 0) (ao (dOp gIx (ak 1) (ak 0)) (ao (dOp gIx (ak 2) (ak 0)) (bH))))) [none,some (.d (.list [.int z0,.int z1,.int z2,.int z3,.int z4,.int z5,.int z6,.int z7,.int z8,.int z9,.int z10,.int z11,.int z12,.int z13,.int z14,.int z15,.int z16,.int z17])),some (.d (.list [.str t0,.str t1,.str t2,.str t3,.str t4,.str t5,.str t6,.str t7,.str t8,.str t9,.str t10,.str t11,.str t12,.str t13,.str t14,.str t15,.str t16,.str t17]))] (cY 0 4)=some [.bool true,.bool true,.bool true,.bool true]:=C
 have ga:nG [.list [.bool true,.bool true,.bool true,.bool true]]=some (.bool true):=rfl
 obtain ⟨u',L⟩:=vH (z0:=z0) (z1:=z1) (z2:=z2) (z3:=z3) (z4:=z4) (z5:=z5) (z6:=z6) (z7:=z7) (z8:=z8) (z9:=z9) (z10:=z10) (z11:=z11) (z12:=z12) (z13:=z13) (z14:=z14) (z15:=z15) (z16:=z16) (z17:=z17) (t0:=t0) (t1:=t1) (t2:=t2) (t3:=t3) (t4:=t4) (t5:=t5) (t6:=t6) (t7:=t7) (t8:=t8) (t9:=t9) (t10:=t10) (t11:=t11) (t12:=t12) (t13:=t13) (t14:=t14) (t15:=t15) (t16:=t16) (t17:=t17) (S:=[]) (some (.d (.list (ns.map .int)))) (some (.d (.list [.int z0,.int z1,.int z2,.int z3,.int z4,.int z5,.int z6,.int z7,.int z8,.int z9,.int z10,.int z11,.int z12,.int z13,.int z14,.int z15,.int z16,.int z17]))) (some (.d (.list [.str t0,.str t1,.str t2,.str t3,.str t4,.str t5,.str t6,.str t7,.str t8,.str t9,.str t10,.str t11,.str t12,.str t13,.str t14,.str t15,.str t16,.str t17]))) none
 unfold qp
 generalize hA:([exD 44 "text" (.str t16),exD 63 "text" (.str t16),exD 82 "text" (.str t16),exD 101 "text" (.str t16),exD 120 "at" (.int z0),exD 139 "at" (.int z1),exD 158 "room" (.int z2),exD 177 "room" (.int z3),exD 196 "night" (.int z4),exD 215 "kind" (.int z5),exD 234 "night" (.int z6),exD 253 "kind" (.int z7),exD 272 "number" (.int z8),exD 291 "name" (.str t0),exD 310 "name" (.str t1),exD 329 "name" (.str t2),exD 348 "name" (.str t3),exD 367 "name" (.str t4),exD 386 "name" (.str t5),exD 405 "name" (.str t6),exD 424 "name" (.str t7)]:List D)=A at *
 generalize hB:([exD 44 "text" (.str t17),exD 63 "text" (.str t17),exD 82 "text" (.str t17),exD 101 "text" (.str t17),exD 120 "at" (.int z9),exD 139 "at" (.int z10),exD 158 "room" (.int z11),exD 177 "room" (.int z12),exD 196 "night" (.int z13),exD 215 "kind" (.int z14),exD 234 "night" (.int z15),exD 253 "kind" (.int z16),exD 272 "number" (.int z17),exD 291 "name" (.str t8),exD 310 "name" (.str t9),exD 329 "name" (.str t10),exD 348 "name" (.str t11),exD 367 "name" (.str t12),exD 386 "name" (.str t13),exD 405 "name" (.str t14),exD 424 "name" (.str t15)]:List D)=B at *
 simp only [EV,reduceIte,aC,aF,aq,au,aG,aH,aJ,r18,ca0,l18,hZ,hT,x16,x17,k1,k2,k3,k4,b1,b2,c1,c2,n1,n2,g1,g2,g3,g4,r21,L,r4,ca1,l4,C,ga,P,o1,o2,K1,K2,Com.sz (show 5 ≤ 1000000 by decide),Com.sz (show 2 ≤ 1000000 by decide),Com.sz (show 1 ≤ 1000000 by decide)]
theorem vI (ns:List Int) (h:ns.length ≤ 63):qp [.list (ns.map .int)]=some (.bool true):=by
 obtain ⟨zs,lz,_,hZ⟩:=cEx (g:=(gNl 0)) (c:=(D3.gw)) (e:=(dCall cW (ao (ak 1) (ao (ak 0) (bH))))) (δ:=[none,some (.d (.list (ns.map .int)))]) (fun z:Int=>PyData.int z) (fun _=>True) (cY 0 18) (fun d hd=>by
  obtain ⟨k,hk,rfl⟩:=mY hd
  obtain ⟨z,e⟩:=pJ ns (i:=(k:Int)) (by omega)
  refine ⟨[some (.d (.int (k:Int))),some (.d (.list (ns.map .int)))],z,rfl,rfl,True.intro,?_⟩
  simp only [EV,reduceIte,aC,aF,aq,au,aG,aH,aJ,e])
 obtain ⟨ts,lt,ht,hT⟩:=cEx (g:=(gNl 0)) (c:=(D3.gw)) (e:=(dCall dM (ao (ak 1) (ao (dOp iw (dC (.int 18)) (ak 0)) (bH))))) (δ:=[none,some (.d (.list (ns.map .int)))]) (fun t:Str=>PyData.str t) cX (cY 0 18) (fun d hd=>by
  obtain ⟨k,hk,rfl⟩:=mY hd
  obtain ⟨x,ox,e⟩:=uY ns (i:=18 + (k:Int)) (by omega)
  refine ⟨[some (.d (.int (k:Int))),some (.d (.list (ns.map .int)))],x,rfl,rfl,ox,?_⟩
  simp only [EV,reduceIte,aC,aF,aq,au,aG,aH,aJ,e])
 rw [mX] at lz lt
 match zs,ts,lz,lt,ht,hZ,hT with
 | [z0,z1,z2,z3,z4,z5,z6,z7,z8,z9,z10,z11,z12,z13,z14,z15,z16,z17],[t0,t1,t2,t3,t4,t5,t6,t7,t8,t9,t10,t11,t12,t13,t14,t15,t16,t17],_,_,ht,hZ,hT=>exact C_ ns (ht t0 (by simp)) (ht t1 (by simp)) (ht t2 (by simp)) (ht t3 (by simp)) (ht t4 (by simp)) (ht t5 (by simp)) (ht t6 (by simp)) (ht t7 (by simp)) (ht t8 (by simp)) (ht t9 (by simp)) (ht t10 (by simp)) (ht t11 (by simp)) (ht t12 (by simp)) (ht t13 (by simp)) (ht t14 (by simp)) (ht t15 (by simp)) (ht t16 (by simp)) (ht t17 (by simp)) hZ hT
end K18
namespace K18
open PySem PySem.Spec PyProof.Rows L2 My D3
def top (i:Nat):Stmt:=PySem.Challenge.pw_nightbook_k18_refusals_apart.main.body.getD i (.Pass ⟨0,0,0,0⟩)
section
seal PE PT PW PA PS PSs PG PGs PI PO PTs
variable {P:Program} {w:World} {K:PySem.W.Frag} {mg:Str→Option Value} {base:Heap} {n:Nat}
theorem m6 (D:Dg K mg "_law_cell" (top 24) ["_law_script", "_law_at"]) (B:Bl mg):Has P w K mg base (n + 1) "_law_cell" ["_law_script", "_law_at"] (spD K cZ):=by
 have sc:FnScope ["_law_script", "_law_at"] ["_law_script", "_law_at"] (bw (top 24)):=fsc
 exact gH (fl:=[.A,.A]) D sc (by decide) (by decide) fun f cdv A outer s H E hr=>aW (gW (fD sV b_lt (vP 1) (aY (jt fX lO (by rfl) B.len_ PySem.boot_len (dq (vP 0) dz))) (dj _)) (bD (cA (cC (bZ fH ji (bJ (dx (vB 0) (vP 1))) iP)))) (dR))
  (aW (gW (fD (fV hr.units) jP (vP 0) (aY (cJ dz)) (dj _)) (bD (cA (cC (bZ h_ jz (aY (bZ eX iU iP (vP 1))) iP)))) (dR))
  (bD (cA (cC (bZ h_ jz (aY (bZ fH ji (bJ (dx (vB 0) (aY (bZ fH ji (aY (bZ eX iU (vP 1) iP)) (aY (jt fX lO (by rfl) B.len_ PySem.boot_len (dq (vP 0) dz))))))) iP)) (aY (bZ eX iU iP (vP 1))))))))
theorem m7 (D:Dg K mg "_law_part" (top 25) ["_law_script", "_law_at", "_law_k", "_law_many"]) (B:Bl mg) (h_law_cell:Has P w K mg base n "_law_cell" ["_law_script", "_law_at"] (spD K cZ)):Has P w K mg base (n + 1) "_law_part" ["_law_script", "_law_at", "_law_k", "_law_many"] (spD K aZ):=by
 have sc:FnScope ["_law_script", "_law_at", "_law_k", "_law_many", "_law_number_here", "_law_j"] ["_law_script", "_law_at", "_law_k", "_law_many"] (bw (top 25)):=fsc
 exact gH (fl:=[.A,.A,.A,.A,.A,.A]) D sc (by decide) (by decide) fun f cdv A outer s H E hr=>aW (gW (rN (Bf (fD sV b_lt (vP 1) (aY (jt fX lO (by rfl) B.len_ PySem.boot_len (dq (vP 0) dz))) (dj _)) (wM (fD Dv G_ (bJ (dx (vB 0) (vP 1))) (aY (bZ jY nM iP iP)) (dj _))))) (aW (sA (i:=4) sc.nd (dx (vB 0) (vP 1)))
  (aW (ud (L:=[]) PassesOwn.never rfl (fG (by rfl) B.range_ (kj (dq (vP 2) dz))) (gN' (i:=5) sc.nd) (bD (sA (i:=4) sc.nd (cI (bZ pW zm (vP 4) iP)))))
  (bD (gW (fD Du G9 (vP 4) iP (dj _)) (bD (cA (cC (bZ fH ji (aY (bZ fH ji (vP 4) iP)) (vP 3))))) (dR))))) (dR))
  (aW (sA (i:=4) sc.nd (cI (bZ fH ji (aY (bZ eX iU (aY (bZ h_ jz (aY (bZ h_ jz (gU (bU h_law_cell hr (dq (vP 0) (dq (vP 1) dz)))) (aY (bZ eX iU iP (vP 1))))) iP)) (aY (bZ h_ jz iP (aY (bZ eX iU iP (vP 2))))))) iP)))
  (aW (sA (i:=4) sc.nd (cI (bZ h_ jz (aY (bZ fH ji (aY (bZ eX iU (vP 4) (vP 4))) iP)) iP)))
  (bD (cA (cC (bZ fH ji (aY (bZ pW zm (aY (bZ fH ji (aY (bZ eX iU (vP 4) (vP 4))) iP)) iP)) (vP 3)))))))
theorem oO (D:Dg K mg "_law_far" (top 26) ["_law_script", "_law_at"]) (B:Bl mg) (h_law_part:Has P w K mg base n "_law_part" ["_law_script", "_law_at", "_law_k", "_law_many"] (spD K aZ)):Has P w K mg base (n + 1) "_law_far" ["_law_script", "_law_at"] (spD K dJ):=by
 have sc:FnScope ["_law_script", "_law_at"] ["_law_script", "_law_at"] (bw (top 26)):=fsc
 exact gH (fl:=[.A,.A]) D sc (by decide) (by decide) fun f cdv A outer s H E hr=>aW (gW (fD sV b_lt (vP 1) (aY (jt fX lO (by rfl) B.len_ PySem.boot_len (dq (vP 0) dz))) (dj _)) (bD (cA (cC (bZ fH ji (bJ (dx (vB 0) (vP 1))) (aY (bZ jY nM iP iP)))))) (dR))
  (bD (cA (cC (bZ h_ jz (aY (bZ eX iU (gU (bU h_law_part hr (dq (vP 0) (dq (vP 1) (dq iP (dq (aY (bZ jY nM iP iP)) dz)))))) (aY (bZ jY nM iP iP)))) (gU (bU h_law_part hr (dq (vP 0) (dq (vP 1) (dq iP (dq (aY (bZ jY nM iP iP)) dz))))))))))
theorem lu (D:Dg K mg "_law_whole" (top 27) ["_law_found"]) (B:Bl mg):Has P w K mg base (n + 1) "_law_whole" ["_law_found"] (spD K dW):=by
 have sc:FnScope ["_law_found"] ["_law_found"] (bw (top 27)):=fsc
 exact gH (fl:=[.A]) D sc (by decide) (by decide) fun f cdv A outer s H E hr=>bD (cA (cC (uh (aY (pA (T := "int") (by decide) (vP 0) (by rfl) B.isinstance_ (by rfl) B.int_ PyProof.Rows.boot_int)) (ug (Bd (aY (pA (T := "bool") (by decide) (vP 0) (by rfl) B.isinstance_ (by rfl) B.bool_ PyProof.Rows.boot_bool)))))))
theorem m8 (D:Dg K mg "_law_text" (top 28) ["_law_script", "_law_at"]) (B:Bl mg) (h_law_part:Has P w K mg base n "_law_part" ["_law_script", "_law_at", "_law_k", "_law_many"] (spD K aZ)):Has P w K mg base (n + 1) "_law_text" ["_law_script", "_law_at"] (spD K dM):=by
 have sc:FnScope ["_law_script", "_law_at", "_law_letters"] ["_law_script", "_law_at"] (bw (top 28)):=fsc
 exact gH (fl:=[.A,.A,.A]) D sc (by decide) (by decide) fun f cdv A outer s H E hr=>aW (sA (i:=2) sc.nd (cI (tY)))
  (bD (cA (cC (XC.xu (aY (tY)) (aY (iD (L:=[]) (fl':=[.A,.A,.A,.A]) rfl ["_law_k"] ["_law_letters", "_law_script", "_law_at"] [2,0,1] (fG (by rfl) B.range_ (kj (dq (gU (bU h_law_part hr (dq (vP 0) (dq (vP 1) (dq iP (dq iP dz)))))) dz))) (fun _ _ _ _ _=>gN' (i:=0) (show (["_law_k", "_law_letters", "_law_script", "_law_at"]:List Str).Nodup by decide +kernel)) (fun _ _ _ _ _=>iB) (fun _ _ _ _ _=>aM (XC.Bq (vP 1) (gU (bU h_law_part hr (dq (vP 2) (dq (vP 3) (dq (aY (bZ h_ jz iP (vP 0))) (dq iP dz)))))) (fun _ _=>rfl)))))))))
theorem kY (D:Dg K mg "_law_number" (top 29) ["_law_script", "_law_at"]) (B:Bl mg) (h_law_part:Has P w K mg base n "_law_part" ["_law_script", "_law_at", "_law_k", "_law_many"] (spD K aZ)) (h_law_far:Has P w K mg base n "_law_far" ["_law_script", "_law_at"] (spD K dJ)):Has P w K mg base (n + 1) "_law_number" ["_law_script", "_law_at"] (spD K cW):=by
 have sc:FnScope ["_law_script", "_law_at"] ["_law_script", "_law_at"] (bw (top 29)):=fsc
 exact gH (fl:=[.A,.A]) D sc (by decide) (by decide) fun f cdv A outer s H E hr=>bD (cA (cC (bZ eX iU (aY (bZ Af Ep iP (aY (bZ eX iU iP (gU (bU h_law_part hr (dq (vP 0) (dq (vP 1) (dq iP (dq iP dz)))))))))) (gU (bU h_law_far hr (dq (vP 0) (dq (vP 1) dz)))))))
theorem m9 (D:Dg K mg "_law_bare" (top 30) ["_law_text_here"]) (B:Bl mg) (kNoBook:XC.ExK K mg "NoBook" "text" 101 24) (kNoNumber:XC.ExK K mg "NoNumber" "text" 44 24) (kNoRow:XC.ExK K mg "NoRow" "text" 82 24) (kNoText:XC.ExK K mg "NoText" "text" 63 24):Has P w K mg base (n + 3) "_law_bare" ["_law_text_here"] (spD K fO):=by
 have sc:FnScope ["_law_text_here"] ["_law_text_here"] (bw (top 30)):=fsc
 exact gH (fl:=[.A]) D sc (by decide) (by decide) fun f cdv A outer s H E hr=>bD (cA (cC (cJ (dq (aM (XC.cU kNoNumber.ex hr (vP 0))) (dq (aM (XC.cU kNoText.ex hr (vP 0))) (dq (aM (XC.cU kNoRow.ex hr (vP 0))) (dq (aM (XC.cU kNoBook.ex hr (vP 0))) dz)))))))
theorem jQ (D:Dg K mg "_law_counted" (top 31) ["_law_some"]) (B:Bl mg) (kFull:XC.ExK K mg "Full" "kind" 215 24) (kNoExchange:XC.ExK K mg "NoExchange" "night" 234 24) (kNoKind:XC.ExK K mg "NoKind" "kind" 253 24) (kNoRoom:XC.ExK K mg "NoRoom" "room" 158 24) (kNoStay:XC.ExK K mg "NoStay" "at" 120 24) (kNoWish:XC.ExK K mg "NoWish" "at" 139 24) (kTaken:XC.ExK K mg "Taken" "room" 177 24) (kTooFull:XC.ExK K mg "TooFull" "night" 196 24) (kTooMany:XC.ExK K mg "TooMany" "number" 272 24):Has P w K mg base (n + 3) "_law_counted" ["_law_some"] (spD K dN):=by
 have sc:FnScope ["_law_some", "_law_found"] ["_law_some"] (bw (top 31)):=fsc
 exact gH (fl:=[.A,.A]) D sc (by decide) (by decide) fun f cdv A outer s H E hr=>aW (sA (i:=1) sc.nd (cI (cJ (dq (aM (XC.cU kNoStay.ex hr (bJ (dx (vB 0) iP)))) (dq (aM (XC.cU kNoWish.ex hr (bJ (dx (vB 0) iP)))) (dq (aM (XC.cU kNoRoom.ex hr (bJ (dx (vB 0) iP)))) (dq (aM (XC.cU kTaken.ex hr (bJ (dx (vB 0) iP)))) (dq (aM (XC.cU kTooFull.ex hr (bJ (dx (vB 0) iP)))) dz))))))))
  (bD (cA (cC (mO (eY (vB 1) (dI (cI (cJ (dq (aM (XC.cU kFull.ex hr (bJ (dx (vB 0) iP)))) (dq (aM (XC.cU kNoExchange.ex hr (bJ (dx (vB 0) iP)))) (dq (aM (XC.cU kNoKind.ex hr (bJ (dx (vB 0) iP)))) (dq (aM (XC.cU kTooMany.ex hr (bJ (dx (vB 0) iP)))) dz))))))))))))
theorem lA (D:Dg K mg "_law_named" (top 32) ["_law_some"]) (B:Bl mg) (kInHouse:XC.ExK K mg "InHouse" "name" 386 24) (kNoChance:XC.ExK K mg "NoChance" "name" 329 24) (kNoGuest:XC.ExK K mg "NoGuest" "name" 367 24) (kNoName:XC.ExK K mg "NoName" "name" 291 24) (kNoStretch:XC.ExK K mg "NoStretch" "name" 310 24) (kNotTaken:XC.ExK K mg "NotTaken" "name" 405 24) (kNotTonight:XC.ExK K mg "NotTonight" "name" 424 24) (kStands:XC.ExK K mg "Stands" "name" 348 24):Has P w K mg base (n + 3) "_law_named" ["_law_some"] (spD K eZ):=by
 have sc:FnScope ["_law_some", "_law_found"] ["_law_some"] (bw (top 32)):=fsc
 exact gH (fl:=[.A,.A]) D sc (by decide) (by decide) fun f cdv A outer s H E hr=>aW (sA (i:=1) sc.nd (cI (cJ (dq (aM (XC.cU kNoName.ex hr (bJ (dx (vB 0) iP)))) (dq (aM (XC.cU kNoStretch.ex hr (bJ (dx (vB 0) iP)))) (dq (aM (XC.cU kNoChance.ex hr (bJ (dx (vB 0) iP)))) (dq (aM (XC.cU kStands.ex hr (bJ (dx (vB 0) iP)))) dz)))))))
  (bD (cA (cC (mO (eY (vB 1) (dI (cI (cJ (dq (aM (XC.cU kNoGuest.ex hr (bJ (dx (vB 0) iP)))) (dq (aM (XC.cU kInHouse.ex hr (bJ (dx (vB 0) iP)))) (dq (aM (XC.cU kNotTaken.ex hr (bJ (dx (vB 0) iP)))) (dq (aM (XC.cU kNotTonight.ex hr (bJ (dx (vB 0) iP)))) dz))))))))))))
theorem lB (D:Dg K mg "_law_kinds" (top 33) ["_law_e"]) (B:Bl mg) (kFull:XC.ExK K mg "Full" "kind" 215 24) (kInHouse:XC.ExK K mg "InHouse" "name" 386 24) (kNoBook:XC.ExK K mg "NoBook" "text" 101 24) (kNoChance:XC.ExK K mg "NoChance" "name" 329 24) (kNoExchange:XC.ExK K mg "NoExchange" "night" 234 24) (kNoGuest:XC.ExK K mg "NoGuest" "name" 367 24) (kNoKind:XC.ExK K mg "NoKind" "kind" 253 24) (kNoName:XC.ExK K mg "NoName" "name" 291 24) (kNoNumber:XC.ExK K mg "NoNumber" "text" 44 24) (kNoRoom:XC.ExK K mg "NoRoom" "room" 158 24) (kNoRow:XC.ExK K mg "NoRow" "text" 82 24) (kNoStay:XC.ExK K mg "NoStay" "at" 120 24) (kNoStretch:XC.ExK K mg "NoStretch" "name" 310 24) (kNoText:XC.ExK K mg "NoText" "text" 63 24) (kNoWish:XC.ExK K mg "NoWish" "at" 139 24) (kNotTaken:XC.ExK K mg "NotTaken" "name" 405 24) (kNotTonight:XC.ExK K mg "NotTonight" "name" 424 24) (kStands:XC.ExK K mg "Stands" "name" 348 24) (kTaken:XC.ExK K mg "Taken" "room" 177 24) (kTooFull:XC.ExK K mg "TooFull" "night" 196 24) (kTooMany:XC.ExK K mg "TooMany" "number" 272 24) (kx:XC.KxP K mg [215,386,101,329,234,367,253,291,44,158,82,120,310,63,139,405,424,348,177,196,272] 24):Has P w K mg base (n + 1) "_law_kinds" ["_law_e"] (spD K aO):=by
 have sc:FnScope ["_law_e", "_law_kinds_here"] ["_law_e"] (bw (top 33)):=fsc
 exact gH (fl:=[.A,.A]) D sc (by decide) (by decide) fun f cdv A outer s H E hr=>aW (sA (i:=1) sc.nd (cI (cJ (dq (aM (XC.cV kx.kit (kx.k1 (D:=44) (by decide)) (vP 0) kNoNumber.ex.mgC B.isinstance_)) (dq (aM (XC.cV kx.kit (kx.k1 (D:=63) (by decide)) (vP 0) kNoText.ex.mgC B.isinstance_)) (dq (aM (XC.cV kx.kit (kx.k1 (D:=82) (by decide)) (vP 0) kNoRow.ex.mgC B.isinstance_)) (dq (aM (XC.cV kx.kit (kx.k1 (D:=101) (by decide)) (vP 0) kNoBook.ex.mgC B.isinstance_)) dz)))))))
  (aW (sA (i:=1) sc.nd (gR (eY (vB 1) (dI (cI (cJ (dq (aM (XC.cV kx.kit (kx.k1 (D:=120) (by decide)) (vP 0) kNoStay.ex.mgC B.isinstance_)) (dq (aM (XC.cV kx.kit (kx.k1 (D:=139) (by decide)) (vP 0) kNoWish.ex.mgC B.isinstance_)) (dq (aM (XC.cV kx.kit (kx.k1 (D:=158) (by decide)) (vP 0) kNoRoom.ex.mgC B.isinstance_)) (dq (aM (XC.cV kx.kit (kx.k1 (D:=177) (by decide)) (vP 0) kTaken.ex.mgC B.isinstance_)) dz))))))))))
  (aW (sA (i:=1) sc.nd (gR (eY (vB 1) (dI (cI (cJ (dq (aM (XC.cV kx.kit (kx.k1 (D:=196) (by decide)) (vP 0) kTooFull.ex.mgC B.isinstance_)) (dq (aM (XC.cV kx.kit (kx.k1 (D:=215) (by decide)) (vP 0) kFull.ex.mgC B.isinstance_)) (dq (aM (XC.cV kx.kit (kx.k1 (D:=234) (by decide)) (vP 0) kNoExchange.ex.mgC B.isinstance_)) (dq (aM (XC.cV kx.kit (kx.k1 (D:=253) (by decide)) (vP 0) kNoKind.ex.mgC B.isinstance_)) dz))))))))))
  (aW (sA (i:=1) sc.nd (gR (eY (vB 1) (dI (cI (cJ (dq (aM (XC.cV kx.kit (kx.k1 (D:=272) (by decide)) (vP 0) kTooMany.ex.mgC B.isinstance_)) (dq (aM (XC.cV kx.kit (kx.k1 (D:=291) (by decide)) (vP 0) kNoName.ex.mgC B.isinstance_)) (dq (aM (XC.cV kx.kit (kx.k1 (D:=310) (by decide)) (vP 0) kNoStretch.ex.mgC B.isinstance_)) (dq (aM (XC.cV kx.kit (kx.k1 (D:=329) (by decide)) (vP 0) kNoChance.ex.mgC B.isinstance_)) dz))))))))))
  (aW (sA (i:=1) sc.nd (gR (eY (vB 1) (dI (cI (cJ (dq (aM (XC.cV kx.kit (kx.k1 (D:=348) (by decide)) (vP 0) kStands.ex.mgC B.isinstance_)) (dq (aM (XC.cV kx.kit (kx.k1 (D:=367) (by decide)) (vP 0) kNoGuest.ex.mgC B.isinstance_)) (dq (aM (XC.cV kx.kit (kx.k1 (D:=386) (by decide)) (vP 0) kInHouse.ex.mgC B.isinstance_)) (dq (aM (XC.cV kx.kit (kx.k1 (D:=405) (by decide)) (vP 0) kNotTaken.ex.mgC B.isinstance_)) dz))))))))))
  (bD (cA (cC (mO (eY (vB 1) (dI (cI (cJ (dq (aM (XC.cV kx.kit (kx.k1 (D:=424) (by decide)) (vP 0) kNotTonight.ex.mgC B.isinstance_)) dz)))))))))))))
theorem kZ (D:Dg K mg "_law_values" (top 34) ["_law_made"]) (B:Bl mg) (kaat:XC.KAt K [120,139] "at") (kakind:XC.KAt K [215,253] "kind") (kaname:XC.KAt K [386,329,367,291,310,405,424,348] "name") (kanight:XC.KAt K [234,196] "night") (kanumber:XC.KAt K [272] "number") (karoom:XC.KAt K [158,177] "room"):Has P w K mg base (n + 1) "_law_values" ["_law_made"] (spD K fJ):=by
 have sc:FnScope ["_law_made", "_law_found"] ["_law_made"] (bw (top 34)):=fsc
 exact gH (fl:=[.A,.A]) D sc (by decide) (by decide) fun f cdv A outer s H E hr=>aW (sA (i:=1) sc.nd (cI (cJ (dq (aM (XC.cF kaat (bJ (dx (vB 0) iP)))) (dq (aM (XC.cF kaat (bJ (dx (vB 0) iP)))) (dq (aM (XC.cF karoom (bJ (dx (vB 0) iP)))) (dq (aM (XC.cF karoom (bJ (dx (vB 0) iP)))) (dq (aM (XC.cF kanight (bJ (dx (vB 0) iP)))) (dq (aM (XC.cF kakind (bJ (dx (vB 0) iP)))) (dq (aM (XC.cF kanight (bJ (dx (vB 0) iP)))) dz))))))))))
  (aW (sA (i:=1) sc.nd (gR (eY (vB 1) (dI (cI (cJ (dq (aM (XC.cF kakind (bJ (dx (vB 0) iP)))) (dq (aM (XC.cF kanumber (bJ (dx (vB 0) iP)))) (dq (aM (XC.cF kaname (bJ (dx (vB 0) iP)))) (dq (aM (XC.cF kaname (bJ (dx (vB 0) iP)))) (dq (aM (XC.cF kaname (bJ (dx (vB 0) iP)))) (dq (aM (XC.cF kaname (bJ (dx (vB 0) iP)))) dz))))))))))))
  (bD (cA (cC (mO (eY (vB 1) (dI (cI (cJ (dq (aM (XC.cF kaname (bJ (dx (vB 0) iP)))) (dq (aM (XC.cF kaname (bJ (dx (vB 0) iP)))) (dq (aM (XC.cF kaname (bJ (dx (vB 0) iP)))) (dq (aM (XC.cF kaname (bJ (dx (vB 0) iP)))) dz)))))))))))))
theorem lD (D:Dg K mg "_law_alone" (top 35) ["_law_e", "_law_place"]) (B:Bl mg) (h_law_kinds:Has P w K mg base n "_law_kinds" ["_law_e"] (spD K aO)) (kx:XC.KxP K mg [215,386,101,329,234,367,253,291,44,158,82,120,310,63,139,405,424,348,177,196,272] 24) (vValueError:mg "ValueError" = none):Has P w K mg base (n + 1) "_law_alone" ["_law_e", "_law_place"] (spD K aD):=by
 have sc:FnScope ["_law_e", "_law_place"] ["_law_e", "_law_place"] (bw (top 35)):=fsc
 exact gH (fl:=[.A,.A]) D sc (by decide) (by decide) fun f cdv A outer s H E hr=>aW (gW (rN (nO (iV (iT (aY (XC.Bk kx.kit kx.up (vP 0) kx.inn B.isinstance_)))) (kE (iV (iT (aY (XC.Bm kx.kit kx.vu (vP 0) vValueError B.isinstance_))))))) (bD (cA (cC (kh)))) (dR))
  (bD (cA (cC (jF (fV hr.units) jP (gU (bU h_law_kinds hr (dq (vP 0) dz))) (aY (iD (L:=[]) (fl':=[.A,.A]) rfl ["_law_k"] ["_law_place"] [1] (fG (by rfl) B.range_ (kj (dq iP dz))) (fun _ _ _ _ _=>gN' (i:=0) (show (["_law_k", "_law_place"]:List Str).Nodup by decide +kernel)) (fun _ _ _ _ _=>iB) (fun _ _ _ _ _=>aM (jF (fV hr.units) jP (vP 0) (vP 1) (dj _))))) (dj _)))))
theorem k_ (D:Dg K mg "_law_caught" (top 36) ["_law_kind", "_law_number_here", "_law_text_here"]) (B:Bl mg) (h_law_alone:Has P w K mg base (n + 2) "_law_alone" ["_law_e", "_law_place"] (spD K aD)) (kNoName:XC.ExK K mg "NoName" "name" 291 24) (kNoStay:XC.ExK K mg "NoStay" "at" 120 24) (kNotTaken:XC.ExK K mg "NotTaken" "name" 405 24) (kTooFull:XC.ExK K mg "TooFull" "night" 196 24) (kx:XC.KxP K mg [215,386,101,329,234,367,253,291,44,158,82,120,310,63,139,405,424,348,177,196,272] 24) (kaat:XC.KAt K [120,139] "at") (kaname:XC.KAt K [386,329,367,291,310,405,424,348] "name") (kanight:XC.KAt K [234,196] "night"):Has P w K mg base (n + 3) "_law_caught" ["_law_kind", "_law_number_here", "_law_text_here"] (spD K bA):=by
 have sc:FnScope ["_law_kind", "_law_number_here", "_law_text_here", "_law_found", "_law_e"] ["_law_kind", "_law_number_here", "_law_text_here"] (bw (top 36)):=fsc
 exact gH (fl:=[.A,.A,.A,.A,.A]) D sc (by decide) (by decide) fun f cdv A outer s H E hr=>aW (sA (i:=3) sc.nd (cI (tX)))
  (aW (XC.xq (i:=4) (j:=3) (cl:=(fun c=>bV c [("NoStay", 120, "at"),("TooFull", 196, "night"),("NoName", 291, "name"),("NotTaken", 405, "name")])) (XC.pI (fD (fV hr.units) jP (vP 0) iP (dj _)) (XC.jc kNoStay.ex (by decide +kernel) hr (vP 1)) (XC.pI (fD (fV hr.units) jP (vP 0) iP (dj _)) (XC.jc kTooFull.ex (by decide +kernel) hr (vP 1)) (XC.pI (fD (fV hr.units) jP (vP 0) iP (dj _)) (XC.jc kNoName.ex (by decide +kernel) hr (vP 2)) (XC.jc kNotTaken.ex (by decide +kernel) hr (vP 2))))) (XC.Bp (aj.mpr ⟨⟨_,kNoStay.ex,kx.inn⟩,aj.mpr ⟨⟨_,kTooFull.ex,kx.inn⟩,aj.mpr ⟨⟨_,kNoName.ex,kx.inn⟩,aj.mpr ⟨⟨_,kNotTaken.ex,kx.inn⟩,bQ _⟩⟩⟩⟩)) rfl rfl rfl rfl sc.nd rfl rfl)
  (aW (gW (rN (nO (Bh (vP 3)) (kE (iV (iT (gU (bU h_law_alone hr (dq (vP 3) (dq (bJ (dx (dI (cI (cJ (dq iC (dq iC (dq iC (dq iC dz))))))) (vP 0))) dz))))))))) (bD (cA (cC (kh)))) (dR))
  (aW (gW (fD (fV hr.units) jP (vP 0) iP (dj _)) (bD (cA (cC (jF (fV hr.units) jP (aY (XC.cF kaat (vP 3))) (vP 1) (dj _))))) (dR))
  (aW (gW (fD (fV hr.units) jP (vP 0) iP (dj _)) (bD (cA (cC (jF (fV hr.units) jP (aY (XC.cF kanight (vP 3))) (vP 1) (dj _))))) (dR))
  (bD (cA (cC (jF (fV hr.units) jP (aY (XC.cF kaname (vP 3))) (vP 2) (dj _)))))))))
theorem m_ (D:Dg K mg "_law_kept" (top 37) ["_law_made", "_law_numbers", "_law_texts"]) (B:Bl mg) (h_law_whole:Has P w K mg base n "_law_whole" ["_law_found"] (spD K dW)) (h_law_values:Has P w K mg base n "_law_values" ["_law_made"] (spD K fJ)):Has P w K mg base (n + 1) "_law_kept" ["_law_made", "_law_numbers", "_law_texts"] (spD K eE):=by
 have sc:FnScope ["_law_made", "_law_numbers", "_law_texts", "_law_found"] ["_law_made", "_law_numbers", "_law_texts"] (bw (top 37)):=fsc
 exact gH (fl:=[.A,.A,.A,.A]) D sc (by decide) (by decide) fun f cdv A outer s H E hr=>aW (sA (i:=3) sc.nd (jJ (bU h_law_values hr (dq (vP 0) dz))))
  (aW (gW (rN (nO (iV (iT (aY (jt (jG rfl) nW (by rfl) B.all_ (show bootBuiltins "all" = some (.builtin "all") by decide +kernel) (dq (aY (iD (L:=[]) (fl':=[.A]) rfl ["_law_one"] [] [] (pX (dI (gR (jj (vB 3) gF (d8 iP))))) (fun _ _ _ _ _=>gN' (i:=0) (show (["_law_one"]:List Str).Nodup by decide +kernel)) (fun _ _ _ _ _=>iB) (fun _ _ _ _ _=>bU h_law_whole hr (dq (vP 0) dz)))) dz))))) (kE (iV (iT (aY (jt (jG rfl) nW (by rfl) B.all_ (show bootBuiltins "all" = some (.builtin "all") by decide +kernel) (dq (aY (iD (L:=[]) (fl':=[.A]) rfl ["_law_one"] [] [] (pX (dI (gR (jj (vB 3) (d8 iP) gF)))) (fun _ _ _ _ _=>gN' (i:=0) (show (["_law_one"]:List Str).Nodup by decide +kernel)) (fun _ _ _ _ _=>iB) (fun _ _ _ _ _=>aM (pA (T := "str") (by decide) (vP 0) (by rfl) B.isinstance_ (by rfl) B.str_ PyProof.Rows.boot_str)))) dz)))))))) (bD (cA (cC (kh)))) (dR))
  (bD (cA (cC (jF (fV hr.units) jP (vP 3) (jy (eY (vB 1) (vB 2))) (dj _))))))
theorem Dc {f:Addr} {fd:FuncData} (Fn:FunD K "law" (top 38) f fd) (B:Bl mg) (h_law_part:Has P w K mg base (n + 2) "_law_part" ["_law_script", "_law_at", "_law_k", "_law_many"] (spD K aZ)) (h_law_text:Has P w K mg base (n + 2) "_law_text" ["_law_script", "_law_at"] (spD K dM)) (h_law_number:Has P w K mg base (n + 2) "_law_number" ["_law_script", "_law_at"] (spD K cW)) (h_law_bare:Has P w K mg base (n + 2) "_law_bare" ["_law_text_here"] (spD K fO)) (h_law_counted:Has P w K mg base (n + 2) "_law_counted" ["_law_some"] (spD K dN)) (h_law_named:Has P w K mg base (n + 2) "_law_named" ["_law_some"] (spD K eZ)) (h_law_alone:Has P w K mg base (n + 2) "_law_alone" ["_law_e", "_law_place"] (spD K aD)) (h_law_caught:Has P w K mg base (n + 2) "_law_caught" ["_law_kind", "_law_number_here", "_law_text_here"] (spD K bA)) (h_law_kept:Has P w K mg base (n + 2) "_law_kept" ["_law_made", "_law_numbers", "_law_texts"] (spD K eE)) (kNoKind:XC.ExK K mg "NoKind" "kind" 253 24) (kNoName:XC.ExK K mg "NoName" "name" 291 24) (kakind:XC.KAt K [215,253] "kind") (kaname:XC.KAt K [386,329,367,291,310,405,424,348] "name"):FnOk P w K mg base CX0 (n + 3) f fd ["_law_script"] (spD K qp):=by
 have sc:FnScope ["_law_script", "_law_numbers", "_law_texts", "_law_first", "_law_second", "_law_place", "_law_odd"] ["_law_script"] (bw (top 38)):=fsc
 exact uq (fl:=[.A,.A,.A,.A,.A,.A,.A]) Fn sc (by decide) (by decide) fun f cdv A outer s H E hr=>aW (sA (i:=1) sc.nd (cI (iD (L:=[]) (fl':=[.A,.A]) rfl ["_law_k"] ["_law_script"] [0] (fG (by rfl) B.range_ (kj (dq iP dz))) (fun _ _ _ _ _=>gN' (i:=0) (show (["_law_k", "_law_script"]:List Str).Nodup by decide +kernel)) (fun _ _ _ _ _=>iB) (fun _ _ _ _ _=>bU h_law_number hr (dq (vP 1) (dq (vP 0) dz))))))
  (aW (sA (i:=2) sc.nd (cI (iD (L:=[]) (fl':=[.A,.A]) rfl ["_law_k"] ["_law_script"] [0] (fG (by rfl) B.range_ (kj (dq iP dz))) (fun _ _ _ _ _=>gN' (i:=0) (show (["_law_k", "_law_script"]:List Str).Nodup by decide +kernel)) (fun _ _ _ _ _=>iB) (fun _ _ _ _ _=>bU h_law_text hr (dq (vP 1) (dq (aY (bZ h_ jz iP (vP 0))) dz))))))
  (aW (sA (i:=3) sc.nd (gR (eY (dI (gR (eY (dI (jJ (bU h_law_bare hr (dq (bJ (dx (vB 2) iP)) dz)))) (dI (jJ (bU h_law_counted hr (dq (jy (jj (vB 1) gF (d8 iP))) dz))))))) (dI (jJ (bU h_law_named hr (dq (jy (jj (vB 2) gF (d8 iP))) dz)))))))
  (aW (sA (i:=4) sc.nd (gR (eY (dI (gR (eY (dI (jJ (bU h_law_bare hr (dq (bJ (dx (vB 2) iP)) dz)))) (dI (jJ (bU h_law_counted hr (dq (jy (jj (vB 1) (d8 iP) gF)) dz))))))) (dI (jJ (bU h_law_named hr (dq (jy (jj (vB 2) (d8 iP) (d8 iP))) dz)))))))
  (aW (ud (L:=[]) PassesOwn.never rfl (fG (by rfl) B.range_ (kj (dq iP dz))) (gN' (i:=5) sc.nd) (bD (gW (rN (nO (iV (iT (gU (bU h_law_alone hr (dq (bJ (dx (vB 3) (vP 5))) (dq (vP 5) dz)))))) (kE (iV (iT (gU (bU h_law_alone hr (dq (bJ (dx (vB 4) (vP 5))) (dq (vP 5) dz))))))))) (bD (cA (cC (kh)))) (dR))))
  (aW (gW (iV (iT (aY (jt (jG rfl) nW (by rfl) B.all_ (show bootBuiltins "all" = some (.builtin "all") by decide +kernel) (dq (aY (iD (L:=[]) (fl':=[.A,.A,.A]) rfl ["_law_kind"] ["_law_numbers", "_law_texts"] [1,2] (fG (by rfl) B.range_ (kj (dq iP dz))) (fun _ _ _ _ _=>gN' (i:=0) (show (["_law_kind", "_law_numbers", "_law_texts"]:List Str).Nodup by decide +kernel)) (fun _ _ _ _ _=>iB) (fun _ _ _ _ _=>bU h_law_caught hr (dq (vP 0) (dq (bJ (dx (vB 1) (vP 0))) (dq (bJ (dx (vB 2) (vP 0))) dz)))))) dz))))) (bD (cA (cC (kh)))) (dR))
  (aW (sA (i:=6) sc.nd (dx (dI (cI (cJ (dq (aM (tX)) (dq (aM (kh)) (dq (Bc rfl (dq iC (dq iC dz))) (dq (aM (cJ (dq iC dz))) (dq (Eu (wU)) dz)))))))) (gU (bU h_law_part hr (dq (vP 0) (dq iP (dq iP (dq iP dz))))))))
  (aW (gW (rN (nO (fD (XC.uI hr.units) XC.zE (XC.qb kNoName.ex kNoName.att hr (vP 6)) (vP 6) (dj _)) (kE (fD (XC.uI hr.units) XC.zE (XC.qb kNoKind.ex kNoKind.att hr (vP 6)) (vP 6) (dj _))))) (bD (cA (cC (kh)))) (dR))
  (bD (cA (zj (uh (gU (bU h_law_kept hr (dq (vP 4) (dq (jy (jj (vB 1) (d8 iP) gF)) (dq (jy (jj (vB 2) (d8 iP) (d8 iP))) dz))))) (ug (bU h_law_kept hr (dq (vP 3) (dq (jy (jj (vB 1) gF (d8 iP))) (dq (jy (jj (vB 2) gF (d8 iP))) dz))))))))))))))))
end
end K18
namespace D3
theorem len0 {p:List PySem.Value→Prop} (h:p []):∀ us,us.length=0→p us:=fun us hl=>by
 cases us with
 | nil=>exact h
 | cons _ _=>cases hl
theorem fP {n:Nat} {p:List PySem.Value→Prop} (h:∀ a us,us.length=n→p (a :: us)):∀ us,us.length=n + 1→p us:=fun us hl=>by
 cases us with
 | nil=>cases hl
 | cons a r=>exact h a r (Nat.succ.inj hl)
end D3
namespace K18
open PySem L2 My D3
structure Txt (K:PySem.W.Frag) (mg:Str→Option Value):Prop where
 d__law_cell:Dg K mg "_law_cell" (top 24) ["_law_script", "_law_at"]
 d__law_part:Dg K mg "_law_part" (top 25) ["_law_script", "_law_at", "_law_k", "_law_many"]
 d__law_far:Dg K mg "_law_far" (top 26) ["_law_script", "_law_at"]
 d__law_whole:Dg K mg "_law_whole" (top 27) ["_law_found"]
 d__law_text:Dg K mg "_law_text" (top 28) ["_law_script", "_law_at"]
 d__law_number:Dg K mg "_law_number" (top 29) ["_law_script", "_law_at"]
 d__law_bare:Dg K mg "_law_bare" (top 30) ["_law_text_here"]
 d__law_counted:Dg K mg "_law_counted" (top 31) ["_law_some"]
 d__law_named:Dg K mg "_law_named" (top 32) ["_law_some"]
 d__law_kinds:Dg K mg "_law_kinds" (top 33) ["_law_e"]
 d__law_values:Dg K mg "_law_values" (top 34) ["_law_made"]
 d__law_alone:Dg K mg "_law_alone" (top 35) ["_law_e", "_law_place"]
 d__law_caught:Dg K mg "_law_caught" (top 36) ["_law_kind", "_law_number_here", "_law_text_here"]
 d__law_kept:Dg K mg "_law_kept" (top 37) ["_law_made", "_law_numbers", "_law_texts"]
 d_law:Dl K mg "law" "_law_script" (top 38)
 k_Full:XC.ExK K mg "Full" "kind" 215 24
 k_InHouse:XC.ExK K mg "InHouse" "name" 386 24
 k_NoBook:XC.ExK K mg "NoBook" "text" 101 24
 k_NoChance:XC.ExK K mg "NoChance" "name" 329 24
 k_NoExchange:XC.ExK K mg "NoExchange" "night" 234 24
 k_NoGuest:XC.ExK K mg "NoGuest" "name" 367 24
 k_NoKind:XC.ExK K mg "NoKind" "kind" 253 24
 k_NoName:XC.ExK K mg "NoName" "name" 291 24
 k_NoNumber:XC.ExK K mg "NoNumber" "text" 44 24
 k_NoRoom:XC.ExK K mg "NoRoom" "room" 158 24
 k_NoRow:XC.ExK K mg "NoRow" "text" 82 24
 k_NoStay:XC.ExK K mg "NoStay" "at" 120 24
 k_NoStretch:XC.ExK K mg "NoStretch" "name" 310 24
 k_NoText:XC.ExK K mg "NoText" "text" 63 24
 k_NoWish:XC.ExK K mg "NoWish" "at" 139 24
 k_NotTaken:XC.ExK K mg "NotTaken" "name" 405 24
 k_NotTonight:XC.ExK K mg "NotTonight" "name" 424 24
 k_Stands:XC.ExK K mg "Stands" "name" 348 24
 k_Taken:XC.ExK K mg "Taken" "room" 177 24
 k_TooFull:XC.ExK K mg "TooFull" "night" 196 24
 k_TooMany:XC.ExK K mg "TooMany" "number" 272 24
 kx:XC.KxP K mg [215,386,101,329,234,367,253,291,44,158,82,120,310,63,139,405,424,348,177,196,272] 24
 ka_at:XC.KAt K [120,139] "at"
 ka_kind:XC.KAt K [215,253] "kind"
 ka_name:XC.KAt K [386,329,367,291,310,405,424,348] "name"
 ka_night:XC.KAt K [234,196] "night"
 ka_number:XC.KAt K [272] "number"
 ka_room:XC.KAt K [158,177] "room"
 v_ValueError:mg "ValueError" = none
 blt:Bl mg
theorem Dh {P:Program} {w:World} {K:PySem.W.Frag} {mg:Str→Option Value} {base:Heap} (T:Txt K mg) {f:Addr} {fd:FuncData} (F:FunD K "law" (top 38) f fd):FnOk P w K mg base CX0 65 f fd ["_law_script"] (ur K):=by
 have h__law_cell:=m6 (P:=P) (w:=w) (base:=base) (n:=0) T.d__law_cell T.blt
 have h__law_whole:=lu (P:=P) (w:=w) (base:=base) (n:=0) T.d__law_whole T.blt
 have h__law_kinds:=lB (P:=P) (w:=w) (base:=base) (n:=0) T.d__law_kinds T.blt T.k_Full T.k_InHouse T.k_NoBook T.k_NoChance T.k_NoExchange T.k_NoGuest T.k_NoKind T.k_NoName T.k_NoNumber T.k_NoRoom T.k_NoRow T.k_NoStay T.k_NoStretch T.k_NoText T.k_NoWish T.k_NotTaken T.k_NotTonight T.k_Stands T.k_Taken T.k_TooFull T.k_TooMany T.kx
 have h__law_values:=kZ (P:=P) (w:=w) (base:=base) (n:=0) T.d__law_values T.blt T.ka_at T.ka_kind T.ka_name T.ka_night T.ka_number T.ka_room
 have h__law_part:=m7 (P:=P) (w:=w) (base:=base) (n:=1) T.d__law_part T.blt (h__law_cell.mono (by decide))
 have h__law_alone:=lD (P:=P) (w:=w) (base:=base) (n:=1) T.d__law_alone T.blt (h__law_kinds.mono (by decide)) T.kx T.v_ValueError
 have h__law_kept:=m_ (P:=P) (w:=w) (base:=base) (n:=1) T.d__law_kept T.blt (h__law_whole.mono (by decide)) (h__law_values.mono (by decide))
 have h__law_far:=oO (P:=P) (w:=w) (base:=base) (n:=2) T.d__law_far T.blt (h__law_part.mono (by decide))
 have h__law_text:=m8 (P:=P) (w:=w) (base:=base) (n:=2) T.d__law_text T.blt (h__law_part.mono (by decide))
 have h__law_bare:=m9 (P:=P) (w:=w) (base:=base) (n:=0) T.d__law_bare T.blt T.k_NoBook T.k_NoNumber T.k_NoRow T.k_NoText
 have h__law_counted:=jQ (P:=P) (w:=w) (base:=base) (n:=0) T.d__law_counted T.blt T.k_Full T.k_NoExchange T.k_NoKind T.k_NoRoom T.k_NoStay T.k_NoWish T.k_Taken T.k_TooFull T.k_TooMany
 have h__law_named:=lA (P:=P) (w:=w) (base:=base) (n:=0) T.d__law_named T.blt T.k_InHouse T.k_NoChance T.k_NoGuest T.k_NoName T.k_NoStretch T.k_NotTaken T.k_NotTonight T.k_Stands
 have h__law_number:=kY (P:=P) (w:=w) (base:=base) (n:=3) T.d__law_number T.blt (h__law_part.mono (by decide)) (h__law_far.mono (by decide))
 have h__law_caught:=k_ (P:=P) (w:=w) (base:=base) (n:=2) T.d__law_caught T.blt (h__law_alone.mono (by decide)) T.k_NoName T.k_NoStay T.k_NotTaken T.k_TooFull T.kx T.ka_at T.ka_name T.ka_night
 exact ((Dc (P:=P) (w:=w) (base:=base) (n:=5) F T.blt (h__law_part.mono (by decide)) (h__law_text.mono (by decide)) (h__law_number.mono (by decide)) (h__law_bare.mono (by decide)) (h__law_counted.mono (by decide)) (h__law_named.mono (by decide)) (h__law_alone.mono (by decide)) (h__law_caught.mono (by decide)) (h__law_kept.mono (by decide)) T.k_NoKind T.k_NoName T.ka_kind T.ka_name).mono (by decide)).imp (wR K18.vI)
end K18
def PySem.W.Fast.tw14201225092050625455:=0
def PySem.W.Fast.tw15083973433526733138:=0
def PySem.W.Fast.tw12524770346283533065:=0
def PySem.W.Fast.tw9764665565932323338:=0
def PySem.W.Fast.tw15964551143185268298:=0
def PySem.W.Fast.tw16149452084352055343:=0
def PySem.W.Fast.tw3023638992713288360:=0
def PySem.W.Fast.tw15771678736699875704:=0
def PySem.W.Fast.tw9160913169634828471:=0
def PySem.W.Fast.tw2940620346730115055:=0
def PySem.W.Fast.tw7579865177179070030:=0
def PySem.W.Fast.tw18132845339167535853:=0
def PySem.W.Fast.tw15388057135289855031:=0
def PySem.W.Fast.tw8216879259528304511:=0
def PySem.W.Fast.tw13564948127769068598:=0
def PySem.W.Fast.tw10073699423919976475:=0
def PySem.W.Fast.tw1808987636620840987:=0
def PySem.W.Fast.tw11286900424425519908:=0
def PySem.W.Fast.tw219237861170963510:=0
def PySem.W.Fast.tw9380784280052778988:=0
def PySem.W.Fast.tw15547189472713758535:=0
def PySem.W.Fast.tw2891610714172056393:=0
def PySem.W.Fast.tw11738561822750257257:=0
def PySem.W.Fast.tw15314039924083977841:=0
def PySem.W.Fast.tw14803410060005358057:=0
def PySem.W.Fast.tw5811606585188964110:=0
def PySem.W.Fast.tw15672150856264837958:=0
def PySem.W.Fast.tw5302142817850948348:=0
def PySem.W.Fast.tw1134330463960512029:=0
def PySem.W.Fast.tw2164159206983405736:=0
def PySem.W.Fast.tw5629505723720451245:=0
open PySem PySem.W PyProof.Rows
set_option maxRecDepth 100000 in
set_option maxHeartbeats 0 in
theorem PySem.Challenge.cw_nightbook_k18_refusals_apart_holds : PySem.Challenge.rw_nightbook_k18_refusals_apart.Holds := by
 w_on;o_law;k_head;(case hw=>w_witness2)
 k_fill
 refine L2.tu (l:=PySem.Challenge.rw_nightbook_k18_refusals_apart) (n:=63) (k:=65) (x := "_law_script") (CX:=L2.CX0) (sp:=D3.ur) rfl (by decide) rfl ⟨rfl,by decide,by decide⟩ (fun w h Y=>PySem.W.kIn_of Y) ?F D3.tabs (fun _ _ _=>⟨(fun _ h=>nomatch (show _ ∈ ([]:List (Addr × Str × Pos)) from h)),(fun _ h=>nomatch (show _ ∈ ([]:List (Addr × Str × Pos)) from h)),(fun _ h=>nomatch (show _ ∈ ([]:List (Addr × Str × Pos)) from h))⟩) (fun _ h=>nomatch (show _ ∈ ([]:List (Addr × Str × Pos)) from h)) ?S ?C
 case F =>
  intro w mg fa h KX G hmg
  have T:K18.Txt (L2.KOf KX) mg:=by
   dsimp only [L2.KOf]
   have d__law_cell:D3.Dg (L2.KOf KX) mg "_law_cell" (K18.top 24) ["_law_script", "_law_at"]:=by
    dsimp only [L2.KOf]
    refine' D3.gG KX G ?b ?a ?l ?c ?k
    (case a=>k_is);(case l=>k_is);(case c=>k_is);(case k=>k_is)
    (case b=>exact fun _ _ _ _ _ _=>D3.fP fun _=>D3.fP fun _=>D3.len0 rfl)
   have d__law_part:D3.Dg (L2.KOf KX) mg "_law_part" (K18.top 25) ["_law_script", "_law_at", "_law_k", "_law_many"]:=by
    dsimp only [L2.KOf]
    refine' D3.gG KX G ?b ?a ?l ?c ?k
    (case a=>k_is);(case l=>k_is);(case c=>k_is);(case k=>k_is)
    (case b=>exact fun _ _ _ _ _ _=>D3.fP fun _=>D3.fP fun _=>D3.fP fun _=>D3.fP fun _=>D3.len0 rfl)
   have d__law_far:D3.Dg (L2.KOf KX) mg "_law_far" (K18.top 26) ["_law_script", "_law_at"]:=by
    dsimp only [L2.KOf]
    refine' D3.gG KX G ?b ?a ?l ?c ?k
    (case a=>k_is);(case l=>k_is);(case c=>k_is);(case k=>k_is)
    (case b=>exact fun _ _ _ _ _ _=>D3.fP fun _=>D3.fP fun _=>D3.len0 rfl)
   have d__law_whole:D3.Dg (L2.KOf KX) mg "_law_whole" (K18.top 27) ["_law_found"]:=by
    dsimp only [L2.KOf]
    refine' D3.gG KX G ?b ?a ?l ?c ?k
    (case a=>k_is);(case l=>k_is);(case c=>k_is);(case k=>k_is)
    (case b=>exact fun _ _ _ _ _ _=>D3.fP fun _=>D3.len0 rfl)
   have d__law_text:D3.Dg (L2.KOf KX) mg "_law_text" (K18.top 28) ["_law_script", "_law_at"]:=by
    dsimp only [L2.KOf]
    refine' D3.gG KX G ?b ?a ?l ?c ?k
    (case a=>k_is);(case l=>k_is);(case c=>k_is);(case k=>k_is)
    (case b=>exact fun _ _ _ _ _ _=>D3.fP fun _=>D3.fP fun _=>D3.len0 rfl)
   have d__law_number:D3.Dg (L2.KOf KX) mg "_law_number" (K18.top 29) ["_law_script", "_law_at"]:=by
    dsimp only [L2.KOf]
    refine' D3.gG KX G ?b ?a ?l ?c ?k
    (case a=>k_is);(case l=>k_is);(case c=>k_is);(case k=>k_is)
    (case b=>exact fun _ _ _ _ _ _=>D3.fP fun _=>D3.fP fun _=>D3.len0 rfl)
   have d__law_bare:D3.Dg (L2.KOf KX) mg "_law_bare" (K18.top 30) ["_law_text_here"]:=by
    dsimp only [L2.KOf]
    refine' D3.gG KX G ?b ?a ?l ?c ?k
    (case a=>k_is);(case l=>k_is);(case c=>k_is);(case k=>k_is)
    (case b=>exact fun _ _ _ _ _ _=>D3.fP fun _=>D3.len0 rfl)
   have d__law_counted:D3.Dg (L2.KOf KX) mg "_law_counted" (K18.top 31) ["_law_some"]:=by
    dsimp only [L2.KOf]
    refine' D3.gG KX G ?b ?a ?l ?c ?k
    (case a=>k_is);(case l=>k_is);(case c=>k_is);(case k=>k_is)
    (case b=>exact fun _ _ _ _ _ _=>D3.fP fun _=>D3.len0 rfl)
   have d__law_named:D3.Dg (L2.KOf KX) mg "_law_named" (K18.top 32) ["_law_some"]:=by
    dsimp only [L2.KOf]
    refine' D3.gG KX G ?b ?a ?l ?c ?k
    (case a=>k_is);(case l=>k_is);(case c=>k_is);(case k=>k_is)
    (case b=>exact fun _ _ _ _ _ _=>D3.fP fun _=>D3.len0 rfl)
   have d__law_kinds:D3.Dg (L2.KOf KX) mg "_law_kinds" (K18.top 33) ["_law_e"]:=by
    dsimp only [L2.KOf]
    refine' D3.gG KX G ?b ?a ?l ?c ?k
    (case a=>k_is);(case l=>k_is);(case c=>k_is);(case k=>k_is)
    (case b=>exact fun _ _ _ _ _ _=>D3.fP fun _=>D3.len0 rfl)
   have d__law_values:D3.Dg (L2.KOf KX) mg "_law_values" (K18.top 34) ["_law_made"]:=by
    dsimp only [L2.KOf]
    refine' D3.gG KX G ?b ?a ?l ?c ?k
    (case a=>k_is);(case l=>k_is);(case c=>k_is);(case k=>k_is)
    (case b=>exact fun _ _ _ _ _ _=>D3.fP fun _=>D3.len0 rfl)
   have d__law_alone:D3.Dg (L2.KOf KX) mg "_law_alone" (K18.top 35) ["_law_e", "_law_place"]:=by
    dsimp only [L2.KOf]
    refine' D3.gG KX G ?b ?a ?l ?c ?k
    (case a=>k_is);(case l=>k_is);(case c=>k_is);(case k=>k_is)
    (case b=>exact fun _ _ _ _ _ _=>D3.fP fun _=>D3.fP fun _=>D3.len0 rfl)
   have d__law_caught:D3.Dg (L2.KOf KX) mg "_law_caught" (K18.top 36) ["_law_kind", "_law_number_here", "_law_text_here"]:=by
    dsimp only [L2.KOf]
    refine' D3.gG KX G ?b ?a ?l ?c ?k
    (case a=>k_is);(case l=>k_is);(case c=>k_is);(case k=>k_is)
    (case b=>exact fun _ _ _ _ _ _=>D3.fP fun _=>D3.fP fun _=>D3.fP fun _=>D3.len0 rfl)
   have d__law_kept:D3.Dg (L2.KOf KX) mg "_law_kept" (K18.top 37) ["_law_made", "_law_numbers", "_law_texts"]:=by
    dsimp only [L2.KOf]
    refine' D3.gG KX G ?b ?a ?l ?c ?k
    (case a=>k_is);(case l=>k_is);(case c=>k_is);(case k=>k_is)
    (case b=>exact fun _ _ _ _ _ _=>D3.fP fun _=>D3.fP fun _=>D3.fP fun _=>D3.len0 rfl)
   have d_law:D3.Dl (L2.KOf KX) mg "law" "_law_script" (K18.top 38):=by
    dsimp only [L2.KOf]
    refine' D3.Et KX G ?b ?a ?l ?c ?k
    (case a=>k_is);(case l=>k_is);(case c=>k_is);(case k=>k_is)
    (case b=>exact fun _ _ _ _ _ _ u=>rfl)
   have k_Full:XC.ExK (L2.KOf KX) mg "Full" "kind" 215 24:=by
    dsimp only [L2.KOf]
    refine' ⟨XC.cT KX G ?a ?kp ?lC ?lI ?lN ?oN ?lNI ?oNI ?i1 ?i2 ?s1 ?s2 ?n1 ?n2 ?hB ?lk ?hcd ?sc ?l1 ?l2 ?hb ?ne ?nd ?nc,⟨⟨?e1,?e2,?e3⟩,?k2,?k3,?k4,?k5,?k6⟩,⟨⟨?e4,?e5,?e6⟩,?a2,?a3⟩⟩
    (case a=>k_is);(case kp=>k_is);(case lC=>k_is);(case lI=>k_is);(case lN=>k_is);(case lNI=>k_is);(case oN=>rfl);(case oNI=>rfl)
    (case i1=>k_is);(case i2=>k_is);(case s1=>k_is);(case s2=>k_is);(case n1=>k_is);(case n2=>k_is)
    (case hB=>rw [typeLookup_type,builtinLookup_eq_fast];kernel_rfl)
    (case lk=>k_is);(case hcd=>k_is);(case sc=>exact ⟨rfl,rfl,rfl,by decide +kernel,rfl,by decide +kernel,by decide +kernel⟩);(case l1=>rfl);(case l2=>rfl)
    (case hb=>exact fun _ _=>rfl);(case ne=>decide);(case nd=>decide);(case nc=>decide)
    (case e1=>kernel_rfl);(case e2=>kernel_rfl);(case e3=>kernel_rfl);(case k2=>kernel_rfl);(case k3=>kernel_rfl);(case k4=>kernel_rfl);(case k5=>kernel_rfl);(case k6=>kernel_rfl)
    (case e4=>kernel_rfl);(case e5=>kernel_rfl);(case e6=>kernel_rfl);(case a2=>kernel_rfl);(case a3=>kernel_rfl)
   have k_InHouse:XC.ExK (L2.KOf KX) mg "InHouse" "name" 386 24:=by
    dsimp only [L2.KOf]
    refine' ⟨XC.cT KX G ?a ?kp ?lC ?lI ?lN ?oN ?lNI ?oNI ?i1 ?i2 ?s1 ?s2 ?n1 ?n2 ?hB ?lk ?hcd ?sc ?l1 ?l2 ?hb ?ne ?nd ?nc,⟨⟨?e1,?e2,?e3⟩,?k2,?k3,?k4,?k5,?k6⟩,⟨⟨?e4,?e5,?e6⟩,?a2,?a3⟩⟩
    (case a=>k_is);(case kp=>k_is);(case lC=>k_is);(case lI=>k_is);(case lN=>k_is);(case lNI=>k_is);(case oN=>rfl);(case oNI=>rfl)
    (case i1=>k_is);(case i2=>k_is);(case s1=>k_is);(case s2=>k_is);(case n1=>k_is);(case n2=>k_is)
    (case hB=>rw [typeLookup_type,builtinLookup_eq_fast];kernel_rfl)
    (case lk=>k_is);(case hcd=>k_is);(case sc=>exact ⟨rfl,rfl,rfl,by decide +kernel,rfl,by decide +kernel,by decide +kernel⟩);(case l1=>rfl);(case l2=>rfl)
    (case hb=>exact fun _ _=>rfl);(case ne=>decide);(case nd=>decide);(case nc=>decide)
    (case e1=>kernel_rfl);(case e2=>kernel_rfl);(case e3=>kernel_rfl);(case k2=>kernel_rfl);(case k3=>kernel_rfl);(case k4=>kernel_rfl);(case k5=>kernel_rfl);(case k6=>kernel_rfl)
    (case e4=>kernel_rfl);(case e5=>kernel_rfl);(case e6=>kernel_rfl);(case a2=>kernel_rfl);(case a3=>kernel_rfl)
   have k_NoBook:XC.ExK (L2.KOf KX) mg "NoBook" "text" 101 24:=by
    dsimp only [L2.KOf]
    refine' ⟨XC.cT KX G ?a ?kp ?lC ?lI ?lN ?oN ?lNI ?oNI ?i1 ?i2 ?s1 ?s2 ?n1 ?n2 ?hB ?lk ?hcd ?sc ?l1 ?l2 ?hb ?ne ?nd ?nc,⟨⟨?e1,?e2,?e3⟩,?k2,?k3,?k4,?k5,?k6⟩,⟨⟨?e4,?e5,?e6⟩,?a2,?a3⟩⟩
    (case a=>k_is);(case kp=>k_is);(case lC=>k_is);(case lI=>k_is);(case lN=>k_is);(case lNI=>k_is);(case oN=>rfl);(case oNI=>rfl)
    (case i1=>k_is);(case i2=>k_is);(case s1=>k_is);(case s2=>k_is);(case n1=>k_is);(case n2=>k_is)
    (case hB=>rw [typeLookup_type,builtinLookup_eq_fast];kernel_rfl)
    (case lk=>k_is);(case hcd=>k_is);(case sc=>exact ⟨rfl,rfl,rfl,by decide +kernel,rfl,by decide +kernel,by decide +kernel⟩);(case l1=>rfl);(case l2=>rfl)
    (case hb=>exact fun _ _=>rfl);(case ne=>decide);(case nd=>decide);(case nc=>decide)
    (case e1=>kernel_rfl);(case e2=>kernel_rfl);(case e3=>kernel_rfl);(case k2=>kernel_rfl);(case k3=>kernel_rfl);(case k4=>kernel_rfl);(case k5=>kernel_rfl);(case k6=>kernel_rfl)
    (case e4=>kernel_rfl);(case e5=>kernel_rfl);(case e6=>kernel_rfl);(case a2=>kernel_rfl);(case a3=>kernel_rfl)
   have k_NoChance:XC.ExK (L2.KOf KX) mg "NoChance" "name" 329 24:=by
    dsimp only [L2.KOf]
    refine' ⟨XC.cT KX G ?a ?kp ?lC ?lI ?lN ?oN ?lNI ?oNI ?i1 ?i2 ?s1 ?s2 ?n1 ?n2 ?hB ?lk ?hcd ?sc ?l1 ?l2 ?hb ?ne ?nd ?nc,⟨⟨?e1,?e2,?e3⟩,?k2,?k3,?k4,?k5,?k6⟩,⟨⟨?e4,?e5,?e6⟩,?a2,?a3⟩⟩
    (case a=>k_is);(case kp=>k_is);(case lC=>k_is);(case lI=>k_is);(case lN=>k_is);(case lNI=>k_is);(case oN=>rfl);(case oNI=>rfl)
    (case i1=>k_is);(case i2=>k_is);(case s1=>k_is);(case s2=>k_is);(case n1=>k_is);(case n2=>k_is)
    (case hB=>rw [typeLookup_type,builtinLookup_eq_fast];kernel_rfl)
    (case lk=>k_is);(case hcd=>k_is);(case sc=>exact ⟨rfl,rfl,rfl,by decide +kernel,rfl,by decide +kernel,by decide +kernel⟩);(case l1=>rfl);(case l2=>rfl)
    (case hb=>exact fun _ _=>rfl);(case ne=>decide);(case nd=>decide);(case nc=>decide)
    (case e1=>kernel_rfl);(case e2=>kernel_rfl);(case e3=>kernel_rfl);(case k2=>kernel_rfl);(case k3=>kernel_rfl);(case k4=>kernel_rfl);(case k5=>kernel_rfl);(case k6=>kernel_rfl)
    (case e4=>kernel_rfl);(case e5=>kernel_rfl);(case e6=>kernel_rfl);(case a2=>kernel_rfl);(case a3=>kernel_rfl)
   have k_NoExchange:XC.ExK (L2.KOf KX) mg "NoExchange" "night" 234 24:=by
    dsimp only [L2.KOf]
    refine' ⟨XC.cT KX G ?a ?kp ?lC ?lI ?lN ?oN ?lNI ?oNI ?i1 ?i2 ?s1 ?s2 ?n1 ?n2 ?hB ?lk ?hcd ?sc ?l1 ?l2 ?hb ?ne ?nd ?nc,⟨⟨?e1,?e2,?e3⟩,?k2,?k3,?k4,?k5,?k6⟩,⟨⟨?e4,?e5,?e6⟩,?a2,?a3⟩⟩
    (case a=>k_is);(case kp=>k_is);(case lC=>k_is);(case lI=>k_is);(case lN=>k_is);(case lNI=>k_is);(case oN=>rfl);(case oNI=>rfl)
    (case i1=>k_is);(case i2=>k_is);(case s1=>k_is);(case s2=>k_is);(case n1=>k_is);(case n2=>k_is)
    (case hB=>rw [typeLookup_type,builtinLookup_eq_fast];kernel_rfl)
    (case lk=>k_is);(case hcd=>k_is);(case sc=>exact ⟨rfl,rfl,rfl,by decide +kernel,rfl,by decide +kernel,by decide +kernel⟩);(case l1=>rfl);(case l2=>rfl)
    (case hb=>exact fun _ _=>rfl);(case ne=>decide);(case nd=>decide);(case nc=>decide)
    (case e1=>kernel_rfl);(case e2=>kernel_rfl);(case e3=>kernel_rfl);(case k2=>kernel_rfl);(case k3=>kernel_rfl);(case k4=>kernel_rfl);(case k5=>kernel_rfl);(case k6=>kernel_rfl)
    (case e4=>kernel_rfl);(case e5=>kernel_rfl);(case e6=>kernel_rfl);(case a2=>kernel_rfl);(case a3=>kernel_rfl)
   have k_NoGuest:XC.ExK (L2.KOf KX) mg "NoGuest" "name" 367 24:=by
    dsimp only [L2.KOf]
    refine' ⟨XC.cT KX G ?a ?kp ?lC ?lI ?lN ?oN ?lNI ?oNI ?i1 ?i2 ?s1 ?s2 ?n1 ?n2 ?hB ?lk ?hcd ?sc ?l1 ?l2 ?hb ?ne ?nd ?nc,⟨⟨?e1,?e2,?e3⟩,?k2,?k3,?k4,?k5,?k6⟩,⟨⟨?e4,?e5,?e6⟩,?a2,?a3⟩⟩
    (case a=>k_is);(case kp=>k_is);(case lC=>k_is);(case lI=>k_is);(case lN=>k_is);(case lNI=>k_is);(case oN=>rfl);(case oNI=>rfl)
    (case i1=>k_is);(case i2=>k_is);(case s1=>k_is);(case s2=>k_is);(case n1=>k_is);(case n2=>k_is)
    (case hB=>rw [typeLookup_type,builtinLookup_eq_fast];kernel_rfl)
    (case lk=>k_is);(case hcd=>k_is);(case sc=>exact ⟨rfl,rfl,rfl,by decide +kernel,rfl,by decide +kernel,by decide +kernel⟩);(case l1=>rfl);(case l2=>rfl)
    (case hb=>exact fun _ _=>rfl);(case ne=>decide);(case nd=>decide);(case nc=>decide)
    (case e1=>kernel_rfl);(case e2=>kernel_rfl);(case e3=>kernel_rfl);(case k2=>kernel_rfl);(case k3=>kernel_rfl);(case k4=>kernel_rfl);(case k5=>kernel_rfl);(case k6=>kernel_rfl)
    (case e4=>kernel_rfl);(case e5=>kernel_rfl);(case e6=>kernel_rfl);(case a2=>kernel_rfl);(case a3=>kernel_rfl)
   have k_NoKind:XC.ExK (L2.KOf KX) mg "NoKind" "kind" 253 24:=by
    dsimp only [L2.KOf]
    refine' ⟨XC.cT KX G ?a ?kp ?lC ?lI ?lN ?oN ?lNI ?oNI ?i1 ?i2 ?s1 ?s2 ?n1 ?n2 ?hB ?lk ?hcd ?sc ?l1 ?l2 ?hb ?ne ?nd ?nc,⟨⟨?e1,?e2,?e3⟩,?k2,?k3,?k4,?k5,?k6⟩,⟨⟨?e4,?e5,?e6⟩,?a2,?a3⟩⟩
    (case a=>k_is);(case kp=>k_is);(case lC=>k_is);(case lI=>k_is);(case lN=>k_is);(case lNI=>k_is);(case oN=>rfl);(case oNI=>rfl)
    (case i1=>k_is);(case i2=>k_is);(case s1=>k_is);(case s2=>k_is);(case n1=>k_is);(case n2=>k_is)
    (case hB=>rw [typeLookup_type,builtinLookup_eq_fast];kernel_rfl)
    (case lk=>k_is);(case hcd=>k_is);(case sc=>exact ⟨rfl,rfl,rfl,by decide +kernel,rfl,by decide +kernel,by decide +kernel⟩);(case l1=>rfl);(case l2=>rfl)
    (case hb=>exact fun _ _=>rfl);(case ne=>decide);(case nd=>decide);(case nc=>decide)
    (case e1=>kernel_rfl);(case e2=>kernel_rfl);(case e3=>kernel_rfl);(case k2=>kernel_rfl);(case k3=>kernel_rfl);(case k4=>kernel_rfl);(case k5=>kernel_rfl);(case k6=>kernel_rfl)
    (case e4=>kernel_rfl);(case e5=>kernel_rfl);(case e6=>kernel_rfl);(case a2=>kernel_rfl);(case a3=>kernel_rfl)
   have k_NoName:XC.ExK (L2.KOf KX) mg "NoName" "name" 291 24:=by
    dsimp only [L2.KOf]
    refine' ⟨XC.cT KX G ?a ?kp ?lC ?lI ?lN ?oN ?lNI ?oNI ?i1 ?i2 ?s1 ?s2 ?n1 ?n2 ?hB ?lk ?hcd ?sc ?l1 ?l2 ?hb ?ne ?nd ?nc,⟨⟨?e1,?e2,?e3⟩,?k2,?k3,?k4,?k5,?k6⟩,⟨⟨?e4,?e5,?e6⟩,?a2,?a3⟩⟩
    (case a=>k_is);(case kp=>k_is);(case lC=>k_is);(case lI=>k_is);(case lN=>k_is);(case lNI=>k_is);(case oN=>rfl);(case oNI=>rfl)
    (case i1=>k_is);(case i2=>k_is);(case s1=>k_is);(case s2=>k_is);(case n1=>k_is);(case n2=>k_is)
    (case hB=>rw [typeLookup_type,builtinLookup_eq_fast];kernel_rfl)
    (case lk=>k_is);(case hcd=>k_is);(case sc=>exact ⟨rfl,rfl,rfl,by decide +kernel,rfl,by decide +kernel,by decide +kernel⟩);(case l1=>rfl);(case l2=>rfl)
    (case hb=>exact fun _ _=>rfl);(case ne=>decide);(case nd=>decide);(case nc=>decide)
    (case e1=>kernel_rfl);(case e2=>kernel_rfl);(case e3=>kernel_rfl);(case k2=>kernel_rfl);(case k3=>kernel_rfl);(case k4=>kernel_rfl);(case k5=>kernel_rfl);(case k6=>kernel_rfl)
    (case e4=>kernel_rfl);(case e5=>kernel_rfl);(case e6=>kernel_rfl);(case a2=>kernel_rfl);(case a3=>kernel_rfl)
   have k_NoNumber:XC.ExK (L2.KOf KX) mg "NoNumber" "text" 44 24:=by
    dsimp only [L2.KOf]
    refine' ⟨XC.cT KX G ?a ?kp ?lC ?lI ?lN ?oN ?lNI ?oNI ?i1 ?i2 ?s1 ?s2 ?n1 ?n2 ?hB ?lk ?hcd ?sc ?l1 ?l2 ?hb ?ne ?nd ?nc,⟨⟨?e1,?e2,?e3⟩,?k2,?k3,?k4,?k5,?k6⟩,⟨⟨?e4,?e5,?e6⟩,?a2,?a3⟩⟩
    (case a=>k_is);(case kp=>k_is);(case lC=>k_is);(case lI=>k_is);(case lN=>k_is);(case lNI=>k_is);(case oN=>rfl);(case oNI=>rfl)
    (case i1=>k_is);(case i2=>k_is);(case s1=>k_is);(case s2=>k_is);(case n1=>k_is);(case n2=>k_is)
    (case hB=>rw [typeLookup_type,builtinLookup_eq_fast];kernel_rfl)
    (case lk=>k_is);(case hcd=>k_is);(case sc=>exact ⟨rfl,rfl,rfl,by decide +kernel,rfl,by decide +kernel,by decide +kernel⟩);(case l1=>rfl);(case l2=>rfl)
    (case hb=>exact fun _ _=>rfl);(case ne=>decide);(case nd=>decide);(case nc=>decide)
    (case e1=>kernel_rfl);(case e2=>kernel_rfl);(case e3=>kernel_rfl);(case k2=>kernel_rfl);(case k3=>kernel_rfl);(case k4=>kernel_rfl);(case k5=>kernel_rfl);(case k6=>kernel_rfl)
    (case e4=>kernel_rfl);(case e5=>kernel_rfl);(case e6=>kernel_rfl);(case a2=>kernel_rfl);(case a3=>kernel_rfl)
   have k_NoRoom:XC.ExK (L2.KOf KX) mg "NoRoom" "room" 158 24:=by
    dsimp only [L2.KOf]
    refine' ⟨XC.cT KX G ?a ?kp ?lC ?lI ?lN ?oN ?lNI ?oNI ?i1 ?i2 ?s1 ?s2 ?n1 ?n2 ?hB ?lk ?hcd ?sc ?l1 ?l2 ?hb ?ne ?nd ?nc,⟨⟨?e1,?e2,?e3⟩,?k2,?k3,?k4,?k5,?k6⟩,⟨⟨?e4,?e5,?e6⟩,?a2,?a3⟩⟩
    (case a=>k_is);(case kp=>k_is);(case lC=>k_is);(case lI=>k_is);(case lN=>k_is);(case lNI=>k_is);(case oN=>rfl);(case oNI=>rfl)
    (case i1=>k_is);(case i2=>k_is);(case s1=>k_is);(case s2=>k_is);(case n1=>k_is);(case n2=>k_is)
    (case hB=>rw [typeLookup_type,builtinLookup_eq_fast];kernel_rfl)
    (case lk=>k_is);(case hcd=>k_is);(case sc=>exact ⟨rfl,rfl,rfl,by decide +kernel,rfl,by decide +kernel,by decide +kernel⟩);(case l1=>rfl);(case l2=>rfl)
    (case hb=>exact fun _ _=>rfl);(case ne=>decide);(case nd=>decide);(case nc=>decide)
    (case e1=>kernel_rfl);(case e2=>kernel_rfl);(case e3=>kernel_rfl);(case k2=>kernel_rfl);(case k3=>kernel_rfl);(case k4=>kernel_rfl);(case k5=>kernel_rfl);(case k6=>kernel_rfl)
    (case e4=>kernel_rfl);(case e5=>kernel_rfl);(case e6=>kernel_rfl);(case a2=>kernel_rfl);(case a3=>kernel_rfl)
   have k_NoRow:XC.ExK (L2.KOf KX) mg "NoRow" "text" 82 24:=by
    dsimp only [L2.KOf]
    refine' ⟨XC.cT KX G ?a ?kp ?lC ?lI ?lN ?oN ?lNI ?oNI ?i1 ?i2 ?s1 ?s2 ?n1 ?n2 ?hB ?lk ?hcd ?sc ?l1 ?l2 ?hb ?ne ?nd ?nc,⟨⟨?e1,?e2,?e3⟩,?k2,?k3,?k4,?k5,?k6⟩,⟨⟨?e4,?e5,?e6⟩,?a2,?a3⟩⟩
    (case a=>k_is);(case kp=>k_is);(case lC=>k_is);(case lI=>k_is);(case lN=>k_is);(case lNI=>k_is);(case oN=>rfl);(case oNI=>rfl)
    (case i1=>k_is);(case i2=>k_is);(case s1=>k_is);(case s2=>k_is);(case n1=>k_is);(case n2=>k_is)
    (case hB=>rw [typeLookup_type,builtinLookup_eq_fast];kernel_rfl)
    (case lk=>k_is);(case hcd=>k_is);(case sc=>exact ⟨rfl,rfl,rfl,by decide +kernel,rfl,by decide +kernel,by decide +kernel⟩);(case l1=>rfl);(case l2=>rfl)
    (case hb=>exact fun _ _=>rfl);(case ne=>decide);(case nd=>decide);(case nc=>decide)
    (case e1=>kernel_rfl);(case e2=>kernel_rfl);(case e3=>kernel_rfl);(case k2=>kernel_rfl);(case k3=>kernel_rfl);(case k4=>kernel_rfl);(case k5=>kernel_rfl);(case k6=>kernel_rfl)
    (case e4=>kernel_rfl);(case e5=>kernel_rfl);(case e6=>kernel_rfl);(case a2=>kernel_rfl);(case a3=>kernel_rfl)
   have k_NoStay:XC.ExK (L2.KOf KX) mg "NoStay" "at" 120 24:=by
    dsimp only [L2.KOf]
    refine' ⟨XC.cT KX G ?a ?kp ?lC ?lI ?lN ?oN ?lNI ?oNI ?i1 ?i2 ?s1 ?s2 ?n1 ?n2 ?hB ?lk ?hcd ?sc ?l1 ?l2 ?hb ?ne ?nd ?nc,⟨⟨?e1,?e2,?e3⟩,?k2,?k3,?k4,?k5,?k6⟩,⟨⟨?e4,?e5,?e6⟩,?a2,?a3⟩⟩
    (case a=>k_is);(case kp=>k_is);(case lC=>k_is);(case lI=>k_is);(case lN=>k_is);(case lNI=>k_is);(case oN=>rfl);(case oNI=>rfl)
    (case i1=>k_is);(case i2=>k_is);(case s1=>k_is);(case s2=>k_is);(case n1=>k_is);(case n2=>k_is)
    (case hB=>rw [typeLookup_type,builtinLookup_eq_fast];kernel_rfl)
    (case lk=>k_is);(case hcd=>k_is);(case sc=>exact ⟨rfl,rfl,rfl,by decide +kernel,rfl,by decide +kernel,by decide +kernel⟩);(case l1=>rfl);(case l2=>rfl)
    (case hb=>exact fun _ _=>rfl);(case ne=>decide);(case nd=>decide);(case nc=>decide)
    (case e1=>kernel_rfl);(case e2=>kernel_rfl);(case e3=>kernel_rfl);(case k2=>kernel_rfl);(case k3=>kernel_rfl);(case k4=>kernel_rfl);(case k5=>kernel_rfl);(case k6=>kernel_rfl)
    (case e4=>kernel_rfl);(case e5=>kernel_rfl);(case e6=>kernel_rfl);(case a2=>kernel_rfl);(case a3=>kernel_rfl)
   have k_NoStretch:XC.ExK (L2.KOf KX) mg "NoStretch" "name" 310 24:=by
    dsimp only [L2.KOf]
    refine' ⟨XC.cT KX G ?a ?kp ?lC ?lI ?lN ?oN ?lNI ?oNI ?i1 ?i2 ?s1 ?s2 ?n1 ?n2 ?hB ?lk ?hcd ?sc ?l1 ?l2 ?hb ?ne ?nd ?nc,⟨⟨?e1,?e2,?e3⟩,?k2,?k3,?k4,?k5,?k6⟩,⟨⟨?e4,?e5,?e6⟩,?a2,?a3⟩⟩
    (case a=>k_is);(case kp=>k_is);(case lC=>k_is);(case lI=>k_is);(case lN=>k_is);(case lNI=>k_is);(case oN=>rfl);(case oNI=>rfl)
    (case i1=>k_is);(case i2=>k_is);(case s1=>k_is);(case s2=>k_is);(case n1=>k_is);(case n2=>k_is)
    (case hB=>rw [typeLookup_type,builtinLookup_eq_fast];kernel_rfl)
    (case lk=>k_is);(case hcd=>k_is);(case sc=>exact ⟨rfl,rfl,rfl,by decide +kernel,rfl,by decide +kernel,by decide +kernel⟩);(case l1=>rfl);(case l2=>rfl)
    (case hb=>exact fun _ _=>rfl);(case ne=>decide);(case nd=>decide);(case nc=>decide)
    (case e1=>kernel_rfl);(case e2=>kernel_rfl);(case e3=>kernel_rfl);(case k2=>kernel_rfl);(case k3=>kernel_rfl);(case k4=>kernel_rfl);(case k5=>kernel_rfl);(case k6=>kernel_rfl)
    (case e4=>kernel_rfl);(case e5=>kernel_rfl);(case e6=>kernel_rfl);(case a2=>kernel_rfl);(case a3=>kernel_rfl)
   have k_NoText:XC.ExK (L2.KOf KX) mg "NoText" "text" 63 24:=by
    dsimp only [L2.KOf]
    refine' ⟨XC.cT KX G ?a ?kp ?lC ?lI ?lN ?oN ?lNI ?oNI ?i1 ?i2 ?s1 ?s2 ?n1 ?n2 ?hB ?lk ?hcd ?sc ?l1 ?l2 ?hb ?ne ?nd ?nc,⟨⟨?e1,?e2,?e3⟩,?k2,?k3,?k4,?k5,?k6⟩,⟨⟨?e4,?e5,?e6⟩,?a2,?a3⟩⟩
    (case a=>k_is);(case kp=>k_is);(case lC=>k_is);(case lI=>k_is);(case lN=>k_is);(case lNI=>k_is);(case oN=>rfl);(case oNI=>rfl)
    (case i1=>k_is);(case i2=>k_is);(case s1=>k_is);(case s2=>k_is);(case n1=>k_is);(case n2=>k_is)
    (case hB=>rw [typeLookup_type,builtinLookup_eq_fast];kernel_rfl)
    (case lk=>k_is);(case hcd=>k_is);(case sc=>exact ⟨rfl,rfl,rfl,by decide +kernel,rfl,by decide +kernel,by decide +kernel⟩);(case l1=>rfl);(case l2=>rfl)
    (case hb=>exact fun _ _=>rfl);(case ne=>decide);(case nd=>decide);(case nc=>decide)
    (case e1=>kernel_rfl);(case e2=>kernel_rfl);(case e3=>kernel_rfl);(case k2=>kernel_rfl);(case k3=>kernel_rfl);(case k4=>kernel_rfl);(case k5=>kernel_rfl);(case k6=>kernel_rfl)
    (case e4=>kernel_rfl);(case e5=>kernel_rfl);(case e6=>kernel_rfl);(case a2=>kernel_rfl);(case a3=>kernel_rfl)
   have k_NoWish:XC.ExK (L2.KOf KX) mg "NoWish" "at" 139 24:=by
    dsimp only [L2.KOf]
    refine' ⟨XC.cT KX G ?a ?kp ?lC ?lI ?lN ?oN ?lNI ?oNI ?i1 ?i2 ?s1 ?s2 ?n1 ?n2 ?hB ?lk ?hcd ?sc ?l1 ?l2 ?hb ?ne ?nd ?nc,⟨⟨?e1,?e2,?e3⟩,?k2,?k3,?k4,?k5,?k6⟩,⟨⟨?e4,?e5,?e6⟩,?a2,?a3⟩⟩
    (case a=>k_is);(case kp=>k_is);(case lC=>k_is);(case lI=>k_is);(case lN=>k_is);(case lNI=>k_is);(case oN=>rfl);(case oNI=>rfl)
    (case i1=>k_is);(case i2=>k_is);(case s1=>k_is);(case s2=>k_is);(case n1=>k_is);(case n2=>k_is)
    (case hB=>rw [typeLookup_type,builtinLookup_eq_fast];kernel_rfl)
    (case lk=>k_is);(case hcd=>k_is);(case sc=>exact ⟨rfl,rfl,rfl,by decide +kernel,rfl,by decide +kernel,by decide +kernel⟩);(case l1=>rfl);(case l2=>rfl)
    (case hb=>exact fun _ _=>rfl);(case ne=>decide);(case nd=>decide);(case nc=>decide)
    (case e1=>kernel_rfl);(case e2=>kernel_rfl);(case e3=>kernel_rfl);(case k2=>kernel_rfl);(case k3=>kernel_rfl);(case k4=>kernel_rfl);(case k5=>kernel_rfl);(case k6=>kernel_rfl)
    (case e4=>kernel_rfl);(case e5=>kernel_rfl);(case e6=>kernel_rfl);(case a2=>kernel_rfl);(case a3=>kernel_rfl)
   have k_NotTaken:XC.ExK (L2.KOf KX) mg "NotTaken" "name" 405 24:=by
    dsimp only [L2.KOf]
    refine' ⟨XC.cT KX G ?a ?kp ?lC ?lI ?lN ?oN ?lNI ?oNI ?i1 ?i2 ?s1 ?s2 ?n1 ?n2 ?hB ?lk ?hcd ?sc ?l1 ?l2 ?hb ?ne ?nd ?nc,⟨⟨?e1,?e2,?e3⟩,?k2,?k3,?k4,?k5,?k6⟩,⟨⟨?e4,?e5,?e6⟩,?a2,?a3⟩⟩
    (case a=>k_is);(case kp=>k_is);(case lC=>k_is);(case lI=>k_is);(case lN=>k_is);(case lNI=>k_is);(case oN=>rfl);(case oNI=>rfl)
    (case i1=>k_is);(case i2=>k_is);(case s1=>k_is);(case s2=>k_is);(case n1=>k_is);(case n2=>k_is)
    (case hB=>rw [typeLookup_type,builtinLookup_eq_fast];kernel_rfl)
    (case lk=>k_is);(case hcd=>k_is);(case sc=>exact ⟨rfl,rfl,rfl,by decide +kernel,rfl,by decide +kernel,by decide +kernel⟩);(case l1=>rfl);(case l2=>rfl)
    (case hb=>exact fun _ _=>rfl);(case ne=>decide);(case nd=>decide);(case nc=>decide)
    (case e1=>kernel_rfl);(case e2=>kernel_rfl);(case e3=>kernel_rfl);(case k2=>kernel_rfl);(case k3=>kernel_rfl);(case k4=>kernel_rfl);(case k5=>kernel_rfl);(case k6=>kernel_rfl)
    (case e4=>kernel_rfl);(case e5=>kernel_rfl);(case e6=>kernel_rfl);(case a2=>kernel_rfl);(case a3=>kernel_rfl)
   have k_NotTonight:XC.ExK (L2.KOf KX) mg "NotTonight" "name" 424 24:=by
    dsimp only [L2.KOf]
    refine' ⟨XC.cT KX G ?a ?kp ?lC ?lI ?lN ?oN ?lNI ?oNI ?i1 ?i2 ?s1 ?s2 ?n1 ?n2 ?hB ?lk ?hcd ?sc ?l1 ?l2 ?hb ?ne ?nd ?nc,⟨⟨?e1,?e2,?e3⟩,?k2,?k3,?k4,?k5,?k6⟩,⟨⟨?e4,?e5,?e6⟩,?a2,?a3⟩⟩
    (case a=>k_is);(case kp=>k_is);(case lC=>k_is);(case lI=>k_is);(case lN=>k_is);(case lNI=>k_is);(case oN=>rfl);(case oNI=>rfl)
    (case i1=>k_is);(case i2=>k_is);(case s1=>k_is);(case s2=>k_is);(case n1=>k_is);(case n2=>k_is)
    (case hB=>rw [typeLookup_type,builtinLookup_eq_fast];kernel_rfl)
    (case lk=>k_is);(case hcd=>k_is);(case sc=>exact ⟨rfl,rfl,rfl,by decide +kernel,rfl,by decide +kernel,by decide +kernel⟩);(case l1=>rfl);(case l2=>rfl)
    (case hb=>exact fun _ _=>rfl);(case ne=>decide);(case nd=>decide);(case nc=>decide)
    (case e1=>kernel_rfl);(case e2=>kernel_rfl);(case e3=>kernel_rfl);(case k2=>kernel_rfl);(case k3=>kernel_rfl);(case k4=>kernel_rfl);(case k5=>kernel_rfl);(case k6=>kernel_rfl)
    (case e4=>kernel_rfl);(case e5=>kernel_rfl);(case e6=>kernel_rfl);(case a2=>kernel_rfl);(case a3=>kernel_rfl)
   have k_Stands:XC.ExK (L2.KOf KX) mg "Stands" "name" 348 24:=by
    dsimp only [L2.KOf]
    refine' ⟨XC.cT KX G ?a ?kp ?lC ?lI ?lN ?oN ?lNI ?oNI ?i1 ?i2 ?s1 ?s2 ?n1 ?n2 ?hB ?lk ?hcd ?sc ?l1 ?l2 ?hb ?ne ?nd ?nc,⟨⟨?e1,?e2,?e3⟩,?k2,?k3,?k4,?k5,?k6⟩,⟨⟨?e4,?e5,?e6⟩,?a2,?a3⟩⟩
    (case a=>k_is);(case kp=>k_is);(case lC=>k_is);(case lI=>k_is);(case lN=>k_is);(case lNI=>k_is);(case oN=>rfl);(case oNI=>rfl)
    (case i1=>k_is);(case i2=>k_is);(case s1=>k_is);(case s2=>k_is);(case n1=>k_is);(case n2=>k_is)
    (case hB=>rw [typeLookup_type,builtinLookup_eq_fast];kernel_rfl)
    (case lk=>k_is);(case hcd=>k_is);(case sc=>exact ⟨rfl,rfl,rfl,by decide +kernel,rfl,by decide +kernel,by decide +kernel⟩);(case l1=>rfl);(case l2=>rfl)
    (case hb=>exact fun _ _=>rfl);(case ne=>decide);(case nd=>decide);(case nc=>decide)
    (case e1=>kernel_rfl);(case e2=>kernel_rfl);(case e3=>kernel_rfl);(case k2=>kernel_rfl);(case k3=>kernel_rfl);(case k4=>kernel_rfl);(case k5=>kernel_rfl);(case k6=>kernel_rfl)
    (case e4=>kernel_rfl);(case e5=>kernel_rfl);(case e6=>kernel_rfl);(case a2=>kernel_rfl);(case a3=>kernel_rfl)
   have k_Taken:XC.ExK (L2.KOf KX) mg "Taken" "room" 177 24:=by
    dsimp only [L2.KOf]
    refine' ⟨XC.cT KX G ?a ?kp ?lC ?lI ?lN ?oN ?lNI ?oNI ?i1 ?i2 ?s1 ?s2 ?n1 ?n2 ?hB ?lk ?hcd ?sc ?l1 ?l2 ?hb ?ne ?nd ?nc,⟨⟨?e1,?e2,?e3⟩,?k2,?k3,?k4,?k5,?k6⟩,⟨⟨?e4,?e5,?e6⟩,?a2,?a3⟩⟩
    (case a=>k_is);(case kp=>k_is);(case lC=>k_is);(case lI=>k_is);(case lN=>k_is);(case lNI=>k_is);(case oN=>rfl);(case oNI=>rfl)
    (case i1=>k_is);(case i2=>k_is);(case s1=>k_is);(case s2=>k_is);(case n1=>k_is);(case n2=>k_is)
    (case hB=>rw [typeLookup_type,builtinLookup_eq_fast];kernel_rfl)
    (case lk=>k_is);(case hcd=>k_is);(case sc=>exact ⟨rfl,rfl,rfl,by decide +kernel,rfl,by decide +kernel,by decide +kernel⟩);(case l1=>rfl);(case l2=>rfl)
    (case hb=>exact fun _ _=>rfl);(case ne=>decide);(case nd=>decide);(case nc=>decide)
    (case e1=>kernel_rfl);(case e2=>kernel_rfl);(case e3=>kernel_rfl);(case k2=>kernel_rfl);(case k3=>kernel_rfl);(case k4=>kernel_rfl);(case k5=>kernel_rfl);(case k6=>kernel_rfl)
    (case e4=>kernel_rfl);(case e5=>kernel_rfl);(case e6=>kernel_rfl);(case a2=>kernel_rfl);(case a3=>kernel_rfl)
   have k_TooFull:XC.ExK (L2.KOf KX) mg "TooFull" "night" 196 24:=by
    dsimp only [L2.KOf]
    refine' ⟨XC.cT KX G ?a ?kp ?lC ?lI ?lN ?oN ?lNI ?oNI ?i1 ?i2 ?s1 ?s2 ?n1 ?n2 ?hB ?lk ?hcd ?sc ?l1 ?l2 ?hb ?ne ?nd ?nc,⟨⟨?e1,?e2,?e3⟩,?k2,?k3,?k4,?k5,?k6⟩,⟨⟨?e4,?e5,?e6⟩,?a2,?a3⟩⟩
    (case a=>k_is);(case kp=>k_is);(case lC=>k_is);(case lI=>k_is);(case lN=>k_is);(case lNI=>k_is);(case oN=>rfl);(case oNI=>rfl)
    (case i1=>k_is);(case i2=>k_is);(case s1=>k_is);(case s2=>k_is);(case n1=>k_is);(case n2=>k_is)
    (case hB=>rw [typeLookup_type,builtinLookup_eq_fast];kernel_rfl)
    (case lk=>k_is);(case hcd=>k_is);(case sc=>exact ⟨rfl,rfl,rfl,by decide +kernel,rfl,by decide +kernel,by decide +kernel⟩);(case l1=>rfl);(case l2=>rfl)
    (case hb=>exact fun _ _=>rfl);(case ne=>decide);(case nd=>decide);(case nc=>decide)
    (case e1=>kernel_rfl);(case e2=>kernel_rfl);(case e3=>kernel_rfl);(case k2=>kernel_rfl);(case k3=>kernel_rfl);(case k4=>kernel_rfl);(case k5=>kernel_rfl);(case k6=>kernel_rfl)
    (case e4=>kernel_rfl);(case e5=>kernel_rfl);(case e6=>kernel_rfl);(case a2=>kernel_rfl);(case a3=>kernel_rfl)
   have k_TooMany:XC.ExK (L2.KOf KX) mg "TooMany" "number" 272 24:=by
    dsimp only [L2.KOf]
    refine' ⟨XC.cT KX G ?a ?kp ?lC ?lI ?lN ?oN ?lNI ?oNI ?i1 ?i2 ?s1 ?s2 ?n1 ?n2 ?hB ?lk ?hcd ?sc ?l1 ?l2 ?hb ?ne ?nd ?nc,⟨⟨?e1,?e2,?e3⟩,?k2,?k3,?k4,?k5,?k6⟩,⟨⟨?e4,?e5,?e6⟩,?a2,?a3⟩⟩
    (case a=>k_is);(case kp=>k_is);(case lC=>k_is);(case lI=>k_is);(case lN=>k_is);(case lNI=>k_is);(case oN=>rfl);(case oNI=>rfl)
    (case i1=>k_is);(case i2=>k_is);(case s1=>k_is);(case s2=>k_is);(case n1=>k_is);(case n2=>k_is)
    (case hB=>rw [typeLookup_type,builtinLookup_eq_fast];kernel_rfl)
    (case lk=>k_is);(case hcd=>k_is);(case sc=>exact ⟨rfl,rfl,rfl,by decide +kernel,rfl,by decide +kernel,by decide +kernel⟩);(case l1=>rfl);(case l2=>rfl)
    (case hb=>exact fun _ _=>rfl);(case ne=>decide);(case nd=>decide);(case nc=>decide)
    (case e1=>kernel_rfl);(case e2=>kernel_rfl);(case e3=>kernel_rfl);(case k2=>kernel_rfl);(case k3=>kernel_rfl);(case k4=>kernel_rfl);(case k5=>kernel_rfl);(case k6=>kernel_rfl)
    (case e4=>kernel_rfl);(case e5=>kernel_rfl);(case e6=>kernel_rfl);(case a2=>kernel_rfl);(case a3=>kernel_rfl)
   have kx:XC.KxP (L2.KOf KX) mg [215,386,101,329,234,367,253,291,44,158,82,120,310,63,139,405,424,348,177,196,272] 24:=by
    dsimp only [L2.KOf]
    refine' ⟨aj.mpr ⟨k_Full.kit,aj.mpr ⟨k_InHouse.kit,aj.mpr ⟨k_NoBook.kit,aj.mpr ⟨k_NoChance.kit,aj.mpr ⟨k_NoExchange.kit,aj.mpr ⟨k_NoGuest.kit,aj.mpr ⟨k_NoKind.kit,aj.mpr ⟨k_NoName.kit,aj.mpr ⟨k_NoNumber.kit,aj.mpr ⟨k_NoRoom.kit,aj.mpr ⟨k_NoRow.kit,aj.mpr ⟨k_NoStay.kit,aj.mpr ⟨k_NoStretch.kit,aj.mpr ⟨k_NoText.kit,aj.mpr ⟨k_NoWish.kit,aj.mpr ⟨k_NotTaken.kit,aj.mpr ⟨k_NotTonight.kit,aj.mpr ⟨k_Stands.kit,aj.mpr ⟨k_Taken.kit,aj.mpr ⟨k_TooFull.kit,aj.mpr ⟨k_TooMany.kit,bQ _⟩⟩⟩⟩⟩⟩⟩⟩⟩⟩⟩⟩⟩⟩⟩⟩⟩⟩⟩⟩⟩,XC.Bo ?o,XC.zB ?u,XC.zB ?v,PySem.W.mg_of KX G ?m⟩
    (case m=>k_is);(case o=>kernel_rfl);(case u=>kernel_rfl);(case v=>kernel_rfl)
   have ka_at:XC.KAt (L2.KOf KX) [120,139] "at" := aj.mpr ⟨k_NoStay.att,aj.mpr ⟨k_NoWish.att,bQ _⟩⟩
   have ka_kind:XC.KAt (L2.KOf KX) [215,253] "kind" := aj.mpr ⟨k_Full.att,aj.mpr ⟨k_NoKind.att,bQ _⟩⟩
   have ka_name:XC.KAt (L2.KOf KX) [386,329,367,291,310,405,424,348] "name" := aj.mpr ⟨k_InHouse.att,aj.mpr ⟨k_NoChance.att,aj.mpr ⟨k_NoGuest.att,aj.mpr ⟨k_NoName.att,aj.mpr ⟨k_NoStretch.att,aj.mpr ⟨k_NotTaken.att,aj.mpr ⟨k_NotTonight.att,aj.mpr ⟨k_Stands.att,bQ _⟩⟩⟩⟩⟩⟩⟩⟩
   have ka_night:XC.KAt (L2.KOf KX) [234,196] "night" := aj.mpr ⟨k_NoExchange.att,aj.mpr ⟨k_TooFull.att,bQ _⟩⟩
   have ka_number:XC.KAt (L2.KOf KX) [272] "number" := aj.mpr ⟨k_TooMany.att,bQ _⟩
   have ka_room:XC.KAt (L2.KOf KX) [158,177] "room" := aj.mpr ⟨k_NoRoom.att,aj.mpr ⟨k_Taken.att,bQ _⟩⟩
   have v_ValueError:mg "ValueError" = none:=by
    refine' PySem.W.mg_none_of KX G ?z
    (case z=>k_is)
   have lO:mg "len" = none:=by
    refine' PySem.W.mg_none_of KX G ?z
    (case z=>k_is)
   have b_range:mg "range" = none:=by
    refine' PySem.W.mg_none_of KX G ?z
    (case z=>k_is)
   have b_abs:mg "abs" = none:=by
    refine' PySem.W.mg_none_of KX G ?z
    (case z=>k_is)
   have b_isinstance:mg "isinstance" = none:=by
    refine' PySem.W.mg_none_of KX G ?z
    (case z=>k_is)
   have b_int:mg "int" = none:=by
    refine' PySem.W.mg_none_of KX G ?z
    (case z=>k_is)
   have b_bool:mg "bool" = none:=by
    refine' PySem.W.mg_none_of KX G ?z
    (case z=>k_is)
   have b_tuple:mg "tuple" = none:=by
    refine' PySem.W.mg_none_of KX G ?z
    (case z=>k_is)
   have b_list:mg "list" = none:=by
    refine' PySem.W.mg_none_of KX G ?z
    (case z=>k_is)
   have b_str:mg "str" = none:=by
    refine' PySem.W.mg_none_of KX G ?z
    (case z=>k_is)
   have b_max:mg "max" = none:=by
    refine' PySem.W.mg_none_of KX G ?z
    (case z=>k_is)
   have b_min:mg "min" = none:=by
    refine' PySem.W.mg_none_of KX G ?z
    (case z=>k_is)
   have b_sorted:mg "sorted" = none:=by
    refine' PySem.W.mg_none_of KX G ?z
    (case z=>k_is)
   have zu:mg "sum" = none:=by
    refine' PySem.W.mg_none_of KX G ?z
    (case z=>k_is)
   have b_reversed:mg "reversed" = none:=by
    refine' PySem.W.mg_none_of KX G ?z
    (case z=>k_is)
   have b_enumerate:mg "enumerate" = none:=by
    refine' PySem.W.mg_none_of KX G ?z
    (case z=>k_is)
   have b_zip:mg "zip" = none:=by
    refine' PySem.W.mg_none_of KX G ?z
    (case z=>k_is)
   have b_set:mg "set" = none:=by
    refine' PySem.W.mg_none_of KX G ?z
    (case z=>k_is)
   have b_any:mg "any" = none:=by
    refine' PySem.W.mg_none_of KX G ?z
    (case z=>k_is)
   have nW:mg "all" = none:=by
    refine' PySem.W.mg_none_of KX G ?z
    (case z=>k_is)
   have b_dict:mg "dict" = none:=by
    refine' PySem.W.mg_none_of KX G ?z
    (case z=>k_is)
   exact ⟨d__law_cell,d__law_part,d__law_far,d__law_whole,d__law_text,d__law_number,d__law_bare,d__law_counted,d__law_named,d__law_kinds,d__law_values,d__law_alone,d__law_caught,d__law_kept,d_law,k_Full,k_InHouse,k_NoBook,k_NoChance,k_NoExchange,k_NoGuest,k_NoKind,k_NoName,k_NoNumber,k_NoRoom,k_NoRow,k_NoStay,k_NoStretch,k_NoText,k_NoWish,k_NotTaken,k_NotTonight,k_Stands,k_Taken,k_TooFull,k_TooMany,kx,ka_at,ka_kind,ka_name,ka_night,ka_number,ka_room,v_ValueError,⟨lO,b_range,b_abs,b_isinstance,b_int,b_bool,b_tuple,b_list,b_str,b_max,b_min,b_sorted,zu,b_reversed,b_enumerate,b_zip,b_set,b_any,nW,b_dict⟩⟩
  obtain ⟨f,fd,F,b,m⟩:=T.d_law.ex
  have e0:=hmg.symm.trans m
  cases e0
  exact ⟨fd,b,fun base kb nb=>K18.Dh T F⟩
 case S=>exact fun K H a ns hl hO hS=>⟨a,ns,hO,rfl,hS,hl,fun _=>rfl⟩
 case C=>exact fun _ _ _ _ z=>z
