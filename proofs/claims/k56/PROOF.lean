import PyProof.Rows.All
import Wide.All
import OpenK.AllK
import Wide.FinOn
import Lean
import PyProof.EqAt
import PyProof.EqKinds
import PyProof.TupleCall
import PyProof.EqLayable
import PyProof.NsDelKeeps
import KE.KIsAll
import PyProof.ExcAttrAll.ValueError
import PyProof.ExcInit
import PyProof.ExcClass2
import PyProof.InstStore
import PyProof.RaisesMany
import PyProof.RulesTry
import PyProof.ExcBaseAll.ValueError
import PyProof.InstStoreFacts
import PyProof.RulesAs
import PySem.Challenge.RW_nightbook_k56_wishes_refused
set_option Elab.async false
set_option linter.all false
set_option maxRecDepth 100000
set_option maxHeartbeats 4000000
set_option exponentiation.threshold 40000
open List renaming replicate→aG,mem_cons_of_mem→aH,mem_cons_self→aJ,length_replicate→aL,getD_eq_getElem?_getD→aN,mem_append_right→aQ,mem_singleton→aU,getElem?_eq_getElem→aV,length_map→aW,range→aX,getElem?_set_ne→aY,mem_cons→aZ,size_toArray→bB,map_cons→bC,mem_append_left→bD,getElem?_map→bG,getElem?_eq_none→bI,length_set→bK,mem_range→bQ,length_append→bW,mem_append→bZ,replicate_succ→b_,getElem?_set_self→cj,length_cons→cA,getElem?_replicate→cH,length_range→cN,mem_map→cR,map_map→cT,lookup_cons→cV,getElem?_append_right→dg,getElem?_append_left→dG,append_nil→dR,length_nil→dU,contains_cons→dY,getElem_mem→d7,flatten_cons→d9,mem_filter→eE,nodup_cons→eG,getElem?_eq_some_iff→eN,mem_of_getElem?→eY,getElem?_mapIdx→fj,foldl_cons→fK,map_append→fL,filterMap_cons→fP,sum_cons→fY,forall_mem_cons→gD,getElem?_range→gQ,length_reverse→gR,forall_mem_nil→gU,getElem?_set→iU,all_eq_true→jg,drop_eq_getElem_cons→jk,map_congr_left→jm,filterMap_cons_none→jt,filterMap_cons_some→ju,of_mem_zip→jy,reverse_cons→jD,drop_eq_nil_of_le→jE,eraseIdx_eq_take_drop_succ→jM,mem_filterMap→kW,getElem?_drop→kY,set_cons_succ→kZ,map_replicate→k_,ext_getElem?→lH,range'→lJ,getElem?_take_of_lt→lY,eq_of_mem_replicate→lZ,length_take→mF,not_mem_nil→mG,filter_cons→mH,map_set→mZ,nil_append→nH,length_singleton→nQ,getElem?_of_mem→nZ,foldl_nil→n8,set_cons_zero→pH,append_assoc→p7,map_nil→p8,foldl→uc
open Nat renaming reduceLeDiff→aj,reduceEqDiff→ak,reduceAdd→aq,reduceLT→aB,le_refl→bA,lt_of_lt_of_le→bL,ne_of_lt→bR,le_trans→bV,not_lt→d_,zero_le→eZ,zero_add→iz,lt_irrefl→iM,lt_succ_self→jP,le_of_lt→kj,lt_or_ge→mX,le_succ→n6,ne_of_gt→pZ,le_of_eq→qb
open Int renaming reduceEq→aC,reduceLT→aD,reduceLE→aF,toNat_natCast→cC,toNat_of_nonneg→dI,le_refl→fX,emod_lt_of_pos→gj,emod_nonneg→iH,zero_add→mY,reduceAdd→pA,sub_zero→qd
open Option renaming bind_some→aK,some→dM,map_some→iI,elim→sS
open Bool renaming and_eq_true→bw,false_ne_true→eO,not_false→iZ,or_true→ji,not_true→jr,eq_iff_iff→jZ,false_and→nW
open Array renaming getElem?_eq_some_iff→cF,length_toList→gP,mem_toList_iff→nY,find?_toList→pG
theorem dTr {p:Prop} [Decidable p] (h:p):decide p=true:=decide_eq_true h
theorem dFa {p:Prop} [Decidable p] (h:¬ p):decide p=false:=decide_eq_false h
theorem lMp {α β:Type} {f:α→β} {l:List α}:(l.map f).length=l.length:=aW f

namespace L2
open PySem PySem.Spec PyProof.Rows
abbrev Key:=Sum Int Str
def MK:Key→Value→Bool
 | .inl k,v=>Value.isInt k v
 | .inr x,v=>Value.isStrOf x v
def Um (w:World):Key→Int
 | .inl k=>hashInt k
 | .inr x=>hashStr w x
theorem gF:∀ {k:Key} {v:Value},MK k v=true→(∃ i t,k=Sum.inl i∧v=Value.int i t)∨(∃ x t,k=Sum.inr x∧v=Value.str x t)
 | .inl i,v,h=>by
  obtain ⟨t,e⟩:=Value.isInt_shape (k:=i) (v:=v) h
  exact .inl ⟨i,t,rfl,e⟩
 | .inr x,v,h=>by
  obtain ⟨t,e⟩:=Value.isStrOf_shape (x:=x) (v:=v) h
  exact .inr ⟨x,t,rfl,e⟩
theorem Nq (a b:Int):decide ((Sum.inl a:Key)=Sum.inl b)=(a == b):=by
 by_cases e:a=b
 ·subst e;simp
 ·have h:¬ (Sum.inl a:Key)=Sum.inl b:=fun q=>e (Sum.inl.inj q)
  rw [dFa h]
  exact (beq_eq_false_iff_ne.mpr e).symm
theorem Nr (a b:Str):decide ((Sum.inr a:Key)=Sum.inr b)=decide (a=b):=by
 by_cases e:a=b
 ·subst e;simp
 ·have h:¬ (Sum.inr a:Key)=Sum.inr b:=fun q=>e (Sum.inr.inj q)
  rw [dFa h,dFa e]
theorem Nt (a:Int) (b:Str):decide ((Sum.inl a:Key)=Sum.inr b)=false:=dFa (fun q=>nomatch q)
theorem Nu (a:Str) (b:Int):decide ((Sum.inr a:Key)=Sum.inl b)=false:=dFa (fun q=>nomatch q)
def BP (prog:Program) (w:World):PySem.KeyKind prog w Key where
 is:=MK
 hash:=Um w
 inj:=fun v a b ha hb=>by
  rcases gF ha with ⟨i,t,rfl,rfl⟩ | ⟨x,t,rfl,rfl⟩
  ·rcases gF hb with ⟨j,u,rfl,e⟩ | ⟨y,u,rfl,e⟩
   ·injection e with e1 _;rw [e1]
   ·exact nomatch e
  ·rcases gF hb with ⟨j,u,rfl,e⟩ | ⟨y,u,rfl,e⟩
   ·exact nomatch e
   ·injection e with e1 _;rw [e1]
 byValue:=fun k v h=>by
  rcases gF h with ⟨i,t,rfl,rfl⟩ | ⟨x,t,rfl,rfl⟩ <;> rfl
 pyHash:=fun hv h=>by
  rcases gF hv with ⟨i,t,rfl,rfl⟩ | ⟨x,t,rfl,rfl⟩
  ·exact wpAny_pyHash_int h
  ·exact wpAny_pyHash_str h
 eqBool:=fun hu hv h=>by
  rcases gF hu with ⟨i,t,rfl,rfl⟩ | ⟨x,t,rfl,rfl⟩
  ·rcases gF hv with ⟨j,u,rfl,rfl⟩ | ⟨y,u,rfl,rfl⟩
   ·rw [Nq] at h;exact wpAny_eqBool_int h
   ·rw [Nt] at h;exact SeqAt.EqAt.int_str i t y u _ _ _ _ h
  ·rcases gF hv with ⟨j,u,rfl,rfl⟩ | ⟨y,u,rfl,rfl⟩
   ·rw [Nu] at h;exact SeqAt.EqAt.str_int x t j u _ _ _ _ h
   ·rw [Nr] at h;exact wpAny_eqBool_str h
 «strs»:=fun k x t v h=>by
  rcases gF h with ⟨i,u,rfl,e⟩ | ⟨y,u,rfl,e⟩
  ·exact nomatch e
  ·injection e with e1 _
   subst e1
   cases v <;> rfl
end L2
namespace L2
open PySem PySem.Spec PyProof.Rows
inductive V where
 | non | bl (b:Bool) | int (i:Int) | str (x:Str) | byt (b:Array UInt8) | flt (b:UInt64) | ref (a:Addr) | ty (n:String)
 deriving DecidableEq
def RelV:V→Value→Prop
 | .non,u=>u=Value.none
 | .bl b,u=>u=Value.bool b
 | .int i,u=>∃ t,u=Value.int i t
 | .str x,u=>∃ t,u=Value.str x t
 | .byt b,u=>∃ t,u=Value.bytes b t
 | .flt b,u=>∃ t,u=Value.float b t
 | .ref a,u=>u=Value.ref a
 | .ty n,u=>u=Value.type n
abbrev Vals:List V→List Value→Prop:=Paired RelV
theorem Vals.length {xs:List V} {us:List Value} (r:Vals xs us):xs.length=us.length:=Paired.length r
theorem Vals.get:∀ {xs:List V} {us:List Value} {i:Nat} {x:V},Vals xs us→xs[i]? = some x→∃ u,us[i]? = some u∧RelV x u
 | _,_,_,_,.nil,e=>by simp at e
 | _,_,0,_,.cons r _,e=>by simp at e;subst e;exact ⟨_,rfl,r⟩
 | _,_,i + 1,x,.cons _ t,e=>by
  obtain ⟨u,h1,h2⟩:=Vals.get (i:=i) (x:=x) t (by simpa using e)
  exact ⟨u,by simpa using h1,h2⟩
theorem Vals.set {x:V} {u:Value} (r:RelV x u):∀ {xs:List V} {us:List Value} (i:Nat),Vals xs us→Vals (xs.set i x) (us.set i u)
 | _,_,_,.nil=>.nil
 | _,_,0,.cons _ t=>.cons r t
 | _,_,i + 1,.cons q t=>.cons q (Vals.set r i t)
theorem Vals.append:∀ {xs ys:List V} {us ws:List Value},Vals xs us→Vals ys ws→Vals (xs++ys) (us++ws)
 | _,_,_,_,.nil,s=>s
 | _,_,_,_,.cons r t,s=>.cons r (Vals.append t s)
theorem Vals.take:∀ {xs:List V} {us:List Value} (n:Nat),Vals xs us→Vals (xs.take n) (us.take n)
 | _,_,0,_=>.nil
 | _,_,_ + 1,.nil=>.nil
 | _,_,n + 1,.cons r t=>.cons r (Vals.take n t)
theorem Vals.drop:∀ {xs:List V} {us:List Value} (n:Nat),Vals xs us→Vals (xs.drop n) (us.drop n)
 | _,_,0,r=>r
 | _,_,_ + 1,.nil=>.nil
 | _,_,n + 1,.cons _ t=>Vals.drop n t
def Nv:Option V→Option Value→Prop
 | some v,some u=>RelV v u
 | none,none=>True
 | _,_=>False
def KV {κ:Type}:List (κ × V)→List (κ × Value)→Prop:=Paired fun (p:κ × V) (q:κ × Value)=>p.1=q.1∧RelV p.2 q.2
def kV:Key→V
 | .inl i=>.int i
 | .inr x=>.str x
inductive HO where
 /-- a list -/
 | lst (xs:List V)
 /-- a tuple (never changes) -/
 | tup (xs:List V)
 /-- a dict whose keys are ints and texts;one whose keys are tuples of ints and texts (the empty one is both) -/
 | dK (kvs:List (Key × V)) | dT (kvs:List (List Key × V))
 /-- a set of ints: its members,its size -/
 | set (S:Int→Bool) (n:Nat)
 /-- an instance of the class at C,its dict at dx,its attributes -/
 | ins (C dx:Addr) (fs:List (Str × V))
 /-- the dict of the instance at x -/
 | own (x:Addr)
 /-- the dict of an exception -/
 | xd (fs:List (Str × V))
 /-- a bound method,f of x -/
 | met (f x:Addr)
 /-- a range object lo,lo + 1,.. below hi -/
 | rng (lo hi:Int)
 /-- a thing that is known to the object (the script;a dict while a loop walks it): read,never written while it is so -/
 | frz (o:Obj) (u:HO)
 /-- a code object's table -/
 | tbl (q:Str) (p:Pos)
 /-- any other thing,by what is true of its one object (a def of one's own: SetO a S n:=HO.ext fun h=>..) -/
 | ext (φ:Heap→Prop)
abbrev Hp:=Addr→Option HO
def upd (H:Hp) (a:Addr) (o:HO):Hp:=fun b=>if b=a then some o else H b
theorem gk {H:Hp} {a:Addr} {o:HO}:upd H a o a=some o:=by unfold upd;rw [if_pos rfl]
theorem dZ {H:Hp} {a b:Addr} {o:HO} (h:b ≠ a):upd H a o b=H b:=by unfold upd;rw [if_neg h]
theorem Fz {H:Hp} {a b:Addr} {o u:HO} (h:H a=some o) (h':H b=some u) (d:o ≠ u):a ≠ b:=by
 intro e;subst e;rw [h] at h';exact d (dM.inj h')
theorem jQ {H:Hp} {a b:Addr} {o:HO} (h:H a=some o) (h':H b=none):a ≠ b:=by
 intro e;subst e;rw [h] at h';cases h'
section
variable (P:Program) (w:World)
def jw (H:Hp) (h:Heap) (a:Addr):HO→Prop
 | .lst xs=>xs.length ≤ sizeLine∧∃ (its:List Value) (n:Nat),Vals xs its∧h.get? a=some { cls:=.type "list", data:=.seq its.toArray n }
 | .tup xs=>xs.length ≤ sizeLine∧∃ its:List Value,Vals xs its∧IsTup h a its.toArray
 | .dK kvs=>kvs.length ≤ sizeLine∧(a == sysModules)=false∧∃ vs,KV kvs vs∧h.DictOf (BP P w) a vs
 | .dT kvs=>kvs.length ≤ sizeLine∧(a == sysModules)=false∧∃ xs:List (List Key × Addr × Value),
  Paired (fun (p:List Key × V) (q:List Key × Addr × Value)=>p.1=q.1∧H q.2.1=some (.tup (p.1.map kV))∧RelV p.2 q.2.2) kvs xs ∧
  ∃ o es ep,h.get? a=some o∧o.ExactDict∧o.data = .dict es ep∧es.toList=xs.map (entryOfKey (tupleKind (BP P w)))∧(xs.map (·.1)).Nodup
 | .set S n=>h.SetOf (intKind P w) a S n
 | .ins C dx fs=>H dx=some (.own a)∧fs.length ≤ 1000∧dx ≠ a∧h.get? a=some (PySem.W.instObj C dx) ∧
  ∃ mA,h.Ns1 dx mA∧(∀ f,Nv (fs.lookup f) (mA f))∧PySem.Within mA (fs.map (·.1))
 | .own _=>∃ o,h.get? a=some o
 | .xd fs=>∃ mA,h.Ns1 a mA∧∀ f,Nv (fs.lookup f) (mA f)
 | .rng lo hi=>∃ t u v,h.get? a=some { cls:=.type "range", data:=.fields #[.int lo t,.int hi u,.int 1 v] }
 | .frz o u=>h.get? a=some o∧jw H h a u
 | .tbl q p=>∃ ps,h.get? a=some { cls:=.none,data:=.fields ps }∧(ps = #[]∨∃ c',ps = #[rawInt p.line,rawInt p.col,.ref c']∧H c'=some (.own a)∧h.CodeRec (.ref c') q)
 | .met f x=>h.get? a=some (PySem.W.methodObj (.ref f) (.ref x))
 | .ext φ=>φ h∧(∃ o,h.get? a=some o)∧∀ h1 h2:Heap,φ h1→(∀ o,h1.get? a=some o→h2.get? a=some o)→φ h2
def HOk (H:Hp) (h:Heap):Prop:=∀ a o,H a=some o→jw P w H h a o
end
section
variable {P:Program} {w:World} {H H':Hp} {h h':Heap} {a:Addr} {o:HO}
theorem jw.lt (x:jw P w H h a o):a < h.objs.size:=by
 cases o with
 | lst xs=>obtain ⟨_,_,_,_,e⟩:=x;exact Heap.lt_size e
 | tup xs=>obtain ⟨_,_,_,p⟩:=x;exact p.lt
 | dK kvs=>obtain ⟨_,_,_,_,o,_,_,e,_⟩:=x;exact Heap.lt_size e
 | dT kvs=>obtain ⟨_,_,_,_,o,_,_,e,_⟩:=x;exact Heap.lt_size e
 | set S n=>obtain ⟨o,_,_,_,e,_⟩:=x;exact Heap.lt_size e
 | ins C dx fs=>obtain ⟨_,_,_,e,_⟩:=x;exact Heap.lt_size e
 | own y=>obtain ⟨_,e⟩:=x;exact Heap.lt_size e
 | xd fs=>obtain ⟨_,⟨_,_,_,e,_⟩,_⟩:=x;exact Heap.lt_size e
 | rng lo hi=>obtain ⟨_,_,_,e⟩:=x;exact Heap.lt_size e
 | frz ob u=>obtain ⟨e,_⟩:=x;exact Heap.lt_size e
 | tbl q p=>obtain ⟨_,e,_⟩:=x;exact Heap.lt_size e
 | met f y=>exact Heap.lt_size (show h.get? a=some _ from x)
 | ext φ=>obtain ⟨_,⟨_,e⟩,_⟩:=x;exact Heap.lt_size e
theorem Paired.mapP {α β:Type} {F G:α→β→Prop}:∀ {l₁:List α} {l₂:List β},Paired F l₁ l₂→(∀ a b,F a b→G a b)→Paired G l₁ l₂
 | _,_,.nil,_=>.nil
 | _,_,.cons r t,f=>.cons (f _ _ r) (Paired.mapP t f)
theorem jw.stay (x:jw P w H h a o) (k:∀ b u,(b=a∨H b=some (.own a))→h.get? b=some u→h'.get? b=some u)
 (ho:∀ b,H b=some (.own a)→H' b=some (.own a)) (ht:∀ b xs,H b=some (.tup xs)→H' b=some (.tup xs)):jw P w H' h' a o:=by
 induction o with
 | lst xs=>obtain ⟨z,its,n,r,e⟩:=x;exact ⟨z,its,n,r,k _ _ (.inl rfl) e⟩
 | tup xs=>obtain ⟨z,its,r,ob,e,c⟩:=x;exact ⟨z,its,r,ob,k _ _ (.inl rfl) e,c⟩
 | dK kvs=>obtain ⟨z,y,vs,r,ob,es,ep,e,c⟩:=x;exact ⟨z,y,vs,r,ob,es,ep,k _ _ (.inl rfl) e,c⟩
 | dT kvs =>
  obtain ⟨z,y,xs,r,ob,es,ep,e,c⟩:=x
  exact ⟨z,y,xs,Paired.mapP r fun p q z=>⟨z.1,ht _ _ z.2.1,z.2.2⟩,ob,es,ep,k _ _ (.inl rfl) e,c⟩
 | set S n=>obtain ⟨ob,es,ep,t,e,c⟩:=x;exact ⟨ob,es,ep,t,k _ _ (.inl rfl) e,c⟩
 | ins C dx fs =>
  obtain ⟨d,z,ne,e,mA,⟨od,es,ep,e2,c⟩,r⟩:=x
  exact ⟨ho _ d,z,ne,k _ _ (.inl rfl) e,mA,⟨od,es,ep,k _ _ (.inr d) e2,c⟩,r⟩
 | own y=>obtain ⟨ob,e⟩:=x;exact ⟨ob,k _ _ (.inl rfl) e⟩
 | xd fs=>obtain ⟨mA,⟨od,es,ep,e,c⟩,r⟩:=x;exact ⟨mA,⟨od,es,ep,k _ _ (.inl rfl) e,c⟩,r⟩
 | rng lo hi=>obtain ⟨t,u,v,e⟩:=x;exact ⟨t,u,v,k _ _ (.inl rfl) e⟩
 | frz ob u ih=>obtain ⟨e,q⟩:=x;exact ⟨k _ _ (.inl rfl) e,ih q⟩
 | tbl q p =>
  obtain ⟨ps,e,z⟩:=x
  refine ⟨ps,k a _ (.inl rfl) e,?_⟩
  rcases z with z | ⟨c',z1,z2,z3⟩
  ·exact .inl z
  ·obtain ⟨c,oc,vs,tq,hc,hoc,hdc,hq⟩:=z3
   have hc':c'=c:=by injection hc
   exact .inr ⟨c',z1,ho _ z2,c,oc,vs,tq,hc,k _ _ (.inr (hc' ▸ z2)) hoc,hdc,hq⟩
 | met f y =>
  have e:h.get? a=some (PySem.W.methodObj (.ref f) (.ref y)):=x
  show h'.get? a=some (PySem.W.methodObj (.ref f) (.ref y))
  exact k a _ (.inl rfl) e
 | ext φ=>obtain ⟨p,⟨o,e⟩,st⟩:=x;exact ⟨st _ _ p fun o q=>k _ _ (.inl rfl) q,⟨o,k _ _ (.inl rfl) e⟩,st⟩
theorem HOk.lt (x:HOk P w H h) (e:H a=some o):a < h.objs.size:=(x a o e).lt
theorem HOk.fresh (x:HOk P w H h) (e:h.objs.size ≤ a):H a=none:=by
 cases q:H a with
 | none=>rfl
 | some u=>exact absurd (bL (x.lt q) e) (iM _)
theorem HOk.kept (x:HOk P w H h) (k:∀ b u,h.get? b=some u→h'.get? b=some u):HOk P w H h':=fun a o e =>
 (x a o e).stay (fun b u _ q=>k b u q) (fun _ q=>q) fun _ _ q=>q
theorem HOk.laid (x:HOk P w H h) (k:∀ b u,h.get? b=some u→h'.get? b=some u) (hp:h.objs.size ≤ a) (new:jw P w (upd H a o) h' a o):HOk P w (upd H a o) h':=fun b u e=>by
 have hn:=x.fresh hp
 by_cases hb:b=a
 ·subst hb;rw [gk] at e;cases e;exact new
 ·rw [dZ hb] at e
  exact (x b u e).stay (fun c v _ q=>k c v q) (fun c q=>by rw [dZ (jQ q hn)];exact q) fun c xs q=>by rw [dZ (jQ q hn)];exact q
end
def Rd (H:Hp) (a:Addr) (u:HO):Prop:=H a=some u∨∃ o,H a=some (.frz o u)
theorem Rd.ok {P:Program} {w:World} {H:Hp} {h:Heap} {a:Addr} {u:HO} (r:Rd H a u) (x:HOk P w H h):jw P w H h a u:=by
 rcases r with r | ⟨o,r⟩
 ·exact x a u r
 ·obtain ⟨_,q⟩:=x a _ r
  exact q
def Mut:Option HO→Prop
 | some (.lst _)=>True
 | some (.dK _)=>True
 | some (.dT _)=>True
 | some (.set _ _)=>True
 | some (.ins _ _ _)=>True
 | some (.ext _)=>True
 | _=>False
section
variable {P:Program} {w:World} {H:Hp} {h h':Heap} {x e:Addr} {o':HO}
theorem HOk.write (ok:HOk P w H h) (mu:Mut (H x)) (he:e=x∨H e=some (.own x)) (k:∀ b u,b ≠ e→h.get? b=some u→h'.get? b=some u) (heo:∃ u,h'.get? e=some u)
 (new:jw P w (upd H x o') h' x o'):HOk P w (upd H x o') h':=fun b u q=>by
 have nown:∀ c y,H c=some (.own y)→c ≠ x:=fun c y r z=>by subst z;rw [r] at mu;exact mu
 have ntup:∀ c xs,H c=some (.tup xs)→c ≠ x:=fun c xs r z=>by subst z;rw [r] at mu;exact mu
 by_cases hb:b=x
 ·subst hb;rw [gk] at q;cases q;exact new
 ·rw [dZ hb] at q
  by_cases hbe:b=e
  ·have q':H b=some (.own x):=by
    rcases he with z | z
    ·exact absurd (hbe.trans z) hb
    ·rw [hbe];exact z
   rw [q] at q';cases q'
   obtain ⟨v,hv⟩:=heo
   exact ⟨v,by rw [hbe];exact hv⟩
  ·refine (ok b u q).stay (fun c v hc r=>k c v ?_ r) (fun c r=>by rw [dZ (nown c b r)];exact r) fun c xs r=>by rw [dZ (ntup c xs r)];exact r
   rcases hc with rfl | hc
   ·exact hbe
   ·rintro rfl
    rcases he with z | z
    ·exact nown c b hc z
    ·rw [hc] at z;cases z;exact hb rfl
end
structure Un (fs ex:List Addr) (H H':Hp) (h h':Heap):Prop where
 keep:∀ b o,h.get? b=some o→H b=none→b ∉ fs→b ∉ ex→h'.get? b=some o
 slot:∀ b o,h.get? b=some o→H b=none→b ∈ fs→b ∉ ex→∃ sl,h'.get? b=some { o with slots:=sl }
 free:∀ b o,h.get? b=some o→H b=none→b ∉ ex→H' b=none
 there:∀ b o,h.get? b=some o→b ∉ ex→∃ o',h'.get? b=some o'
 tups:∀ b xs,H b=some (.tup xs)→H' b=some (.tup xs)
 frzs:∀ b o u,H b=some (.frz o u)→H' b=some (.frz o u)
 tbls:∀ b q p,H b=some (.tbl q p)→H' b=some (.tbl q p)
section
variable {fs fs' ex ex':List Addr} {H H1 H2:Hp} {h h1 h2 h':Heap} {a x e:Addr} {o:HO}
theorem Un.any (u:Un fs ex H H1 h h1) {b:Addr} {ob:Obj} (q:h.get? b=some ob) (n:H b=none) (hx:b ∉ ex):∃ sl,h1.get? b=some { ob with slots:=sl }:=by
 by_cases hb:b ∈ fs
 ·exact u.slot b ob q n hb hx
 ·exact ⟨ob.slots,u.keep b ob q n hb hx⟩
theorem Un.kept (k:∀ b u,h.get? b=some u→h'.get? b=some u):Un fs ex H H h h' :=
 ⟨fun b ob q _ _ _=>k b ob q,fun b ob q _ _ _=>⟨ob.slots,k b ob q⟩,fun _ _ _ n _=>n,fun b ob q _=>⟨ob,k b ob q⟩,fun _ _ q=>q,fun _ _ _ q=>q,fun _ _ _ q=>q⟩
theorem Un.refl:Un fs ex H H h h:=Un.kept fun _ _ q=>q
theorem Un.laid (k:∀ b u,h.get? b=some u→h'.get? b=some u) (hp:h.objs.size ≤ a) (hn:H a=none):Un fs ex H (upd H a o) h h' where
 keep:=fun b u q _ _ _=>k b u q
 slot:=fun b u q _ _ _=>⟨u.slots,k b u q⟩
 free:=fun b u q n _=>by rw [dZ (bR (bL (Heap.lt_size q) hp))];exact n
 there:=fun b u q _=>⟨u,k b u q⟩
 tups:=fun b xs q=>by rw [dZ (jQ q hn)];exact q
 frzs:=fun b u xs q=>by rw [dZ (jQ q hn)];exact q
 tbls:=fun b q p e=>by rw [dZ (jQ e hn)];exact e
theorem Un.write (mu:Mut (H x)) (he:e=x∨H e=some (.own x)) (k:∀ b u,b ≠ e→h.get? b=some u→h'.get? b=some u) (heo:∃ u,h'.get? e=some u):Un fs ex H (upd H x o) h h':=by
 have hx:∀ b,H b=none→b ≠ x:=fun b n z=>by subst z;rw [n] at mu;exact mu
 have hb:∀ b,H b=none→b ≠ e:=fun b n z=>by
  subst z
  rcases he with r | r
  ·exact hx b n r
  ·rw [n] at r;cases r
 have hm:∀ b u,H b=some u→¬ Mut (some u)→b ≠ x:=fun b u q nm z=>by subst z;rw [q] at mu;exact nm mu
 refine ⟨fun b u q n _ _=>k b u (hb b n) q,fun b u q n _ _=>⟨u.slots,k b u (hb b n) q⟩,fun b u q n _=>by rw [dZ (hx b n)];exact n,fun b u q _=>?_,
  fun b xs q=>by rw [dZ (hm b _ q fun z=>z)];exact q,fun b u xs q=>by rw [dZ (hm b _ q fun z=>z)];exact q,fun b q p e=>by rw [dZ (hm b _ e fun z=>z)];exact e⟩
 by_cases hbe:b=e
 ·subst hbe;exact heo
 ·exact ⟨u,k b u hbe q⟩
end
def trk (h:Heap) (H:Hp):List Addr:=(aX h.objs.size).filter fun a=>(H a).isSome
def wV (h:Heap) (H:Hp):Heap:=PySem.W.hideAll h (trk h H)
theorem Dq (h:Heap) (H:Hp):(wV h H).objs.size=h.objs.size:=PySem.W.hideAll_size _ _
theorem FJ {h:Heap} {H:Hp} {b:Addr} {o:Obj} (e:h.get? b=some o) (n:H b=none):(wV h H).get? b=some o :=
 PySem.W.hideAll_get _ e fun hm=>by
  have q:(H b).isSome=true:=(eE.mp hm).2
  rw [n] at q;simp at q
theorem Jz {h:Heap} {H:Hp} {b:Addr} {o:Obj} (e:(wV h H).get? b=some o):h.get? b=some o∧H b=none:=by
 have e':h.get? b=some o:=PySem.W.of_hideAll (trk h H) e
 refine ⟨e',?_⟩
 cases q:H b with
 | none=>rfl
 | some x =>
  have hm:b ∈ trk h H:=eE.mpr ⟨bQ.mpr (Heap.lt_size e'),by simp [q]⟩
  have z:(wV h H).get? b=none:=PySem.W.hideAll_none (trk h H) hm
  rw [z] at e;cases e
end L2
namespace L2
open PySem PySem.Spec PyProof.Rows
structure Mod (K:PySem.W.Frag) (mg:Str→Option Value) (base:Heap):Prop where
 kin:K.In base
 glob:base.Ns mainGlobals mg
 blt:∃ mb,base.Ns builtinsNs mb∧∀ x:Str,x ≠ "__name__" → mb x=bootBuiltins x
 nolimit:base.NoLimit
 bm:∃ bm ob,mg "__builtins__" = some (.ref bm)∧bm ≠ builtinsNs∧base.get? bm=some ob∧ob.cls = .type "module" ∧ ob.dict=some builtinsNs∧ob.data = .plain
structure Cx where
 prog:Program
 w:World
 K:PySem.W.Frag
 mg:Str→Option Value
 base:Heap
 A:Around
 N:List Str
 s₀:Shared
 H₀:Hp
 env:Env
 outer:List Env
 stack:List Env
 ex:List Addr
 fn:Str→Bool
 calm:Bool
 pn:List (Addr × Obj)
 xe:Value→Shared→Prop
def frs (l:List Env):List Addr:=l.filterMap (·.frame)
abbrev Cx.fs (X:Cx):List Addr:=frs X.outer
def Vis (sc:Scope) (x:Str):Prop:=sc.names.lookup x=some .local∨sc.names.lookup x=some .cell∨sc.names.lookup x=some .free
def Loc (sc:Scope) (x:Str):Prop:=sc.names.lookup x=some .local∨sc.names.lookup x=some .cell
def Look (env:Env) (h:Heap) (m:Str→Option Value) (x:Str) (u:Value):Prop :=
 (env.kindOf x=some .local∧m x=some u)∨((env.kindOf x=some .cell∨env.kindOf x=some .free)∧∃ c,env.cells.lookup x=some c∧h.IsCell c (some u))
structure Cx.Ok (X:Cx):Prop where
 mod:Mod X.K X.mg X.base
 kind:X.env.scope.kind = .function
 glob:X.env.globals=mainGlobals
 blt:X.env.builtins=builtinsNs
 above:X.s₀.heap.objs.size ≤ X.env.locals
 inj:∀ x y c,X.env.cells.lookup x=some c→X.env.cells.lookup y=some c→x=y
 has:∀ x,(X.env.kindOf x=some .cell∨X.env.kindOf x=some .free)→∃ c,X.env.cells.lookup x=some c
 cab:∀ x c,X.fn x=true→X.env.cells.lookup x=some c→X.s₀.heap.objs.size ≤ c
 hd:X.calm=true→X.A.handled=none
 frames:X.A.frames=some X.stack
 stk:X.stack=X.outer∨(X.stack=X.env :: X.outer∧X.env.frame=some X.env.locals)
 exf:∀ b ∈ X.ex,b ≠ X.env.locals∧∀ x c,X.env.cells.lookup x=some c→c ≠ b
 bs:∀ b o,X.base.get? b=some o→X.s₀.heap.get? b=some o∧X.H₀ b=none
 bsz:X.base.objs.size ≤ X.s₀.heap.objs.size
 noex:∀ b o,X.base.get? b=some o→b ∉ X.ex
 exfs:∀ b ∈ X.ex,b ∉ X.fs
 funs:X.s₀.heap.FunFrames X.base X.outer
 frf:∀ b ∈ X.fs,X.H₀ b=none
structure Inv (X:Cx) (pins:List (Addr × Obj)) (σ:List (Option V)) (H:Hp) (s:Shared):Prop where
 ok:X.Ok
 os:s.os=X.s₀.os
 bare:AllBare s.gens
 base:Un X.fs X.ex X.H₀ H X.s₀.heap s.heap
 loc:∃ m,s.heap.Ns X.env.locals m∧∀ (i:Nat) (x:Str) (v:V),X.N[i]? = some x→σ[i]? = some (some v)→Vis X.env.scope x→∃ u,RelV v u∧Look X.env s.heap m x u
 cell:∀ x c,X.env.cells.lookup x=some c→∃ v,s.heap.IsCell c v
 free:H X.env.locals=none
 freeC:∀ x c,X.env.cells.lookup x=some c→H c=none
 pin:∀ p ∈ X.pn++pins,s.heap.get? p.1=some p.2∧H p.1=none∧p.1 ≠ X.env.locals∧p.1 ∉ X.fs∧∀ v,p.2.data ≠ .cell v
 hok:HOk X.prog X.w H s.heap
 len:σ.length=X.N.length
section
variable {X:Cx} {pins:List (Addr × Obj)} {σ:List (Option V)} {H H':Hp} {s:Shared} {h':Heap}
theorem Cx.Ok.nofr (ok:X.Ok) {b:Addr} {o:Obj} (e:X.base.get? b=some o):b ∉ X.fs:=fun hb=>by
 have:=(ok.funs.mem hb).1
 rw [e] at this;cases this
theorem Inv.bs (I:Inv X pins σ H s):∀ b o,X.base.get? b=some o→s.heap.get? b=some o∧H b=none:=fun b o e =>
 ⟨I.base.keep b o (I.ok.bs b o e).1 (I.ok.bs b o e).2 (I.ok.nofr e) (I.ok.noex b o e),I.base.free b o (I.ok.bs b o e).1 (I.ok.bs b o e).2 (I.ok.noex b o e)⟩
theorem Inv.bk (I:Inv X pins σ H s):∀ b o,X.base.get? b=some o→s.heap.get? b=some o:=fun b o e=>(I.bs b o e).1
theorem Inv.mod (I:Inv X pins σ H s):Mod X.K X.mg X.base:=I.ok.mod
theorem Inv.kIn (I:Inv X pins σ H s):X.K.In s.heap:=I.ok.mod.kin.keeps I.bk
theorem Inv.lt (I:Inv X pins σ H s):X.env.locals < s.heap.objs.size:=let ⟨_,hn,_⟩:=I.loc;hn.lt
theorem Inv.sz (I:Inv X pins σ H s):X.s₀.heap.objs.size ≤ s.heap.objs.size:=bV I.ok.above (kj I.lt)
theorem Inv.nofs (I:Inv X pins σ H s) {a:Addr} (h:s.heap.objs.size ≤ a):a ∉ X.fs:=fun hb=>by
 obtain ⟨_,o,ho,_⟩:=I.ok.funs.mem hb
 exact absurd (bL (Heap.lt_size ho) (bV I.sz h)) (iM _)
theorem Inv.cne (I:Inv X pins σ H s):∀ x c,X.env.cells.lookup x=some c→c ≠ X.env.locals:=fun x c e z=>by
 obtain ⟨v,o,ho,hd⟩:=I.cell x c e
 obtain ⟨m,⟨o',es,ep,ho',hd',_⟩,_⟩:=I.loc
 rw [z,ho'] at ho;cases ho;rw [hd'] at hd;cases hd
theorem Inv.funs (I:Inv X pins σ H s):s.heap.FunFrames X.base X.outer:=by
 have all:∀ (l:List Env),(∀ b ∈ frs l,b ∈ X.fs)→X.s₀.heap.FunFrames X.base l→s.heap.FunFrames X.base l:=by
  intro l
  induction l with
  | nil=>intro _ _;trivial
  | cons env r ih =>
   intro hs hl
   obtain ⟨hk,⟨L,o,hf,hn,ho,hd⟩,hr⟩:=hl
   have hL:L ∈ X.fs:=hs L (by unfold frs;rw [fP,hf];exact aJ)
   obtain ⟨sl,e⟩:=I.base.slot L o ho (I.ok.frf L hL) hL fun z=>I.ok.exfs L z hL
   exact ⟨hk,⟨L,_,hf,hn,e,hd⟩,ih (fun b hb=>hs b (by unfold frs;rw [fP,hf];exact aH _ hb)) hr⟩
 exact all X.outer (fun _ hb=>hb) I.ok.funs
theorem Inv.stack (I:Inv X pins σ H s):s.heap.FunFrames X.base X.stack:=by
 rcases I.ok.stk with e | ⟨e,hf⟩
 ·rw [e];exact I.funs
 ·rw [e]
  obtain ⟨m,hn,_⟩:=I.loc
  refine .cons (by rw [I.ok.kind];decide) hf hn ?_ I.funs
  exact Heap.get?_none_of_le (bV I.ok.bsz I.ok.above)
theorem Inv.stkSub (I:Inv X pins σ H s):∀ b ∈ frs X.stack,b ∈ X.env.locals :: X.fs:=fun b hb=>by
 rcases I.ok.stk with e | ⟨e,hf⟩
 ·rw [e] at hb;exact aH _ hb
 ·rw [e] at hb
  unfold frs at hb
  rw [fP,hf] at hb
  exact hb
theorem Inv.stkFree (I:Inv X pins σ H s):∀ b ∈ frs X.stack,H b=none:=fun b hb=>by
 rcases aZ.mp (I.stkSub b hb) with e | hb
 ·rw [e];exact I.free
 ·obtain ⟨_,o,ho,_⟩:=I.ok.funs.mem hb
  exact I.base.free b o ho (I.ok.frf b hb) fun z=>I.ok.exfs b z hb
theorem Inv.step {g':Array GenState} {t':Nat} {d':Drawn} {ch:List Addr} (I:Inv X pins σ H s)
 (hch:∀ b ∈ ch,(b ∈ X.ex∨X.s₀.heap.objs.size ≤ b)∧b ≠ X.env.locals∧(∀ x c,X.env.cells.lookup x=some c→c ≠ b)∧∀ p ∈ X.pn++pins,p.1 ≠ b)
 (keep:∀ b o,b ≠ X.env.locals→b ∉ X.fs→b ∉ ch→s.heap.get? b=some o→H b=none→h'.get? b=some o)
 (slot:∀ b o,b ≠ X.env.locals→b ∈ X.fs→b ∉ ch→s.heap.get? b=some o→H b=none→∃ sl,h'.get? b=some { o with slots:=sl }) (free:∀ b o,b ∉ ch→s.heap.get? b=some o→H b=none→H' b=none)
 (there:∀ b o,b ∉ ch→s.heap.get? b=some o→∃ o',h'.get? b=some o')
 (tups:∀ b xs,H b=some (.tup xs)→H' b=some (.tup xs)) (frzs:∀ b o u,H b=some (.frz o u)→H' b=some (.frz o u)) (tbls:∀ b q p,H b=some (.tbl q p)→H' b=some (.tbl q p))
 (ns:∀ m,s.heap.Ns X.env.locals m→h'.Ns X.env.locals m) (hok:HOk X.prog X.w H' h') (hg:AllBare g') :
 Inv X pins σ H' { s with heap:=h',gens:=g',drawn:=d',toks:=t' }:=by
 have neL:∀ b o,X.s₀.heap.get? b=some o→b ≠ X.env.locals:=fun b o e=>bR (bL (Heap.lt_size e) I.ok.above)
 have neC:∀ b o,X.s₀.heap.get? b=some o→b ∉ X.ex→b ∉ ch:=fun b o e hx hb=>by
  rcases (hch b hb).1 with z | z
  ·exact hx z
  ·exact absurd (bL (Heap.lt_size e) z) (iM _)
 have cellK:∀ x c,X.env.cells.lookup x=some c→∀ v,s.heap.IsCell c v→h'.IsCell c v:=fun x c e v ⟨o,ho,hd⟩=>by
  have nch:c ∉ ch:=fun z=>(hch c z).2.2.1 x c e rfl
  by_cases hc:c ∈ X.fs
  ·obtain ⟨sl,q⟩:=slot c o (I.cne x c e) hc nch ho (I.freeC x c e)
   exact ⟨_,q,hd⟩
  ·exact ⟨o,keep c o (I.cne x c e) hc nch ho (I.freeC x c e),hd⟩
 refine ⟨I.ok,I.os,hg,⟨fun b o e n hb hx=>?_,fun b o e n hb hx=>?_,fun b o e n hx=>?_,fun b o e hx=>?_,fun b xs e=>tups b xs (I.base.tups b xs e),fun b o xs e=>frzs b o xs (I.base.frzs b o xs e),fun b q p e=>tbls b q p (I.base.tbls b q p e)⟩,?_,fun x c e=>?_,?_,fun x c e=>?_,fun p hp=>?_,hok,I.len⟩
 ·exact keep b o (neL b o e) hb (neC b o e hx) (I.base.keep b o e n hb hx) (I.base.free b o e n hx)
 ·obtain ⟨sl,e1⟩:=I.base.slot b o e n hb hx
  obtain ⟨sl',e2⟩:=slot b _ (neL b o e) hb (neC b o e hx) e1 (I.base.free b o e n hx)
  exact ⟨sl',e2⟩
 ·obtain ⟨o',e1⟩:=I.base.there b o e hx
  exact free b o' (neC b o e hx) e1 (I.base.free b o e n hx)
 ·obtain ⟨o',e1⟩:=I.base.there b o e hx
  exact there b o' (neC b o e hx) e1
 ·obtain ⟨m,hn,hl⟩:=I.loc
  refine ⟨m,ns m hn,fun i x v e1 e2 e3=>?_⟩
  obtain ⟨u,r,l⟩:=hl i x v e1 e2 e3
  refine ⟨u,r,?_⟩
  rcases l with l | ⟨k,c,e,z⟩
  ·exact .inl l
  ·exact .inr ⟨k,c,e,cellK x c e _ z⟩
 ·obtain ⟨v,z⟩:=I.cell x c e
  exact ⟨v,cellK x c e v z⟩
 ·obtain ⟨m,⟨o,_,_,ho,_⟩,_⟩:=I.loc
  exact free _ o (fun z=>(hch _ z).2.1 rfl) ho I.free
 ·obtain ⟨v,o,ho,hd⟩:=I.cell x c e
  exact free c o (fun z=>(hch c z).2.2.1 x c e rfl) ho (I.freeC x c e)
 ·obtain ⟨e,n,ne,nf,d⟩:=I.pin p hp
  have nch:p.1 ∉ ch:=fun z=>(hch p.1 z).2.2.2 p hp rfl
  exact ⟨keep p.1 p.2 ne nf nch e n,free p.1 p.2 nch e n,ne,nf,d⟩
theorem Inv.un {t':Nat} (I:Inv X pins σ H s) (u:Un X.fs [] H H' s.heap h') (hok:HOk X.prog X.w H' h'):Inv X pins σ H' { s with heap:=h',toks:=t' }:=by
 obtain ⟨m,⟨o,es,ep,ho,r⟩,_⟩:=id I.loc
 obtain ⟨sl,hL⟩:=u.any ho I.free (by simp)
 exact I.step (g':=s.gens) (d':=s.drawn) (ch:=[]) (fun _ z=>nomatch z) (fun b o _ hb _ e n=>u.keep b o e n hb (by simp)) (fun b o _ hb _ e n=>u.slot b o e n hb (by simp)) (fun b o _ e n=>u.free b o e n (by simp)) (fun b o _ e=>u.there b o e (by simp)) u.tups u.frzs u.tbls (fun m' hm=>by
  obtain ⟨o',es',ep',ho',r'⟩:=hm
  rw [ho] at ho';cases ho'
  exact ⟨_,es',ep',hL,r'⟩) hok I.bare
theorem Inv.call {g':Array GenState} {t':Nat} {d':Drawn} {ch:List Addr} (I:Inv X pins σ H s) (u:Un (frs X.stack) ch H H' s.heap h') (hok:HOk X.prog X.w H' h') (hg:AllBare g')
 (hch:∀ b ∈ ch,(b ∈ X.ex∨X.s₀.heap.objs.size ≤ b)∧b ≠ X.env.locals∧(∀ x c,X.env.cells.lookup x=some c→c ≠ b)∧∀ p ∈ X.pn++pins,p.1 ≠ b) :
 Inv X pins σ H' { s with heap:=h',gens:=g',drawn:=d',toks:=t' }:=by
 obtain ⟨m,⟨o,es,ep,ho,r⟩,_⟩:=id I.loc
 obtain ⟨sl,hL⟩:=u.any ho I.free fun z=>(hch _ z).2.1 rfl
 exact I.step (ch:=ch) hch (fun b o hL hb hc e n=>u.keep b o e n (fun z=>(aZ.mp (I.stkSub b z)).elim hL hb) hc) (fun b o _ _ hc e n=>u.any e n hc) (fun b o hc e n=>u.free b o e n hc) (fun b o hc e=>u.there b o e hc) u.tups u.frzs u.tbls (fun m' hm=>by
  obtain ⟨o',es',ep',ho',r'⟩:=hm
  rw [ho] at ho';cases ho'
  exact ⟨_,es',ep',hL,r'⟩) hok hg
theorem Inv.turned {t':Nat} {it:Addr} (I:Inv X pins σ H s) (k:∀ b o,b ≠ it→s.heap.get? b=some o→h'.get? b=some o) (hn:H it=none) (hL:it ≠ X.env.locals)
 (h1:it ∈ X.ex∨X.s₀.heap.objs.size ≤ it) (h2:∀ x c,X.env.cells.lookup x=some c→c ≠ it) (h3:∀ p ∈ X.pn++pins,p.1 ≠ it):Inv X pins σ H { s with heap:=h',toks:=t' }:=by
 have nit:∀ b u,H b=some u→b ≠ it:=fun b u e z=>by rw [z,hn] at e;cases e
 refine I.step (g':=s.gens) (d':=s.drawn) (ch:=[it]) (fun b hb=>?_) (fun b o _ _ hc e _=>k b o (fun z=>hc (by simp [z])) e) (fun b o _ _ hc e _=>⟨o.slots,k b o (fun z=>hc (by simp [z])) e⟩) (fun _ _ _ _ n=>n)
  (fun b o hc e=>⟨o,k b o (fun z=>hc (by simp [z])) e⟩) (fun _ _ e=>e) (fun _ _ _ e=>e) (fun _ _ _ e=>e) (fun m hm=>?_) (fun b u e=>?_) I.bare
 ·have e:b=it:=by simpa using hb
  subst e
  exact ⟨h1,hL,h2,h3⟩
 ·obtain ⟨o,es,ep,ho,r⟩:=hm
  exact ⟨o,es,ep,k _ o (Ne.symm hL) ho,r⟩
 ·refine (I.hok b u e).stay (fun c v hc q=>k c v ?_ q) (fun _ q=>q) fun _ _ q=>q
  rcases hc with z | z
  ·rw [z];exact nit b u e
  ·exact nit c _ z
theorem Inv.tok (I:Inv X pins σ H s) (t:Nat):Inv X pins σ H { s with toks:=t }:=I.un (h':=s.heap) (t':=t) Un.refl I.hok
theorem Inv.kept {t':Nat} (I:Inv X pins σ H s) (k:∀ b u,s.heap.get? b=some u→h'.get? b=some u):Inv X pins σ H { s with heap:=h',toks:=t' }:=I.un (Un.kept k) (I.hok.kept k)
theorem Inv.laid {a:Addr} {o:HO} {t':Nat} (I:Inv X pins σ H s) (k:∀ b u,s.heap.get? b=some u→h'.get? b=some u) (hp:s.heap.objs.size ≤ a) (new:jw X.prog X.w (upd H a o) h' a o) :
 Inv X pins σ (upd H a o) { s with heap:=h',toks:=t' }:=I.un (Un.laid k hp (I.hok.fresh hp)) (I.hok.laid k hp new)
theorem Inv.write {x e:Addr} {o:HO} {t':Nat} (I:Inv X pins σ H s) (mu:Mut (H x)) (he:e=x∨H e=some (.own x)) (k:∀ b u,b ≠ e→s.heap.get? b=some u→h'.get? b=some u) (heo:∃ u,h'.get? e=some u)
 (new:jw X.prog X.w (upd H x o) h' x o):Inv X pins σ (upd H x o) { s with heap:=h',toks:=t' }:=I.un (Un.write mu he k heo) (I.hok.write mu he k heo new)
theorem Inv.pins_of {pins':List (Addr × Obj)} (I:Inv X pins σ H s) (h:∀ p ∈ pins',s.heap.get? p.1=some p.2∧H p.1=none∧p.1 ≠ X.env.locals∧p.1 ∉ X.fs∧∀ v,p.2.data ≠ .cell v):Inv X pins' σ H s :=
 ⟨I.ok,I.os,I.bare,I.base,I.loc,I.cell,I.free,I.freeC,fun p hp=>(bZ.mp hp).elim (fun z=>I.pin p (bD _ z)) (h p),I.hok,I.len⟩
theorem ud {N:List Str} (hN:N.Nodup) {i j:Nat} {x:Str} (a:N[i]? = some x) (b:N[j]? = some x):i=j:=by
 obtain ⟨h1,e1⟩:=eN.mp a
 obtain ⟨h2,e2⟩:=eN.mp b
 exact (List.getElem_inj hN).mp (e1.trans e2.symm)
theorem vU {M:Model} {A:Around} {E:Value→Shared→Prop} {i:Nat} {x:Str} {v:V} {u:Value} {Q:Unit→Shared→Prop} (I:Inv X pins σ H s) (hN:X.N.Nodup) (hi:X.N[i]? = some x) (hx:Loc X.env.scope x) (r:RelV v u)
 (h:∀ s',Inv X pins (σ.set i (some v)) H s'→(∃ a,Heap.SameBut a s.heap s'.heap∧(a=X.env.locals∨X.env.cells.lookup x=some a))→Q () s') (hf:X.fn x=true∨X.env.scope.names.lookup x=some .local:=by first | exact .inl rfl | exact .inr rfl | assumption):wpAny M A (storeName X.env x u) Q E s:=by
 obtain ⟨m,hn,hl⟩:=id I.loc
 have hcls:(X.env.scope.kind == .class || (X.env.scope.kind == .module && X.env.locals != X.env.globals))=false:=by rw [I.ok.kind];rfl
 have hiσ:i < σ.length:=by rw [I.len];exact (eN.mp hi).1
 have cne:=I.cne
 have tracked:∀ {a:Addr} {h':Heap},(∃ o,s.heap.get? a=some o∧H a=none)→Heap.SameBut a s.heap h'→HOk X.prog X.w H h':=fun {a h'} ha hs b ob e=>by
  obtain ⟨_,_,hfree⟩:=ha
  refine (I.hok b ob e).stay (fun c w' hc q=>(hs.2 c ?_).trans q) (fun _ q=>q) fun _ _ q=>q
  rintro rfl
  rcases hc with rfl | hc
  ·rw [hfree] at e;cases e
  ·rw [hfree] at hc;cases hc
 rcases hx with hk | hk
 ·refine wpAny_storeName_local hk hn (fun h' hn' hs=>?_) hcls
  obtain ⟨oL,_,_,hoL,_⟩:=id hn
  refine h _ ⟨I.ok,I.os,I.bare,⟨fun b o e n hb hx=>?_,fun b o e n hb hx=>?_,I.base.free,fun b o e hx=>?_,I.base.tups,I.base.frzs,I.base.tbls⟩,⟨_,hn',fun j y v' e1 e2 e3=>?_⟩,fun y c e=>?_,I.free,I.freeC,fun p hp=>?_,tracked ⟨oL,hoL,I.free⟩ hs,by simpa using I.len⟩ ⟨_,hs,.inl rfl⟩
  ·exact (hs.2 b (bR (bL (Heap.lt_size e) I.ok.above))).trans (I.base.keep b o e n hb hx)
  ·obtain ⟨sl,e1⟩:=I.base.slot b o e n hb hx
   exact ⟨sl,(hs.2 b (bR (bL (Heap.lt_size e) I.ok.above))).trans e1⟩
  ·obtain ⟨o',e1⟩:=I.base.there b o e hx
   exact ⟨o',(hs.2 b (bR (bL (Heap.lt_size e) I.ok.above))).trans e1⟩
  ·by_cases hj:j=i
   ·subst hj
    rw [hi] at e1;cases e1
    rw [cj hiσ] at e2
    cases e2
    exact ⟨u,r,.inl ⟨hk,by simp⟩⟩
   ·rw [aY (Ne.symm hj)] at e2
    obtain ⟨u',r',q⟩:=hl j y v' e1 e2 e3
    refine ⟨u',r',?_⟩
    rcases q with ⟨k,e⟩ | ⟨k,c,e,z⟩
    ·refine .inl ⟨k,?_⟩
     have:y ≠ x:=fun e=>hj (ud hN e1 (e ▸ hi))
     simp [this,e]
    ·exact .inr ⟨k,c,e,z.sameBut hs (cne y c e)⟩
  ·obtain ⟨w',z⟩:=I.cell y c e
   exact ⟨w',z.sameBut hs (cne y c e)⟩
  ·obtain ⟨e,n,ne,nf,d⟩:=I.pin p hp
   exact ⟨(hs.2 p.1 ne).trans e,n,ne,nf,d⟩
 ·have hfn:X.fn x=true:=by
   rcases hf with z | z
   ·exact z
   ·rw [z] at hk;cases hk
  obtain ⟨c,hc⟩:=I.ok.has x (.inl hk)
  obtain ⟨w',z⟩:=I.cell x c hc
  refine wpAny_storeName_cell I.ok.kind hk hc z (fun h' hc' hs=>?_)
  obtain ⟨oc,hoc,hocd⟩:=id z
  refine h { s with heap:=h' } ⟨I.ok,I.os,I.bare,⟨fun b o e n hb hx=>?_,fun b o e n hb hx=>?_,I.base.free,fun b o e hx=>?_,I.base.tups,I.base.frzs,I.base.tbls⟩,⟨m,hn.sameBut hs (Ne.symm (cne x c hc)),fun j y v' e1 e2 e3=>?_⟩,fun y c' e=>?_,I.free,I.freeC,fun p hp=>?_,tracked ⟨oc,hoc,I.freeC x c hc⟩ hs,by simpa using I.len⟩ ⟨c,hs,.inr hc⟩
  ·exact (hs.2 b (bR (bL (Heap.lt_size e) (I.ok.cab x c hfn hc)))).trans (I.base.keep b o e n hb hx)
  ·obtain ⟨sl,e1⟩:=I.base.slot b o e n hb hx
   exact ⟨sl,(hs.2 b (bR (bL (Heap.lt_size e) (I.ok.cab x c hfn hc)))).trans e1⟩
  ·obtain ⟨o',e1⟩:=I.base.there b o e hx
   exact ⟨o',(hs.2 b (bR (bL (Heap.lt_size e) (I.ok.cab x c hfn hc)))).trans e1⟩
  ·by_cases hj:j=i
   ·subst hj
    rw [hi] at e1;cases e1
    rw [cj hiσ] at e2
    cases e2
    exact ⟨u,r,.inr ⟨.inl hk,c,hc,hc'⟩⟩
   ·rw [aY (Ne.symm hj)] at e2
    obtain ⟨u',r',q⟩:=hl j y v' e1 e2 e3
    refine ⟨u',r',?_⟩
    rcases q with q | ⟨k,c',e,z'⟩
    ·exact .inl q
    ·refine .inr ⟨k,c',e,z'.sameBut hs ?_⟩
     rintro rfl
     exact hj (ud hN e1 (I.ok.inj _ _ _ e hc ▸ hi))
  ·by_cases hcc:c'=c
   ·subst hcc;exact ⟨_,hc'⟩
   ·obtain ⟨w2,z2⟩:=I.cell y c' e
    exact ⟨w2,z2.sameBut hs hcc⟩
  ·obtain ⟨e,n,ne,nf,d⟩:=I.pin p hp
   refine ⟨(hs.2 p.1 ?_).trans e,n,ne,nf,d⟩
   intro q
   rw [q,hoc] at e
   have q':oc=p.2:=dM.inj e
   exact d w' (by rw [← q'];exact hocd)
theorem uf {M:Model} {A:Around} {E:Value→Shared→Prop} {i:Nat} {x:Str} {v:V} {u:Value} {Q:Unit→Shared→Prop} (I:Inv X pins σ H s) (hN:X.N.Nodup) (hi:X.N[i]? = some x) (hx:Loc X.env.scope x) (r:RelV v u)
 (h:∀ s',Inv X pins (σ.set i (some v)) H s'→Q () s') (hf:X.fn x=true∨X.env.scope.names.lookup x=some .local:=by first | exact .inl rfl | exact .inr rfl | assumption):wpAny M A (storeName X.env x u) Q E s :=
 vU I hN hi hx r (fun s' I' _=>h s' I') hf
theorem Inv.call' {s':Shared} {ch:List Addr} (I:Inv X pins σ H s) (ho:s'.os=s.os) (u:Un (frs X.stack) ch H H' s.heap s'.heap) (hok:HOk X.prog X.w H' s'.heap) (hg:AllBare s'.gens)
 (hch:∀ b ∈ ch,(b ∈ X.ex∨X.s₀.heap.objs.size ≤ b)∧b ≠ X.env.locals∧(∀ x c,X.env.cells.lookup x=some c→c ≠ b)∧∀ p ∈ X.pn++pins,p.1 ≠ b):Inv X pins σ H' s':=by
 obtain ⟨h',g',d',t',o'⟩:=s'
 have e:o'=s.os:=ho
 subst e
 exact I.call (g':=g') (t':=t') (d':=d') u hok hg hch
end
abbrev XK:=Value→Option Addr→Hp→Prop
abbrev St:=List (Option V)
abbrev VK:=V→Hp→Prop
abbrev TE:=St→Hp→VK→Prop
abbrev TT:=St→Hp→(Bool→Hp→Prop)→Prop
abbrev TA:=St→Hp→(List V→Hp→Prop)→Prop
structure Ends where
 nx:St→Hp→Prop
 rt:VK
 bk:St→Hp→Prop:=fun _ _=>False
 ct:St→Hp→Prop:=fun _ _=>False
abbrev TS:=Ends→St→Hp→Prop
def EP (X:Cx) (pins:List (Addr × Obj)) (σ:St) (Q:VK) (u:Value) (s':Shared):Prop:=∃ v H',Inv X pins σ H' s'∧RelV v u∧Q v H'
def TP (X:Cx) (pins:List (Addr × Obj)) (σ:St) (Q:Bool→Hp→Prop) (b:Bool) (s':Shared):Prop:=∃ H',Inv X pins σ H' s'∧Q b H'
def AP (X:Cx) (pins:List (Addr × Obj)) (σ:St) (Q:List V→Hp→Prop) (us:List Value) (s':Shared):Prop:=∃ vs H',Inv X pins σ H' s'∧Vals vs us∧Q vs H'
def SP (X:Cx) (pins:List (Addr × Obj)) (D:Ends) (f:Flow) (s':Shared):Prop :=
 match f with
 | .next=>∃ σ' H',Inv X pins σ' H' s'∧D.nx σ' H'
 | .brk=>∃ σ' H',Inv X pins σ' H' s'∧D.bk σ' H'
 | .cont=>∃ σ' H',Inv X pins σ' H' s'∧D.ct σ' H'
 | .ret u=>∃ v σ' H',Inv X pins σ' H' s'∧RelV v u∧D.rt v H'
def PE (X:Cx) (e:Expr) (t:TE):Prop :=
 ∀ (pins:List (Addr × Obj)) (s:Shared) (σ:St) (H:Hp) (Q:VK),Inv X pins σ H s→t σ H Q→wpAny (model X.prog X.w) X.A (eval e X.env) (EP X pins σ Q) X.xe s
def PT (X:Cx) (e:Expr) (t:TT):Prop :=
 ∀ (pins:List (Addr × Obj)) (s:Shared) (σ:St) (H:Hp) (Q:Bool→Hp→Prop),Inv X pins σ H s→t σ H Q→wpAny (model X.prog X.w) X.A (isTrue e X.env (eval e X.env)) (TP X pins σ Q) X.xe s
def PW (X:Cx) (e:Expr) (t:TT):Prop :=
 ∀ (whole:Sem Value) (pins:List (Addr × Obj)) (s:Shared) (σ:St) (H:Hp) (Q:Bool→Hp→Prop),Inv X pins σ H s→t σ H Q→wpAny (model X.prog X.w) X.A (isTrue e X.env whole) (TP X pins σ Q) X.xe s
theorem PW.pt {X:Cx} {e:Expr} {t:TT} (h:PW X e t):PT X e t:=h _
def PA (X:Cx) (es:List Expr) (t:TA):Prop :=
 ∀ (pos:Pos) (pins:List (Addr × Obj)) (s:Shared) (σ:St) (H:Hp) (Q:List V→Hp→Prop),Inv X pins σ H s→t σ H Q→wpAny (model X.prog X.w) X.A (spliced (backTo pos (starEach es X.env))) (AP X pins σ Q) X.xe s
def PS (X:Cx) (st:Stmt) (t:TS):Prop :=
 ∀ (pins:List (Addr × Obj)) (s:Shared) (σ:St) (H:Hp) (D:Ends),Inv X pins σ H s→t D σ H→wpAny (model X.prog X.w) X.A (exec st X.env) (SP X pins D) X.xe s
def PSs (X:Cx) (st:List Stmt) (t:TS):Prop :=
 ∀ (pins:List (Addr × Obj)) (s:Shared) (σ:St) (H:Hp) (D:Ends),Inv X pins σ H s→t D σ H→wpAny (model X.prog X.w) X.A (execs st X.env) (SP X pins D) X.xe s
theorem thn {α:Type} {t:Sem α} {Q Q':α→Shared→Prop} {M:Model} {A:Around} {E:Value→Shared→Prop} {s:Shared} (h:wpAny M A t Q E s) (hQ:∀ a s,Q a s→Q' a s):wpAny M A t Q' E s:=wpAny_mono h hQ fun _ _ x=>x
end L2
namespace L2
open PySem PySem.Spec PyProof.Rows
section
variable {X:Cx}
def Uo (i:Nat):TE:=fun σ H Q=>∃ v,σ[i]? = some (some v)∧Q v H
def tC (v:V):TE:=fun _ H Q=>Q v H
theorem lg {i:Nat} {x:Str} {pos:Pos} (hN:X.N[i]? = some x) (hv:Vis X.env.scope x) (hd:(x == ("__debug__" : Str))=false:=by decide) (hcd:(x == ("__classdict__" : Str))=false:=by decide):PE X (.Name x pos) (Uo i):=by
 intro pins s σ H Q I h
 obtain ⟨v,e,h⟩:=h
 obtain ⟨m,hn,hl⟩:=I.loc
 obtain ⟨u,r,l⟩:=hl i x v hN e hv
 have fin:EP X pins σ Q u s:=⟨v,H,I,r,h⟩
 rcases l with ⟨hk,hm⟩ | ⟨hk,c,hc,hcell⟩
 ·exact wpAny_Name (wpAny_loadName_local I.ok.kind hk hn hm fin) hd
 ·rcases hk with hk | hk
  ·exact wpAny_Name (wpAny_loadName_cell I.ok.kind hk hc hcell fin) hd
  ·exact wpAny_Name (wpAny_loadName_free I.ok.kind hk hc hcell fin hcd) hd
theorem Nx {i j pos}:PE X (.Constant (.int i) j pos) (tC (.int i)):=fun _ _ _ H _ I h=>wpAny_Constant_int ⟨.int i,H,I.tok _,⟨_,rfl⟩,h⟩
theorem Ra {b j pos}:PE X (.Constant (.bool b) j pos) (tC (.bl b)):=fun _ _ _ H _ I h=>Constant_bool ⟨.bl b,H,I,rfl,h⟩
theorem Ny {j pos}:PE X (.Constant .none j pos) (tC .non):=fun _ _ _ H _ I h=>Constant_none ⟨.non,H,I,rfl,h⟩
def Gl (X:Cx) (x:Str):Prop:=X.env.kindOf x=some .globalImplicit
theorem lK {E:Value→Shared→Prop} {pins:List (Addr × Obj)} {s:Shared} {σ:St} {H:Hp} {x:Str} {u:Value} {pos:Pos} {Q:Value→Shared→Prop} (I:Inv X pins σ H s) (hg:Gl X x) (hm:X.mg x=some u) (h:Q u s)
 (hd:(x == ("__debug__" : Str))=false:=by decide):wpAny (model X.prog X.w) X.A (eval (.Name x pos) X.env) Q E s :=
 Calls.Name_function_global I.ok.kind hg (Calls.loadGlobal_global (by rw [I.ok.glob];exact I.mod.glob.keeps I.bk) hm h) hd
theorem m7 {E:Value→Shared→Prop} {pins:List (Addr × Obj)} {s:Shared} {σ:St} {H:Hp} {x:Str} {u:Value} {pos:Pos} {Q:Value→Shared→Prop} (I:Inv X pins σ H s) (hg:Gl X x) (hm:X.mg x=none) (hv:bootBuiltins x=some u) (h:Q u s)
 (hn:x ≠ "__name__" := by decide) (hd:(x == ("__debug__" : Str))=false:=by decide):wpAny (model X.prog X.w) X.A (eval (.Name x pos) X.env) Q E s:=by
 obtain ⟨mb,h1,h2⟩:=I.mod.blt
 exact Calls.Name_function_global I.ok.kind hg (Calls.loadGlobal_builtin (by rw [I.ok.glob];exact I.mod.glob.keeps I.bk) hm (by rw [I.ok.blt];exact h1.keeps I.bk) ((h2 x hn).trans hv) h) hd
theorem wW {x:Str} {v:V} {u:Value} {pos:Pos} (hg:Gl X x) (hm:X.mg x=some u) (r:RelV v u) (hd:(x == ("__debug__" : Str))=false:=by decide):PE X (.Name x pos) (tC v) :=
 fun _ _ _ H _ I h=>lK I hg hm ⟨v,H,I,r,h⟩ hd
theorem BR {x:Str} {v:V} {u:Value} {pos:Pos} (hg:Gl X x) (hm:X.mg x=none) (hv:bootBuiltins x=some u) (r:RelV v u) (hn:x ≠ "__name__" := by decide) (hd:(x == ("__debug__" : Str))=false:=by decide):PE X (.Name x pos) (tC v) :=
 fun _ _ _ H _ I h=>m7 I hg hm hv ⟨v,H,I,r,h⟩ hn hd
variable {a b:Expr} {ta tb:TE} {pos:Pos}
def PC (X:Cx) (op:CmpOp) (a b:Expr) (t:TE):Prop :=
 ∀ (pins:List (Addr × Obj)) (s:Shared) (σ:St) (H:Hp) (Q:VK),Inv X pins σ H s→t σ H Q →
  wpAny (model X.prog X.w) X.A (eval a X.env) (fun v s₁=>wpAny (model X.prog X.w) X.A (eval b X.env) (fun u s₂=>wpAny (model X.prog X.w) X.A (compareOp op v u) (EP X pins σ Q) X.xe s₂) X.xe s₁) X.xe s
theorem FN (b:Expr) {op:CmpOp} (h:op ≠ .In) (h2:op ≠ .NotIn):behindInMarks op b=false:=by
 have e1:(op == CmpOp.In)=false:=by cases op <;> first | rfl | exact absurd rfl h
 have e2:(op == CmpOp.NotIn)=false:=by cases op <;> first | rfl | exact absurd rfl h2
 cases b <;> simp [behindInMarks,e1,e2]
def Uq (ta:TE):TE:=fun σ H Q=>ta σ H fun x H1=>Q (.bl (decide (x = .non))) H1
def Rc (ta:TE):TE:=fun σ H Q=>ta σ H fun x H1=>Q (.bl (!decide (x = .non))) H1
theorem RelV.none_iff {x:V} {v:Value} (r:RelV x v):(v == Value.none)=decide (x = .non):=by
 cases x with
 | non=>cases r;rfl
 | bl _=>cases r;rfl
 | int _=>obtain ⟨t,rfl⟩:=r;rfl
 | str _=>obtain ⟨t,rfl⟩:=r;rfl
 | byt _=>obtain ⟨t,rfl⟩:=r;rfl
 | flt _=>obtain ⟨t,rfl⟩:=r;rfl
 | ref _=>cases r;rfl
 | ty _=>cases r;rfl
theorem Nz {j pos'} (ha:PE X a ta):PC X .Is a (.Constant .none j pos') (Uq ta):=by
 intro pins s σ H Q I h
 refine thn (ha pins s σ H _ I h) fun v s1 ⟨x,H1,I1,r1,q1⟩=>?_
 exact Constant_none (is_none_gen ⟨.bl _,H1,I1,by rw [r1.none_iff];rfl,q1⟩)
theorem JB {j pos'} (ha:PE X a ta):PC X .IsNot a (.Constant .none j pos') (Rc ta):=by
 intro pins s σ H Q I h
 refine thn (ha pins s σ H _ I h) fun v s1 ⟨x,H1,I1,r1,q1⟩=>?_
 exact Constant_none (isnot_none_gen ⟨.bl _,H1,I1,by rw [r1.none_iff];rfl,q1⟩)
def tB (t:TE):TT:=fun σ H Q=>t σ H fun x H1=>∃ c,x = .bl c∧Q c H1
theorem FP {op:CmpOp} {t:TE} (h:PC X op a b t) (h1:behindInMarks op b=false:=by first | exact FN _ (by decide) (by decide) | rfl):PT X (.Compare a [op] [b] pos) (tB t):=by
 intro pins s σ H Q I hw
 refine wpAny_isTrue_Compare1 (thn (h pins s σ H _ I hw) fun v s1 h1=>thn h1 fun u s2 h2=>thn h2 fun c s3 ⟨x,H1,I1,r1,q1⟩=>?_) h1
 obtain ⟨d,rfl,q⟩:=q1
 cases r1
 exact wpAny_truthy_bool ⟨H1,I1,q⟩
theorem ug {e:Expr} {t:TE} (h:PE X e t) (he:∀ whole,isTrue e X.env whole=(do let v ← whole;standAt e.pos;holding [v] (truthy v)):=by intro _;rfl):PT X e (tB t):=by
 intro pins s σ H Q I hw
 refine isTrue_plain (thn (h pins s σ H _ I hw) fun v s1 ⟨x,H1,I1,r1,q1⟩=>?_) (he _)
 obtain ⟨d,rfl,q⟩:=q1
 cases r1
 exact wpAny_truthy_bool ⟨H1,I1,q⟩
variable {tA tB':TT} {rest:List Expr}
def n_ (t u:TT):TT:=fun σ H Q=>t σ H fun c H1=>if c=true then u σ H1 Q else Q false H1
def tOr (t u:TT):TT:=fun σ H Q=>t σ H fun c H1=>if c=true then Q true H1 else u σ H1 Q
def jN (t:TT):TT:=fun σ H Q=>t σ H fun c H1=>Q (!c) H1
theorem JC (ha:PT X a tA):PW X (.BoolOp .And [a] pos) tA:=by
 intro wh pins s σ H Q I h
 refine isTrue_and (thn (ha pins s σ H Q I h) fun c s1 e=>?_)
 cases c with
 | true=>exact isTrue_and_nil e
 | false=>exact e
theorem FQ (ha:PT X a tA):PW X (.BoolOp .Or [a] pos) tA:=by
 intro wh pins s σ H Q I h
 refine isTrue_or (thn (ha pins s σ H Q I h) fun c s1 e=>?_)
 cases c with
 | false=>exact isTrue_or_nil e
 | true=>exact e
theorem NK (ha:PT X a tA) (hb:PW X (.BoolOp .And (b :: rest) pos) tB'):PW X (.BoolOp .And (a :: b :: rest) pos) (n_ tA tB'):=by
 intro wh pins s σ H Q I h
 refine isTrue_and (thn (ha pins s σ H _ I h) fun c s1 ⟨H1,I1,q1⟩=>?_)
 cases c with
 | true=>exact hb wh pins s1 σ H1 Q I1 q1
 | false=>exact ⟨H1,I1,q1⟩
theorem FW (ha:PT X a tA) (hb:PW X (.BoolOp .Or (b :: rest) pos) tB'):PW X (.BoolOp .Or (a :: b :: rest) pos) (tOr tA tB'):=by
 intro wh pins s σ H Q I h
 refine isTrue_or (thn (ha pins s σ H _ I h) fun c s1 ⟨H1,I1,q1⟩=>?_)
 cases c with
 | true=>exact ⟨H1,I1,q1⟩
 | false=>exact hb wh pins s1 σ H1 Q I1 q1
theorem zZ (ha:PT X a tA):PT X (.UnaryOp .Not a pos) (jN tA):=by
 intro pins s σ H Q I h
 exact isTrue_not (ha pins s σ H (fun c H1=>Q (!c) H1) I h)
def Rf (ta tb:TE):TE:=fun σ H Q=>ta σ H fun x H1=>∃ c,x = .bl c∧if c=true then tb σ H1 Q else Q (.bl false) H1
def Ur (ta tb:TE):TE:=fun σ H Q=>ta σ H fun x H1=>∃ c,x = .bl c∧if c=true then Q (.bl true) H1 else tb σ H1 Q
def Rg (ta:TE):TE:=fun σ H Q=>ta σ H fun x H1=>∃ c,x = .bl c∧Q (.bl (!c)) H1
theorem FZ {op} {t:TE} (h:PE X a t):PE X (.BoolOp op [a] pos) t:=fun pins s σ H Q I hw=>BoolOp_one (h pins s σ H Q I hw)
theorem NP (ha:PE X a ta) (hb:PE X (.BoolOp .And (b :: rest) pos) tb):PE X (.BoolOp .And (a :: b :: rest) pos) (Rf ta tb):=by
 intro pins s σ H Q I h
 refine BoolOp_and (thn (ha pins s σ H _ I h) fun v s1 ⟨x,H1,I1,r1,q1⟩=>?_)
 obtain ⟨c,rfl,q1⟩:=q1
 cases r1
 refine wpAny_truthy_bool ?_
 cases c with
 | true=>exact hb pins s1 σ H1 Q I1 q1
 | false=>exact ⟨.bl false,H1,I1,rfl,q1⟩
theorem Rh (ha:PE X a ta) (hb:PE X (.BoolOp .Or (b :: rest) pos) tb):PE X (.BoolOp .Or (a :: b :: rest) pos) (Ur ta tb):=by
 intro pins s σ H Q I h
 refine BoolOp_or (thn (ha pins s σ H _ I h) fun v s1 ⟨x,H1,I1,r1,q1⟩=>?_)
 obtain ⟨c,rfl,q1⟩:=q1
 cases r1
 refine wpAny_truthy_bool ?_
 cases c with
 | false=>exact hb pins s1 σ H1 Q I1 q1
 | true=>exact ⟨.bl true,H1,I1,rfl,q1⟩
theorem Ga (ha:PE X a ta):PE X (.UnaryOp .Not a pos) (Rg ta):=by
 intro pins s σ H Q I h
 refine UnaryOp_ (thn (ha pins s σ H _ I h) fun v s1 ⟨x,H1,I1,r1,q1⟩=>?_)
 obtain ⟨c,rfl,q1⟩:=q1
 cases r1
 exact not_of (wpAny_truthy_bool ⟨.bl (!c),H1,I1,rfl,q1⟩)
end
end L2
namespace L2
open PySem PySem.Spec PyProof.Rows
def SqL (K:PySem.W.Frag) (H:Hp) (a:Addr) (xs:List V):Prop :=
 Rd H a (.lst xs) ∨
  ∃ (o:Obj) (its:Array Value) (n:Nat),K.lookup a=some o∧o.cls = .type "list" ∧ o.dict=none∧o.data = .seq its n∧its.size ≤ sizeLine∧Vals xs its.toList
def SqT (K:PySem.W.Frag) (H:Hp) (a:Addr) (xs:List V):Prop :=
 Rd H a (.tup xs) ∨
  ∃ (o:Obj) (its:Array Value) (n:Nat),K.lookup a=some o∧o.cls = .type "tuple" ∧ o.data = .seq its n∧its.size ≤ sizeLine∧Vals xs its.toList
def Us:Value→Option V
 | .none=>some .non
 | .bool b=>some (.bl b)
 | .int i _=>some (.int i)
 | .str x _=>some (.str x)
 | .bytes b _=>some (.byt b)
 | .float b _=>some (.flt b)
 | .ref a=>some (.ref a)
 | .type n=>some (.ty n)
 | _=>none
theorem RelV.abs {x:V} {u:Value} (r:RelV x u):Us u=some x:=by
 cases x with
 | non=>cases r;rfl
 | bl _=>cases r;rfl
 | int _=>obtain ⟨t,rfl⟩:=r;rfl
 | str _=>obtain ⟨t,rfl⟩:=r;rfl
 | byt _=>obtain ⟨t,rfl⟩:=r;rfl
 | flt _=>obtain ⟨t,rfl⟩:=r;rfl
 | ref _=>cases r;rfl
 | ty _=>cases r;rfl
theorem RelV.inj {x y:V} {u:Value} (r:RelV x u) (q:RelV y u):x=y:=dM.inj (r.abs.symm.trans q.abs)
theorem Vals.inj:∀ {xs ys:List V} {us:List Value},Vals xs us→Vals ys us→xs=ys
 | _,_,_,.nil,.nil=>rfl
 | _,_,_,.cons r t,.cons r' t'=>by rw [r.inj r',Vals.inj t t']
section
variable {X:Cx} {pins:List (Addr × Obj)} {σ:St} {H:Hp} {s:Shared} {a:Addr} {xs ys:List V}
theorem SqL.of {K:PySem.W.Frag} (h:H a=some (.lst xs)):SqL K H a xs:=.inl (.inl h)
theorem Inv.list (I:Inv X pins σ H s) (h:SqL X.K H a xs):∃ its:List Value,Vals xs its∧PlainL s.heap a its.toArray∧xs.length ≤ sizeLine:=by
 rcases h with h | ⟨o,its,n,hk,hc,hd,hs,hz,r⟩
 ·obtain ⟨z,its,n,r,e⟩:=h.ok I.hok
  exact ⟨its,r,⟨_,n,e,rfl,rfl,rfl⟩,z⟩
 ·refine ⟨its.toList,r,⟨o,n,I.kIn a o hk,hc,hd,by simpa using hs⟩,?_⟩
  have e:=r.length
  simp only [gP] at e
  omega
theorem Inv.tuple (I:Inv X pins σ H s) (h:SqT X.K H a xs):∃ its:List Value,Vals xs its∧IsTup s.heap a its.toArray∧xs.length ≤ sizeLine:=by
 rcases h with h | ⟨o,its,n,hk,hc,hs,hz,r⟩
 ·obtain ⟨z,its,r,p⟩:=h.ok I.hok
  exact ⟨its,r,p,z⟩
 ·refine ⟨its.toList,r,⟨o,I.kIn a o hk,hc,n,by simpa using hs⟩,?_⟩
  have e:=r.length
  simp only [gP] at e
  omega
theorem Inv.list_inj (I:Inv X pins σ H s) (h:SqL X.K H a xs) (h':SqL X.K H a ys):xs=ys:=by
 obtain ⟨its,r,⟨o,n,e,_,_,d⟩,_⟩:=I.list h
 obtain ⟨its',r',⟨o',n',e',_,_,d'⟩,_⟩:=I.list h'
 rw [e] at e';cases e'
 rw [d] at d'
 injection d' with d1 _
 have:its=its':=by simpa using congrArg Array.toList d1
 subst this
 exact r.inj r'
theorem Inv.tuple_inj (I:Inv X pins σ H s) (h:SqT X.K H a xs) (h':SqT X.K H a ys):xs=ys:=by
 obtain ⟨its,r,⟨o,e,_,n,d⟩,_⟩:=I.tuple h
 obtain ⟨its',r',⟨o',e',_,n',d'⟩,_⟩:=I.tuple h'
 rw [e] at e';cases e'
 rw [d] at d'
 injection d' with d1 _
 have:its=its':=by simpa using congrArg Array.toList d1
 subst this
 exact r.inj r'
end
abbrev Cx.wish (X:Cx) (E:Value→Shared→Prop):Cx:={ X with xe:=E }
abbrev Cx.nox (X:Cx):Cx:=X.wish fun _ _=>False
theorem Cx.Ok.wish {X:Cx} (ok:X.Ok) (E:Value→Shared→Prop):(X.wish E).Ok :=
 ⟨ok.mod,ok.kind,ok.glob,ok.blt,ok.above,ok.inj,ok.has,ok.cab,ok.hd,ok.frames,ok.stk,ok.exf,ok.bs,ok.bsz,ok.noex,ok.exfs,ok.funs,ok.frf⟩
theorem Cx.Ok.unwish {X:Cx} {E:Value→Shared→Prop} (ok:(X.wish E).Ok):X.Ok :=
 ⟨ok.mod,ok.kind,ok.glob,ok.blt,ok.above,ok.inj,ok.has,ok.cab,ok.hd,ok.frames,ok.stk,ok.exf,ok.bs,ok.bsz,ok.noex,ok.exfs,ok.funs,ok.frf⟩
section
variable {X:Cx} {pins:List (Addr × Obj)} {σ:St} {H:Hp} {s:Shared} {E:Value→Shared→Prop}
theorem Inv.wish (I:Inv X pins σ H s) (E:Value→Shared→Prop):Inv (X.wish E) pins σ H s:=⟨I.ok.wish E,I.os,I.bare,I.base,I.loc,I.cell,I.free,I.freeC,I.pin,I.hok,I.len⟩
theorem Inv.unwish (I:Inv (X.wish E) pins σ H s):Inv X pins σ H s:=⟨I.ok.unwish,I.os,I.bare,I.base,I.loc,I.cell,I.free,I.freeC,I.pin,I.hok,I.len⟩
theorem SP.unwish {D:Ends} {f:Flow} {s':Shared} (h:SP (X.wish E) pins D f s'):SP X pins D f s':=by
 cases f with
 | next=>obtain ⟨σ',H',I,q⟩:=h;exact ⟨σ',H',I.unwish,q⟩
 | brk=>obtain ⟨σ',H',I,q⟩:=h;exact ⟨σ',H',I.unwish,q⟩
 | cont=>obtain ⟨σ',H',I,q⟩:=h;exact ⟨σ',H',I.unwish,q⟩
 | ret u=>obtain ⟨v,σ',H',I,r,q⟩:=h;exact ⟨v,σ',H',I.unwish,r,q⟩
theorem PE.nox {e:Expr} {t:TE} (h:PE X.nox e t):PE X e t:=fun pins s σ H Q I hw =>
 wpAny_mono (h pins s σ H Q (I.wish _) hw) (fun _ _ ⟨v,H',I',r,q⟩=>⟨v,H',I'.unwish,r,q⟩) fun _ _ z=>False.elim z
theorem PT.nox {e:Expr} {t:TT} (h:PT X.nox e t):PT X e t:=fun pins s σ H Q I hw =>
 wpAny_mono (h pins s σ H Q (I.wish _) hw) (fun _ _ ⟨H',I',q⟩=>⟨H',I'.unwish,q⟩) fun _ _ z=>False.elim z
theorem PSs.nox {st:List Stmt} {t:TS} (h:PSs X.nox st t):PSs X st t:=fun pins s σ H D I hw =>
 wpAny_mono (h pins s σ H D (I.wish _) hw) (fun _ _ q=>q.unwish) fun _ _ z=>False.elim z
end
section
variable {X:Cx} {st:Stmt} {rest:List Stmt} {t u:TS} {e:Expr} {te:TE} {pos:Pos}
def Ri:TS:=fun D σ H=>D.nx σ H
def Ut (t u:TS):TS:=fun D σ H=>t { D with nx:=u D } σ H
theorem BW:PSs X [] Ri:=fun _ _ σ H _ I h=>wpAny_execs_nil ⟨σ,H,I,h⟩
theorem uh (h1:PS X st t) (h2:PSs X rest u):PSs X (st :: rest) (Ut t u):=by
 intro pins s σ H D I h
 refine wpAny_execs_cons (thn (h1 pins s σ H { D with nx:=u D } I h) fun f s1 q=>?_)
 cases f with
 | next =>
  obtain ⟨σ',H',I',q⟩:=q
  exact h2 pins s1 σ' H' D I' q
 | ret v=>exact q
 | brk=>exact q
 | cont=>exact q
theorem wX (h1:PS X st t):PSs X [st] t:=by
 intro pins s σ H D I h
 refine wpAny_execs_cons (thn (h1 pins s σ H D I h) fun f s1 q=>?_)
 cases f with
 | next=>exact wpAny_execs_nil q
 | ret v=>exact q
 | brk=>exact q
 | cont=>exact q
theorem Inv.quiet {pins:List (Addr × Obj)} {σ:St} {H:Hp} {s:Shared} (I:Inv X pins σ H s):interactive X.env=false:=by simp [interactive,I.ok.kind]
def Rj (te:TE):TS:=fun D σ H=>te σ H fun _ H1=>D.nx σ H1
theorem BX (he:PE X e te) (hs:swapsWith e none pos.line X.env=pure false:=by rfl):PS X (.Expr e pos) (Rj te):=by
 intro pins s σ H D I h
 exact wpAny_Expr_any (thn (he pins s σ H _ I h) fun v s1 ⟨x,H1,I1,r1,q1⟩=>⟨σ,H1,I1,q1⟩) I.quiet hs
def Uu (te:TE):TS:=fun D σ H=>te σ H D.rt
theorem z9 (he:PE X e te):PS X (.Return (some e) pos) (Uu te):=by
 intro pins s σ H D I h
 exact wpAny_Return_some (thn (he pins s σ H _ I h) fun v s1 ⟨x,H1,I1,r1,q1⟩=>⟨x,σ,H1,I1,r1,q1⟩)
def Uv (c:TT) (t u:TS):TS:=fun D σ H=>c σ H fun b H1=>if b=true then t D σ H1 else u D σ H1
theorem BZ {c:Expr} {a b:List Stmt} {tc:TT} (hc:PT X c tc) (ha:PSs X a t) (hb:PSs X b u):PS X (.If c a b pos) (Uv tc t u):=by
 intro pins s σ H D I h
 refine wpAny_If (thn (hc pins s σ H _ I h) fun d s1 ⟨H1,I1,q1⟩=>?_)
 cases d with
 | true=>exact ha pins s1 σ H1 D I1 q1
 | false=>exact hb pins s1 σ H1 D I1 q1
end
abbrev TG:=V→St→Hp→(St→Hp→Prop)→Prop
abbrev TGs:=List V→St→Hp→(St→Hp→Prop)→Prop
def PG (X:Cx) (target:Expr) (t:TG):Prop :=
 ∀ (pins:List (Addr × Obj)) (s:Shared) (σ:St) (H:Hp) (v:V) (u:Value) (Q:St→Hp→Prop),Inv X pins σ H s→RelV v u→t v σ H Q →
  wpAny (model X.prog X.w) X.A (assign target X.env u) (fun _ s'=>∃ σ' H',Inv X pins σ' H' s'∧Q σ' H') X.xe s
def PGs (X:Cx) (ts:List Expr) (t:TGs):Prop :=
 ∀ (pins:List (Addr × Obj)) (s:Shared) (σ:St) (H:Hp) (vs:List V) (us:List Value) (Q:St→Hp→Prop),Inv X pins σ H s→Vals vs us→t vs σ H Q →
  wpAny (model X.prog X.w) X.A (assignInOrder ((assignEach ts X.env).map (·.2)) us) (fun _ s'=>∃ σ' H',Inv X pins σ' H' s'∧Q σ' H') X.xe s
abbrev NQ:=V→V→V→Hp→(Hp→Prop)→Prop
def Rk (X:Cx) (t:NQ):Prop :=
 ∀ (pins:List (Addr × Obj)) (s:Shared) (σ:St) (H:Hp) (o i v:V) (ov iv u:Value) (Q:Hp→Prop),Inv X pins σ H s→RelV o ov→RelV i iv→RelV v u→t o i v H Q →
  wpAny (model X.prog X.w) X.A (setItem ov iv u) (fun _ s'=>∃ H',Inv X pins σ H' s'∧Q H') X.xe s
section
variable {X:Cx} {pos:Pos}
def Gb (i:Nat):TG:=fun v σ H Q=>Q (σ.set i (some v)) H
theorem JD {i:Nat} {x:Str} (hN:X.N.Nodup) (hi:X.N[i]? = some x) (hx:Loc X.env.scope x) (hf:X.fn x=true∨X.env.scope.names.lookup x=some .local:=by first | exact .inl rfl | exact .inr rfl | assumption):PG X (.Name x pos) (Gb i):=by
 intro pins s σ H v u Q I r h
 exact wpAny_assign_Name (uf I hN hi hx r (fun s' I'=>⟨_,H,I',h⟩) hf)
def Uw:TGs:=fun vs σ H Q=>vs=[]∧Q σ H
def Rm (t:TG) (u:TGs):TGs:=fun vs σ H Q=>∃ v r,vs=v :: r∧t v σ H fun σ' H'=>u r σ' H' Q
theorem JF:PGs X [] Uw:=by
 intro pins s σ H vs us Q I r h
 obtain ⟨e,h⟩:=h
 subst e
 cases r
 exact assignInOrder_nil ⟨σ,H,I,h⟩
theorem Gd {e:Expr} {es:List Expr} {t:TG} {u:TGs} (h1:PG X e t) (h2:PGs X es u)
 (hs:(assignEach (e :: es) X.env).map (·.2)=assign e X.env :: (assignEach es X.env).map (·.2):=by rfl):PGs X (e :: es) (Rm t u):=by
 intro pins s σ H vs us Q I r h
 obtain ⟨v,vr,e1,h⟩:=h
 subst e1
 cases r with
 | cons r rr =>
  rw [hs]
  refine assignInOrder_cons (thn (h1 pins s σ H _ _ _ I r h) fun _ s1 ⟨σ1,H1,I1,q1⟩=>?_)
  exact h2 pins s1 σ1 H1 _ _ Q I1 rr q1
def Ux (K:PySem.W.Frag) (n:Nat) (t:TGs):TG:=fun v σ H Q=>∃ a xs,v = .ref a∧SqT K H a xs∧xs.length=n∧t xs σ H Q
theorem NT {es:List Expr} {k:Nat} {t:TGs} {n:Nat} (hc:X.calm=true) (h:PGs X es t)
 (hn:(assignEach es X.env).length=n:=by rfl) (hst:(assignEach es X.env).findIdx? (·.1)=none:=by rfl):PG X (.Tuple es k pos) (Ux X.K n t):=by
 intro pins s σ H v u Q I r hw
 obtain ⟨a,xs,e1,hq,hl,hw⟩:=hw
 subst e1
 cases r
 obtain ⟨its,rv,ht,hz⟩:=I.tuple hq
 refine assign_Tuple_tuple (I.ok.hd hc) ht (by simp [hn,← hl,rv.length]) hst fun h' hx=>?_
 have I1:Inv X pins σ H { s with heap:=h' }:=I.kept (t':=s.toks) fun b o e=>hx b o (bR (Heap.lt_size e)) e
 exact h pins _ σ H xs _ Q I1 (by simpa using rv) hw
def pI (to ti:TE) (t:NQ):TG:=fun v σ H Q=>to σ H fun o H1=>ti σ H1 fun i H2=>t o i v H2 fun H3=>Q σ H3
theorem NZ {o i:Expr} {to ti:TE} {t:NQ} (ho:PE X o to) (hi:PE X i ti) (hs:Rk X t)
 (ha:∀ v,assign (.Subscript o i pos) X.env v=(do
  let ov ← holding [v] (eval o X.env)
  let iv ← holding [v,ov] (eval i X.env)
  standAt pos
  holding [v,ov,iv] (setItem ov iv v)
  release [v,ov,iv] []):=by intro _;rfl):PG X (.Subscript o i pos) (pI to ti t):=by
 intro pins s σ H v u Q I r h
 rw [ha]
 refine wpAny_bind (wpAny_holding (thn (ho pins s σ H _ I h) fun ov s1 ⟨x,H1,I1,r1,q1⟩=>?_))
 refine wpAny_bind (wpAny_holding (thn (hi pins s1 σ H1 _ I1 q1) fun iv s2 ⟨y,H2,I2,r2,q2⟩=>?_))
 refine wpAny_bind (wpAny_standAt (wpAny_bind (wpAny_holding (thn (hs pins s2 σ H2 x y v ov iv u _ I2 r1 r2 r q2) fun _ s3 ⟨H3,I3,q3⟩=>?_))))
 exact wpAny_release ⟨σ,H3,I3,q3⟩
def N5 (te:TE) (g:TG):TS:=fun D σ H=>te σ H fun x H1=>g x σ H1 D.nx
theorem Ge {tg e:Expr} {te:TE} {g:TG} (he:PE X e te) (hg:PG X tg g) (hs:swapsWithSole [tg] e pos.line X.env=pure false:=by rfl) (hw:swappedStores [tg] e X.env=pure none:=by rfl)
 (h1:(assignEach [tg] X.env).map (·.2)=[assign tg X.env]:=by rfl):PS X (.Assign [tg] e pos) (N5 te g):=by
 intro pins s σ H D I h
 refine wpAny_Assign_stores (thn (he pins s σ H _ I h) fun v s1 ⟨x,H1,I1,r1,q1⟩=>?_) hs hw
 rw [h1]
 exact thn (hg pins s1 σ H1 x v _ I1 r1 q1) fun _ s2 q=>q
theorem wY {i:Nat} {x:Str} {e:Expr} {te:TE} {pos':Pos} (hN:X.N.Nodup) (hi:X.N[i]? = some x) (hx:Loc X.env.scope x) (he:PE X e te) (hs:swapsWith e (some (.Name x pos')) pos.line X.env=pure false:=by rfl) (hf:X.fn x=true∨X.env.scope.names.lookup x=some .local:=by first | exact .inl rfl | exact .inr rfl | assumption) :
 PS X (.Assign [.Name x pos'] e pos) (N5 te (Gb i)):=by
 intro pins s σ H D I h
 refine wpAny_Assign_Name (thn (he pins s σ H _ I h) fun v s1 ⟨y,H1,I1,r1,q1⟩=>?_) hs
 exact uf I1 hN hi hx r1 (fun s2 I2=>⟨_,H1,I2,q1⟩) hf
end
section
variable {X:Cx} {pos:Pos}
def N6 (c:TT) (tb:TS):TS:=fun D σ H=>∃ W:Nat→St→Hp→Prop,(∃ m,W m σ H)∧∀ m σ H,W m σ H →
 c σ H fun b H1=>if b=true then ∃ N:St→Hp→Prop,(∀ σ' H',N σ' H'→∃ m',m' < m∧W m' σ' H')∧tb { D with nx:=N,ct:=N,bk:=D.nx } σ H1 else D.nx σ H1
theorem Gf {c:Expr} {body:List Stmt} {tc:TT} {tb:TS} (hp:PassesOwn (model X.prog X.w) X.A X.env X.xe) (hc:PT X c tc) (hb:PSs X body tb):PS X (.While c body [] pos) (N6 tc tb):=by
 intro pins s σ H D I h
 obtain ⟨W,⟨m0,w0⟩,turn⟩:=h
 refine wpAny_While (codeAny_whileLoop (fun n s'=>∃ σ' H',Inv X pins σ' H' s'∧W n σ' H') ?_ m0 ⟨σ,H,I,w0⟩)
 rintro n s1 ⟨σ1,H1,I1,w1⟩
 refine wpAny_passesOwn hp (thn (hc pins s1 σ1 H1 _ I1 (turn n σ1 H1 w1)) fun b s2 ⟨H2,I2,q2⟩=>?_)
 cases b with
 | true =>
  obtain ⟨N,hN,q2⟩:=q2
  rw [if_pos rfl]
  refine wpAny_passesOwn hp (thn (hb pins s2 σ1 H2 _ I2 q2) fun f s3 q3=>?_)
  cases f with
  | next =>
   obtain ⟨σ3,H3,I3,n3⟩:=q3
   obtain ⟨m',hm,w3⟩:=hN σ3 H3 n3
   exact ⟨m',hm,σ3,H3,I3,w3⟩
  | cont =>
   obtain ⟨σ3,H3,I3,n3⟩:=q3
   obtain ⟨m',hm,w3⟩:=hN σ3 H3 n3
   exact ⟨m',hm,σ3,H3,I3,w3⟩
  | brk=>exact q3
  | ret v=>exact q3
 | false =>
  rw [if_neg eO]
  exact wpAny_execs_nil ⟨σ1,H2,I2,q2⟩
end
structure It where
 go:Nat→Hp→Prop
 yld:Nat→Hp→V→Hp→Prop
 stop:Nat→Hp→Prop
def rD (X:Cx) (pins:List (Addr × Obj)) (H:Hp) (b:Addr):Prop :=
 H b=none∧b ≠ X.env.locals∧b ∉ X.fs∧(b ∈ X.ex∨X.s₀.heap.objs.size ≤ b)∧(∀ x c,X.env.cells.lookup x=some c→c ≠ b)∧∀ p ∈ X.pn++pins,p.1 ≠ b
theorem Inv.fpOk {X:Cx} {pins:List (Addr × Obj)} {σ:St} {H H':Hp} {s:Shared} {b:Addr} (I:Inv X pins σ H s) (hb:s.heap.objs.size ≤ b) (hn:H' b=none):rD X pins H' b:=by
 refine ⟨hn,pZ (bL I.lt hb),I.nofs hb,.inr (bV I.sz hb),fun x c e z=>?_,fun p hp z=>?_⟩
 ·obtain ⟨v,q⟩:=I.cell x c e
  exact absurd (bL q.lt (by rw [z];exact hb)) (iM _)
 ·exact absurd (bL (Heap.lt_size (I.pin p hp).1) (by rw [z];exact hb)) (iM _)
structure Turn (P:Program) (w:World) (K:PySem.W.Frag) (tg:Expr) (J:It) (fp:List Addr) (it:Addr) (tn:Nat→Heap→Prop):Prop where
 mem:it ∈ fp
 obj:∀ i h,tn i h→∀ b ∈ fp,∃ o,h.get? b=some o∧∀ v,o.data ≠ .cell v
 keep:∀ i h h',tn i h→(∀ b ∈ fp,∀ o,h.get? b=some o→h'.get? b=some o)→tn i h'
 item:∀ (X:Cx),X.prog=P→X.w=w→X.K=K→X.calm=true→∀ (i:Nat) (pins:List (Addr × Obj)) (s:Shared) (σ:St) (H:Hp) (E:Value→Shared→Prop),Inv X pins σ H s→(∀ b ∈ fp,rD X pins H b)→tn i s.heap→J.go i H →
  wpAny (model P w) X.A (pyNext (.ref it)) (fun r s1=>∃ u,r=some u ∧
   wpAny (model P w) X.A (letOwnedTupleGo tg (.ref it) u) (fun _ s2=>∃ x H',Inv X pins σ H' s2∧RelV x u∧J.yld i H x H'∧tn (i + 1) s2.heap∧∀ b ∈ fp,H' b=none) E s1) E s
 done:∀ (X:Cx),X.prog=P→X.w=w→X.K=K→X.calm=true→∀ (i:Nat) (pins:List (Addr × Obj)) (s:Shared) (σ:St) (H:Hp) (E:Value→Shared→Prop),Inv X pins σ H s→(∀ b ∈ fp,rD X pins H b)→tn i s.heap→J.stop i H →
  wpAny (model P w) X.A (pyNext (.ref it)) (fun r s1=>r=none∧Inv X pins σ H s1) E s
 self:∀ (A:Around) (i:Nat) (s:Shared) (Q:Value→Shared→Prop) (E:Value→Shared→Prop),tn i s.heap→Q (.ref it) s→wpAny (model P w) A (pyIter (.ref it)) Q E s
abbrev TI:=St→Hp→(It→Hp→Prop)→Prop
def PIE (X:Cx) (pins:List (Addr × Obj)) (σ:St) (tg:Expr) (R:It→Hp→Prop) (itv:Value) (s2:Shared):Prop :=
 ∃ (it:Addr) (fp:List Addr) (tn:Nat→Heap→Prop) (J:It) (H':Hp),itv = .ref it∧Inv X pins σ H' s2∧Turn X.prog X.w X.K tg J fp it tn∧tn 0 s2.heap∧(∀ b ∈ fp,rD X pins H' b)∧R J H'
def PI (X:Cx) (tg iter:Expr) (wi:TI):Prop :=
 ∀ (pins:List (Addr × Obj)) (s:Shared) (σ:St) (H:Hp) (R:It→Hp→Prop),Inv X pins σ H s→wi σ H R →
  wpAny (model X.prog X.w) X.A (eval iter X.env) (fun v s1=>wpAny (model X.prog X.w) X.A (pyIter v) (PIE X pins σ tg R) X.xe s1) X.xe s
theorem B_ {M:Model} {A:Around} {E:Value→Shared→Prop} {s:Shared} {tg:Expr} {it:Addr} {u:Value} {o:Obj} {n:String} {vs:Array Value} {Q:Unit→Shared→Prop} (ho:s.heap.get? it=some o) (hc:o.cls = .type n) (hd:o.data = .fields vs)
 (hn:["enumerate", "zip", "dict_itemiterator", "dict_reverseitemiterator", "odict_iterator", "itertools.zip_longest", "itertools.pairwise"].contains n=false) (hQ:Q () s):wpAny M A (letOwnedTupleGo tg (.ref it) u) Q E s:=by
 unfold letOwnedTupleGo
 cases tg <;> first
  | exact wpAny_pure hQ
  | (cases u <;> first
   | exact wpAny_pure hQ
   | (refine wpAny_bind (wpAny_load ho ?_)
      rw [hc,hd]
      show wpAny M A (if (["enumerate", "zip", "dict_itemiterator", "dict_reverseitemiterator", "odict_iterator", "itertools.zip_longest", "itertools.pairwise"].contains n && vs[0]? == some (rawInt _))=true then _ else _) Q E s
      rw [if_neg (by intro h;rw [hn,nW] at h;cases h)]
      exact wpAny_pure hQ))
def Itl (K:PySem.W.Frag) (a:Addr):It :=
 ⟨fun i H=>∃ xs x,SqL K H a xs∧xs[i]? = some x,fun i H x H'=>H'=H∧∀ xs,SqL K H a xs→xs[i]? = some x,fun i H=>∃ xs,SqL K H a xs∧xs.length ≤ i⟩
def Itt (K:PySem.W.Frag) (a:Addr):It :=
 ⟨fun i H=>∃ xs x,SqT K H a xs∧xs[i]? = some x,fun i H x H'=>H'=H∧∀ xs,SqT K H a xs→xs[i]? = some x,fun i H=>∃ xs,SqT K H a xs∧xs.length ≤ i⟩
def Itr (lo:Int) (n:Nat):It:=⟨fun i _=>i < n,fun i H x H'=>H'=H∧x = .int (lo + i),fun i _=>n ≤ i⟩
theorem Dr {P:Program} {w:World} {K:PySem.W.Frag} {tg:Expr} (a it:Addr):Turn P w K tg (Itl K a) [it] it (fun i h=>h.IsListIter it a i) where
 mem:=by simp
 obj:=fun i h st b hb=>by
  have e:b=it:=by simpa using hb
  subst e
  obtain ⟨o,e,c,d⟩:=st
  exact ⟨o,e,fun v z=>by rw [d] at z;cases z⟩
 keep:=fun i h h' st k=>st.at fun o e=>k it (by simp) o e
 item:=by
  intro X hP hw hK hc i pins s σ H E I hf st hg
  subst hP hw hK
  obtain ⟨xs,x,hq,hx⟩:=hg
  obtain ⟨its,rv,p,hz⟩:=I.list hq
  obtain ⟨u,hu,ru⟩:=rv.get hx
  obtain ⟨f0,f1,f2,f3,f4,f5⟩:=hf it (by simp)
  refine wpAny_pyNext_list_item st p.isList (x:=u) (by simpa using hu) fun h' st' sb=>?_
  have I1:Inv X pins σ H { s with heap:=h' }:=I.turned (t':=s.toks) (fun b o hb e=>(sb.2 b hb).trans e) f0 f1 f3 f4 f5
  obtain ⟨o,e,c,d⟩:=id st'
  exact ⟨u,rfl,B_ (s:={ s with heap:=h' }) e c d (by decide) ⟨x,H,I1,ru,⟨rfl,fun ys hy=>by rw [I.list_inj hy hq];exact hx⟩,st',fun b hb=>(hf b hb).1⟩⟩
 done:=by
  intro X hP hw hK hc i pins s σ H E I hf st hg
  subst hP hw hK
  obtain ⟨xs,hq,hx⟩:=hg
  obtain ⟨its,rv,p,hz⟩:=I.list hq
  obtain ⟨f0,f1,f2,f3,f4,f5⟩:=hf it (by simp)
  have hl:=rv.length
  exact wpAny_pyNext_list_end (I.ok.hd hc) st p.isList (by simp;omega) fun h' eb=>⟨rfl,I.turned (t':=s.toks) (fun b o hb e=>eb b o hb e) f0 f1 f3 f4 f5⟩
 self:=fun _ _ _ _ _ st h=>wpAny_pyIter_listiter st h
theorem z_ {P:Program} {w:World} {K:PySem.W.Frag} {tg:Expr} (a it:Addr):Turn P w K tg (Itt K a) [it] it (fun i h=>h.IsTupleIter it a i) where
 mem:=by simp
 obj:=fun i h st b hb=>by
  have e:b=it:=by simpa using hb
  subst e
  obtain ⟨o,e,c,d⟩:=st
  exact ⟨o,e,fun v z=>by rw [d] at z;cases z⟩
 keep:=fun i h h' st k=>st.at fun o e=>k it (by simp) o e
 item:=by
  intro X hP hw hK hc i pins s σ H E I hf st hg
  subst hP hw hK
  obtain ⟨xs,x,hq,hx⟩:=hg
  obtain ⟨its,rv,p,hz⟩:=I.tuple hq
  obtain ⟨u,hu,ru⟩:=rv.get hx
  obtain ⟨f0,f1,f2,f3,f4,f5⟩:=hf it (by simp)
  refine wpAny_pyNext_tuple_item st (show s.heap.IsTuple a its.toArray from p) (x:=u) (by simpa using hu) fun h' st' sb=>?_
  have I1:Inv X pins σ H { s with heap:=h' }:=I.turned (t':=s.toks) (fun b o hb e=>(sb.2 b hb).trans e) f0 f1 f3 f4 f5
  obtain ⟨o,e,c,d⟩:=id st'
  exact ⟨u,rfl,B_ (s:={ s with heap:=h' }) e c d (by decide) ⟨x,H,I1,ru,⟨rfl,fun ys hy=>by rw [I.tuple_inj hy hq];exact hx⟩,st',fun b hb=>(hf b hb).1⟩⟩
 done:=by
  intro X hP hw hK hc i pins s σ H E I hf st hg
  subst hP hw hK
  obtain ⟨xs,hq,hx⟩:=hg
  obtain ⟨its,rv,p,hz⟩:=I.tuple hq
  obtain ⟨f0,f1,f2,f3,f4,f5⟩:=hf it (by simp)
  have hl:=rv.length
  exact wpAny_pyNext_tuple_end (I.ok.hd hc) st (show s.heap.IsTuple a its.toArray from p) (by simp;omega) fun h' eb=>⟨rfl,I.turned (t':=s.toks) (fun b o hb e=>eb b o hb e) f0 f1 f3 f4 f5⟩
 self:=fun _ _ _ _ _ st h=>wpAny_pyIter_tupleiter st h
theorem Aa {P:Program} {w:World} {K:PySem.W.Frag} {tg:Expr} (it:Addr) (lo:Int) (n:Nat):Turn P w K tg (Itr lo n) [it] it (fun i h=>IsRangeIter h it (lo + (i:Nat) * 1) ((n:Int) - (i:Nat)) 1) where
 mem:=by simp
 obj:=fun i h st b hb=>by
  have e:b=it:=by simpa using hb
  subst e
  exact ⟨_,st,fun v z=>by
   have z':Data.fields _=Data.cell v:=z
   cases z'⟩
 keep:=fun i h h' st k=>k it (by simp) _ st
 item:=by
  intro X hP hw hK hc i pins s σ H E I hf st hg
  subst hP hw hK
  obtain ⟨f0,f1,f2,f3,f4,f5⟩:=hf it (by simp)
  have W:=Walks.range (prog:=X.prog) (w:=X.w) (I.ok.hd hc) it lo 1 n
  refine W.item i s _ _ hg st fun v h' tk hv st' kk=>?_
  obtain ⟨t,rfl⟩:=hv
  have I1:Inv X pins σ H { s with heap:=h',toks:=tk }:=I.turned (fun b o hb e=>kk b o (by simpa using hb) e) f0 f1 f3 f4 f5
  refine ⟨_,rfl,B_ (s:={ s with heap:=h',toks:=tk }) (n := "range_iterator") st' rfl rfl (by decide) ⟨.int (lo + i),H,I1,⟨t,?_⟩,⟨rfl,rfl⟩,st',fun b hb=>(hf b hb).1⟩⟩
  rw [Int.mul_one]
 done:=by
  intro X hP hw hK hc i pins s σ H E I hf st hg
  subst hP hw hK
  obtain ⟨f0,f1,f2,f3,f4,f5⟩:=hf it (by simp)
  exact wpAny_pyNext_range_end (I.ok.hd hc) st (by have:n ≤ i:=hg;omega) fun h' eb=>⟨rfl,I.turned (t':=s.toks) (fun b o hb e=>eb b o hb e) f0 f1 f3 f4 f5⟩
 self:=fun _ _ _ _ _ st h=>wpAny_pyIter_rangeiter st h
end L2
namespace L2
open PySem PySem.Spec PyProof.Rows
section
variable {X:Cx} {tg:Expr}
def Rn (K:PySem.W.Frag) (tl:TE):TI:=fun σ H R=>tl σ H fun x H1=>∃ a,x = .ref a∧(∃ xs,SqL K H1 a xs)∧R (Itl K a) H1
def Uy (K:PySem.W.Frag) (tl:TE):TI:=fun σ H R=>tl σ H fun x H1=>∃ a,x = .ref a∧(∃ xs,SqT K H1 a xs)∧R (Itt K a) H1
theorem Ca {l:Expr} {tl:TE} (hl:PE X l tl):PI X tg l (Rn X.K tl):=by
 intro pins s σ H R I h
 refine thn (hl pins s σ H _ I h) fun v s1 ⟨x,H1,I1,r1,q1⟩=>?_
 obtain ⟨a,e,⟨xs,hq⟩,q⟩:=q1
 subst e
 cases r1
 obtain ⟨its,rv,p,hz⟩:=I1.list hq
 refine wpAny_pyIter_list p.isList ?_
 refine ⟨s1.heap.objs.size,[s1.heap.objs.size],_,_,H1,rfl,I1.kept (t':=s1.toks) fun b o e=>Heap.get?_push_of_some _ e,Dr a _,⟨_,Heap.get?_push_size _ rfl,rfl,rfl⟩,fun b hb=>?_,q⟩
 have e:b=s1.heap.objs.size:=by simpa using hb
 subst e
 exact I1.fpOk (bA _) (I1.hok.fresh (bA _))
theorem N7 {l:Expr} {tl:TE} (hl:PE X l tl):PI X tg l (Uy X.K tl):=by
 intro pins s σ H R I h
 refine thn (hl pins s σ H _ I h) fun v s1 ⟨x,H1,I1,r1,q1⟩=>?_
 obtain ⟨a,e,⟨xs,hq⟩,q⟩:=q1
 subst e
 cases r1
 obtain ⟨its,rv,p,hz⟩:=I1.tuple hq
 refine wpAny_pyIter_tuple (show s1.heap.IsTuple a its.toArray from p) ?_
 refine ⟨s1.heap.objs.size,[s1.heap.objs.size],_,_,H1,rfl,I1.kept (t':=s1.toks) fun b o e=>Heap.get?_push_of_some _ e,z_ a _,⟨_,Heap.get?_push_size _ rfl,rfl,rfl⟩,fun b hb=>?_,q⟩
 have e:b=s1.heap.objs.size:=by simpa using hb
 subst e
 exact I1.fpOk (bA _) (I1.hok.fresh (bA _))
theorem Gg {pins:List (Addr × Obj)} {σ:St} {H:Hp} {s:Shared} {R:It→Hp→Prop} {E:Value→Shared→Prop} {lo hi:Int} {t u v:Tok} {tk:Nat} (I:Inv X pins σ H s) (h1 : -(2 ^ 62) ≤ lo) (h2:lo < 2 ^ 62) (h3 : -(2 ^ 62) ≤ hi) (h4:hi < 2 ^ 62)
 (q:R (Itr lo (hi - lo).toNat) H):wpAny (model X.prog X.w) X.A (pyIter (.ref s.heap.objs.size)) (PIE X pins σ tg R) E { s with heap:=s.heap.push { cls:=.type "range", data:=.fields #[.int lo t,.int hi u,.int 1 v] },toks:=tk }:=by
 refine wpAny_pyIter_range (IsRange.new ..) (small_one h1 h2 h3 h4) ?_
 have I1:Inv X pins σ H { s with heap:=s.heap.push { cls:=.type "range", data:=.fields #[.int lo t,.int hi u,.int 1 v] },toks:=tk }:=I.kept fun b o e=>Heap.get?_push_of_some _ e
 refine ⟨(s.heap.push { cls:=.type "range", data:=.fields #[.int lo t,.int hi u,.int 1 v] }).objs.size,[(s.heap.push { cls:=.type "range", data:=.fields #[.int lo t,.int hi u,.int 1 v] }).objs.size],_,_,H,rfl,
  I1.kept (t':=tk) fun b o e=>Heap.get?_push_of_some _ e,Aa _ lo (hi - lo).toNat,?_,fun b hb=>?_,q⟩
 ·have e1:lo + ((0:Nat):Int) * 1=lo:=by simp
  have e2:(((hi - lo).toNat:Nat):Int) - ((0:Nat):Int)=Builtin.Range.rangeSize lo hi 1:=by rw [rangeSize_one];split <;> omega
  show IsRangeIter _ _ (lo + ((0:Nat):Int) * 1) ((((hi - lo).toNat:Nat):Int) - ((0:Nat):Int)) 1
  rw [e1,e2]
  exact Heap.get?_push_size _ rfl
 ·have e:b=(s.heap.push { cls:=.type "range", data:=.fields #[.int lo t,.int hi u,.int 1 v] }).objs.size:=by simpa using hb
  subst e
  exact I1.fpOk (bA _) (I1.hok.fresh (bA _))
def Ro (ta:TA):TI:=fun σ H R=>ta σ H fun vs H1=>∃ j:Int,vs=[.int j]∧-(2 ^ 62) ≤ j∧j < 2 ^ 62∧R (Itr 0 j.toNat) H1
theorem Dt {a:Expr} {ta:TA} {p pos:Pos} (hg:Gl X "range") (hm:X.mg "range" = none) (ha:PA X [a] ta) (hs:starEach [a] X.env=[(false,eval a X.env)]:=by rfl):PI X tg (.Call (.Name "range" p) [a] [] pos) (Ro ta):=by
 intro pins s σ H R I h
 refine Call_ (m7 I hg hm boot_range (PyProof.Rows.callWith_type1 (thn (ha pos pins s σ H _ I h) fun us s1 ⟨vs,H1,I1,r1,q1⟩=>?_) hs rfl))
 obtain ⟨j,e,q1,q2,q⟩:=q1
 subst e
 cases r1 with
 | cons r rr =>
  cases rr
  obtain ⟨t,rfl⟩:=r
  exact call_range_1 (Gg I1 (by omega) (by omega) q1 q2 (by simpa using q))
def Uz (wi:TI) (g:TG) (tb:TS):TS:=fun D σ H=>wi σ H fun J H1=>∃ W:Nat→Nat→St→Hp→Prop,(∃ m,W 0 m σ H1)∧∀ i m σ H,W i m σ H →
 (J.stop i H∧D.nx σ H)∨(J.go i H∧∃ N:St→Hp→Prop,(∀ σ' H',N σ' H'→∃ m',m' < m∧W (i + 1) m' σ' H')∧∀ x H',J.yld i H x H'→g x σ H' fun σ2 H2=>tb { D with nx:=N,ct:=N,bk:=D.nx } σ2 H2)
def um (fp:List Addr) (h:Heap):List (Addr × Obj):=fp.filterMap fun b=>(h.get? b).map fun o=>(b,o)
theorem m8 {fp:List Addr} {h:Heap} {b:Addr} {o:Obj} (hb:b ∈ fp) (e:h.get? b=some o):(b,o) ∈ um fp h:=kW.mpr ⟨b,hb,by rw [e];rfl⟩
theorem Du {fp:List Addr} {h:Heap} {p:Addr × Obj} (hp:p ∈ um fp h):p.1 ∈ fp∧h.get? p.1=some p.2:=by
 obtain ⟨b,hb,e⟩:=kW.mp hp
 cases q:h.get? b with
 | none=>rw [q] at e;cases e
 | some o =>
  rw [q] at e
  have e':(b,o)=p:=dM.inj e
  subst e'
  exact ⟨hb,q⟩
theorem Inv.pinned {pins:List (Addr × Obj)} {σ:St} {H:Hp} {s:Shared} {fp:List Addr} (I:Inv X pins σ H s) (hf:∀ b ∈ fp,rD X pins H b) (ho:∀ b ∈ fp,∃ o,s.heap.get? b=some o∧∀ v,o.data ≠ .cell v):Inv X (pins++um fp s.heap) σ H s :=
 I.pins_of fun p hp=>(bZ.mp hp).elim (fun z=>I.pin p (aQ _ z)) fun z=>by
  obtain ⟨hb,e⟩:=Du z
  obtain ⟨f0,f1,f2,_⟩:=hf p.1 hb
  obtain ⟨o,e',d⟩:=ho p.1 hb
  rw [e] at e';cases e'
  exact ⟨e,f0,f1,f2,d⟩
theorem Inv.unpinned {pins pl:List (Addr × Obj)} {σ:St} {H:Hp} {s:Shared} (I:Inv X (pins++pl) σ H s):Inv X pins σ H s:=I.pins_of fun p hp=>I.pin p (aQ _ (bD _ hp))
theorem Gi {iter:Expr} {body:List Stmt} {wi:TI} {g:TG} {tb:TS} {pos:Pos} (hp:PassesOwn (model X.prog X.w) X.A X.env X.xe) (hc:X.calm=true) (hi:PI X tg iter wi) (hg:PG X tg g) (hb:PSs X body tb)
 (hs:∀ x,foldedSetIterable iter X.env x=pure x:=by intro _;rfl):PS X (.For tg iter body [] pos) (Uz wi g tb):=by
 intro pins s σ H D I h
 refine wpAny_For (thn (hi pins s σ H _ I h) fun v s1 h1=>thn h1 fun itv s2 h2=>?_) hs
 obtain ⟨it,fp,tn,J,H2,e,I2,T,st2,f2,W,⟨m0,w0⟩,turn⟩:=h2
 subst e
 have stat:∀ {H':Hp},(∀ b ∈ fp,H' b=none)→∀ b ∈ fp,rD X pins H' b:=fun hn b hb=>⟨hn b hb,(f2 b hb).2⟩
 refine codeAny_forLoop_any (fun n s'=>∃ i σ' H',Inv X pins σ' H' s'∧tn i s'.heap∧(∀ b ∈ fp,H' b=none)∧W i n σ' H') ?_ m0 ⟨0,σ,H2,I2,st2,fun b hb=>(f2 b hb).1,w0⟩
 rintro n s3 ⟨i,σ3,H3,I3,st3,fr3,w3⟩
 rcases turn i n σ3 H3 w3 with ⟨stop,qn⟩ | ⟨go,N,hN,step⟩
 ·refine wpAny_passesOwn hp (thn (T.done X rfl rfl rfl hc i pins s3 σ3 H3 X.xe I3 (stat fr3) st3 stop) fun r s4 ⟨hr,I4⟩=>?_)
  subst hr
  exact wpAny_execs_nil ⟨σ3,H3,I4,qn⟩
 ·refine wpAny_passesOwn hp (thn (T.item X rfl rfl rfl hc i pins s3 σ3 H3 X.xe I3 (stat fr3) st3 go) fun r s4 ⟨u,hr,h4⟩=>?_)
  subst hr
  refine wpAny_passesOwn hp (thn h4 fun _ s5 ⟨x,H5,I5,r5,y5,st5,fr5⟩=>?_)
  have I5':=I5.pinned (stat fr5) (T.obj _ _ st5)
  refine wpAny_passesOwn hp (thn (hg _ s5 σ3 H5 x u _ I5' r5 (step x H5 y5)) fun _ s6 ⟨σ6,H6,I6,q6⟩=>?_)
  refine wpAny_passesOwn hp (thn (hb _ s6 σ6 H6 _ I6 q6) fun f s7 q7=>?_)
  have again:∀ {σ7:St} {H7:Hp},Inv X (pins++um fp s5.heap) σ7 H7 s7→N σ7 H7→∃ m,m < n∧∃ i σ' H',Inv X pins σ' H' s7∧tn i s7.heap∧(∀ b ∈ fp,H' b=none)∧W i m σ' H':=fun {σ7 H7} I7 n7=>by
   obtain ⟨m',hm,w7⟩:=hN σ7 H7 n7
   refine ⟨m',hm,i + 1,σ7,H7,I7.unpinned,T.keep _ _ _ st5 fun b hb o e=>(I7.pin (b,o) (aQ _ (aQ _ (m8 hb e)))).1,fun b hb=>?_,w7⟩
   obtain ⟨o,e,d⟩:=T.obj _ _ st5 b hb
   exact (I7.pin (b,o) (aQ _ (aQ _ (m8 hb e)))).2.1
  cases f with
  | next=>obtain ⟨σ7,H7,I7,n7⟩:=q7;exact again I7 n7
  | cont=>obtain ⟨σ7,H7,I7,n7⟩:=q7;exact again I7 n7
  | brk=>obtain ⟨σ7,H7,I7,q7⟩:=q7;exact ⟨σ7,H7,I7.unpinned,q7⟩
  | ret v=>obtain ⟨x7,σ7,H7,I7,r7,q7⟩:=q7;exact ⟨x7,σ7,H7,I7.unpinned,r7,q7⟩
end
end L2
namespace L2
open PySem PySem.Spec PyProof.Rows
abbrev R2:=V→V→Hp→VK→Prop
def OpR (X:Cx) (f:Value→Value→Sem Value) (r:R2):Prop :=
 ∀ (pins:List (Addr × Obj)) (s:Shared) (σ:St) (H:Hp) (x y:V) (v u:Value) (Q:VK),Inv X pins σ H s→RelV x v→RelV y u→r x y H Q →
  wpAny (model X.prog X.w) X.A (f v u) (EP X pins σ Q) X.xe s
def UnR (X:Cx) (f:Value→Sem Value) (r:V→Hp→VK→Prop):Prop :=
 ∀ (pins:List (Addr × Obj)) (s:Shared) (σ:St) (H:Hp) (x:V) (v:Value) (Q:VK),Inv X pins σ H s→RelV x v→r x H Q →
  wpAny (model X.prog X.w) X.A (f v) (EP X pins σ Q) X.xe s
def lq (X:Cx) (f:Value) (r:List V→Hp→VK→Prop):Prop :=
 ∀ (pins:List (Addr × Obj)) (s:Shared) (σ:St) (H:Hp) (xs:List V) (us:List Value) (Q:VK),Inv X pins σ H s→Vals xs us→r xs H Q →
  wpAny (model X.prog X.w) X.A (call f us) (EP X pins σ Q) X.xe s
def tOp (r:R2) (ta tb:TE):TE:=fun σ H Q=>ta σ H fun x H1=>tb σ H1 fun y H2=>r x y H2 Q
def tUn (r:V→Hp→VK→Prop) (ta:TE):TE:=fun σ H Q=>ta σ H fun x H1=>r x H1 Q
def rI (C:Int→Int→Prop) (g:Int→Int→V):R2:=fun x y H Q=>∃ i j,x = .int i∧y = .int j∧C i j∧Q (g i j) H
def rI0 (g:Int→Int→V):R2:=fun x y H Q=>∃ i j,x = .int i∧y = .int j∧Q (g i j) H
def rU (g:Int→V):V→Hp→VK→Prop:=fun x H Q=>∃ i,x = .int i∧Q (g i) H
section
variable {X:Cx} {a b c:Expr} {ta tb tc:TE} {pos:Pos}
theorem N8 (ha:PE X a ta) (hb:PE X b tb) {pins:List (Addr × Obj)} {s:Shared} {σ:St} {H:Hp} {R:V→V→Hp→Prop} (I:Inv X pins σ H s)
 (h:ta σ H fun x H1=>tb σ H1 fun y H2=>R x y H2) {Q:Value→Shared→Prop} {f:Value→Value→Sem Value}
 (hf:∀ v u s2 x y H2,Inv X pins σ H2 s2→RelV x v→RelV y u→R x y H2→wpAny (model X.prog X.w) X.A (f v u) Q X.xe s2) :
 wpAny (model X.prog X.w) X.A (eval a X.env) (fun v s₁=>wpAny (model X.prog X.w) X.A (eval b X.env) (fun u s₂=>wpAny (model X.prog X.w) X.A (f v u) Q X.xe s₂) X.xe s₁) X.xe s:=by
 refine thn (ha pins s σ H _ I h) fun v s1 ⟨x,H1,I1,r1,q1⟩=>?_
 refine thn (hb pins s1 σ H1 _ I1 q1) fun u s2 ⟨y,H2,I2,r2,q2⟩=>?_
 exact hf v u s2 x y H2 I2 r1 r2 q2
theorem Gj {op:Operator} {r:R2} (ho:OpR X (binaryOp op) r) (ha:PE X a ta) (hb:PE X b tb):PE X (.BinOp a op b pos) (tOp r ta tb):=by
 intro pins s σ H Q I h
 exact wpAny_BinOp (N8 ha hb I h fun v u s2 x y H2 I2 rx ry q=>ho pins s2 σ H2 x y v u Q I2 rx ry q)
theorem Rp {op:UnaryOp} {r:V→Hp→VK→Prop} (ho:UnR X (unaryOp op) r) (ha:PE X a ta):PE X (.UnaryOp op a pos) (tUn r ta):=by
 intro pins s σ H Q I h
 exact UnaryOp_ (thn (ha pins s σ H _ I h) fun v s1 ⟨x,H1,I1,r1,q1⟩=>ho pins s1 σ H1 x v Q I1 r1 q1)
theorem opI {f:Value→Value→Sem Value} {C:Int→Int→Prop} {g:Int→Int→Int}
 (rule:∀ (i j:Int) (t u:Tok) (s:Shared) (Q:Value→Shared→Prop) (E:Value→Shared→Prop),C i j→Q (.int (g i j) s.toks) { s with toks:=s.toks + 1 }→wpAny (model X.prog X.w) X.A (f (.int i t) (.int j u)) Q E s) :
 OpR X f (rI C fun i j=>.int (g i j)):=by
 intro pins s σ H x y v u Q I rx ry h
 obtain ⟨i,j,rfl,rfl,hc,q⟩:=h
 obtain ⟨t,rfl⟩:=rx
 obtain ⟨t',rfl⟩:=ry
 exact rule i j t t' s _ _ hc ⟨.int (g i j),H,I.tok _,⟨_,rfl⟩,q⟩
theorem Rq {f:Value→Value→Sem Value} {g:Int→Int→Int}
 (rule:∀ (i j:Int) (t u:Tok) (s:Shared) (Q:Value→Shared→Prop) (E:Value→Shared→Prop),Q (.int (g i j) s.toks) { s with toks:=s.toks + 1 }→wpAny (model X.prog X.w) X.A (f (.int i t) (.int j u)) Q E s) :
 OpR X f (rI0 fun i j=>.int (g i j)):=by
 intro pins s σ H x y v u Q I rx ry h
 obtain ⟨i,j,rfl,rfl,q⟩:=h
 obtain ⟨t,rfl⟩:=rx
 obtain ⟨t',rfl⟩:=ry
 exact rule i j t t' s _ _ ⟨.int (g i j),H,I.tok _,⟨_,rfl⟩,q⟩
theorem JG {f:Value→Value→Sem Value} {g:Int→Int→Bool}
 (rule:∀ (i j:Int) (t u:Tok) (s:Shared) (Q:Value→Shared→Prop) (E:Value→Shared→Prop),Q (.bool (g i j)) s→wpAny (model X.prog X.w) X.A (f (.int i t) (.int j u)) Q E s) :
 OpR X f (rI0 fun i j=>.bl (g i j)):=by
 intro pins s σ H x y v u Q I rx ry h
 obtain ⟨i,j,rfl,rfl,q⟩:=h
 obtain ⟨t,rfl⟩:=rx
 obtain ⟨t',rfl⟩:=ry
 exact rule i j t t' s _ _ ⟨.bl (g i j),H,I,rfl,q⟩
def N_ (i j:Int):Prop:=0 ≤ j∧j ≤ 1000000∧i.natAbs < 2 ^ 64
theorem dN:OpR X (binaryOp .Add) (rI0 fun i j=>.int (i + j)):=Rq fun _ _ _ _ _ _ _ q=>add_int q
theorem pJ:OpR X (binaryOp .Sub) (rI0 fun i j=>.int (i - j)):=Rq fun _ _ _ _ _ _ _ q=>sub_int q
theorem cI:OpR X (binaryOp .Mod) (rI (fun _ j=>j ≠ 0) fun i j=>.int (i.fmod j)):=opI fun _ _ _ _ _ _ _ hc q=>mod_int' hc q
theorem pK:OpR X (binaryOp .Pow) (rI N_ fun i j=>.int (i ^ j.toNat)):=opI fun _ _ _ _ _ _ _ hc q=>pow_int_small hc.1 hc.2.1 hc.2.2 q
theorem unI {f:Value→Sem Value} {g:Int→Int}
 (rule:∀ (i:Int) (t:Tok) (s:Shared) (Q:Value→Shared→Prop) (E:Value→Shared→Prop),Q (.int (g i) s.toks) { s with toks:=s.toks + 1 }→wpAny (model X.prog X.w) X.A (f (.int i t)) Q E s) :
 UnR X f (rU fun i=>.int (g i)):=by
 intro pins s σ H x v Q I rx h
 obtain ⟨i,rfl,q⟩:=h
 obtain ⟨t,rfl⟩:=rx
 exact rule i t s _ _ ⟨.int (g i),H,I.tok _,⟨_,rfl⟩,q⟩
theorem Oa:UnR X (unaryOp .USub) (rU fun i=>.int (-i)):=unI fun _ _ _ _ _ q=>neg_int q
end
section
variable {X:Cx} {a b c:Expr} {ta tb tc:TE} {pos:Pos}
theorem oh:OpR X (compareOp .Lt) (rI0 fun i j=>.bl (decide (i < j))):=JG fun _ _ _ _ _ _ _ q=>lt_int q
theorem qe:OpR X (compareOp .LtE) (rI0 fun i j=>.bl (decide (i ≤ j))):=JG fun _ _ _ _ _ _ _ q=>le_int q
theorem Cd:OpR X (compareOp .Gt) (rI0 fun i j=>.bl (decide (j < i))):=JG fun _ _ _ _ _ _ _ q=>gt_int q
theorem Gk:OpR X (compareOp .GtE) (rI0 fun i j=>.bl (decide (j ≤ i))):=JG fun _ _ _ _ _ _ _ q=>ge_int q
theorem cL (b:Expr) {op:CmpOp} (h:op ≠ .In:=by decide) (h2:op ≠ .NotIn:=by decide):behindInMarks op b=false:=by
 have e1:(op == CmpOp.In)=false:=by cases op <;> first | rfl | exact absurd rfl h
 have e2:(op == CmpOp.NotIn)=false:=by cases op <;> first | rfl | exact absurd rfl h2
 cases b <;> simp [behindInMarks,e1,e2]
theorem JH {op:CmpOp} {r:R2} (ho:OpR X (compareOp op) r) (ha:PE X a ta) (hb:PE X b tb) (hm:behindInMarks op b=false):PE X (.Compare a [op] [b] pos) (tOp r ta tb):=by
 intro pins s σ H Q I h
 exact wpAny_Compare1 (N8 ha hb I h fun v u s2 x y H2 I2 rx ry q=>ho pins s2 σ H2 x y v u Q I2 rx ry q) hm
def MN (t:TE):TT:=fun σ H Q=>t σ H fun x H'=>∃ k,x = .bl k∧Q k H'
theorem JK {op:CmpOp} {r:R2} (ho:OpR X (compareOp op) r) (ha:PE X a ta) (hb:PE X b tb) (hm:behindInMarks op b=false):PT X (.Compare a [op] [b] pos) (MN (tOp r ta tb)):=by
 intro pins s σ H Q I h
 refine wpAny_isTrue_Compare1 (thn (ha pins s σ H _ I h) fun v s1 ⟨x,H1,I1,r1,q1⟩=>thn (hb pins s1 σ H1 _ I1 q1) fun u s2 ⟨y,H2,I2,r2,q2⟩ =>
  thn (ho pins s2 σ H2 x y v u _ I2 r1 r2 q2) fun c s3 ⟨z,H3,I3,r3,k,e,q3⟩=>?_) hm
 subst e
 cases r3
 exact wpAny_truthy_bool ⟨H3,I3,q3⟩
def Gm (r r':R2) (ta tb tc:TE):TE:=fun σ H Q=>ta σ H fun x H1=>tb σ H1 fun y H2=>r x y H2 fun z H3=>∃ k,z = .bl k ∧
 (if k=true then tc σ H3 fun w' H4=>r' y w' H4 Q else Q (.bl false) H3)
theorem Gn {op op':CmpOp} {r r':R2} (ho:OpR X (compareOp op) r) (ho':OpR X (compareOp op') r') (ha:PE X a ta) (hb:PE X b tb) (hc:PE X c tc)
 (hm:lastMarks [op,op'] [b,c]=false:=by with_unfolding_all rfl):PE X (.Compare a [op,op'] [b,c] pos) (Gm r r' ta tb tc):=by
 intro pins s σ H Q I h
 refine Compare_chain (thn (ha pins s σ H _ I h) fun v s1 ⟨x,H1,I1,r1,q1⟩=>chain_link (thn (hb pins s1 σ H1 _ I1 q1) fun u s2 ⟨y,H2,I2,r2,q2⟩ =>
  thn (ho pins s2 σ H2 x y v u _ I2 r1 r2 q2) fun d s3 ⟨z,H3,I3,r3,k,e,q3⟩=>?_)) hm
 subst e
 cases r3
 refine wpAny_truthy_bool ?_
 cases k with
 | false=>exact ite_ff ⟨.bl false,H3,I3,rfl,q3⟩
 | true=>exact ite_tt (chain_last (thn (hc pins s3 σ H3 _ I3 q3) fun w' s4 ⟨z',H4,I4,r4,q4⟩=>ho' pins s4 σ H4 y z' u w' Q I4 r2 r4 q4))
theorem Gp {op op':CmpOp} {r r':R2} (ho:OpR X (compareOp op) r) (ho':OpR X (compareOp op') r') (ha:PE X a ta) (hb:PE X b tb) (hc:PE X c tc)
 (hm:lastMarks [op,op'] [b,c]=false:=by with_unfolding_all rfl):PT X (.Compare a [op,op'] [b,c] pos) (MN (Gm r r' ta tb tc)):=by
 intro pins s σ H Q I h
 refine isTrue_chain (thn (ha pins s σ H _ I h) fun v s1 ⟨x,H1,I1,r1,q1⟩=>test_link (thn (hb pins s1 σ H1 _ I1 q1) fun u s2 ⟨y,H2,I2,r2,q2⟩ =>
  thn (ho pins s2 σ H2 x y v u _ I2 r1 r2 q2) fun d s3 ⟨z,H3,I3,r3,k,e,q3⟩=>?_)) hm
 subst e
 cases r3
 refine wpAny_truthy_bool ?_
 cases k with
 | false =>
  obtain ⟨k',e',q'⟩:=q3
  cases e'
  exact ite_ff ⟨H3,I3,q'⟩
 | true =>
  refine ite_tt (test_last (thn (hc pins s3 σ H3 _ I3 q3) fun w' s4 ⟨z',H4,I4,r4,q4⟩=>thn (ho' pins s4 σ H4 y z' u w' _ I4 r2 r4 q4) fun d' s5 ⟨z2,H5,I5,r5,k2,e2,q5⟩=>?_))
  subst e2
  cases r5
  exact wpAny_truthy_bool ⟨H5,I5,q5⟩
theorem uo:(sizeLine:Nat) < 2 ^ 63:=by rw [sizeLine_eq];decide
theorem vals1 {x:V} {us:List Value} (r:Vals [x] us):∃ u,us=[u]∧RelV x u:=by
 cases r with
 | cons r1 r2=>cases r2;exact ⟨_,rfl,r1⟩
theorem vals2 {x y:V} {us:List Value} (r:Vals [x,y] us):∃ u w',us=[u,w']∧RelV x u∧RelV y w':=by
 cases r with
 | cons r1 r2 =>
  cases r2 with
  | cons r3 r4=>cases r4;exact ⟨_,_,rfl,r1,r3⟩
theorem Dv (hc:X.calm=true):lq X (.builtin "max") (fun xs H Q=>∃ i j,xs=[.int i,.int j]∧Q (.int (if j > i then j else i)) H):=by
 intro pins s σ H xs us Q I r h
 obtain ⟨i,j,rfl,q⟩:=h
 obtain ⟨u,w',rfl,⟨t,rfl⟩,⟨t',rfl⟩⟩:=vals2 r
 refine max_two_ints (I.ok.hd hc) fun h' tk k=>⟨_,H,I.kept k,?_,q⟩
 by_cases hj:j > i
 ·rw [if_pos hj,if_pos hj];exact ⟨_,rfl⟩
 ·rw [if_neg hj,if_neg hj];exact ⟨_,rfl⟩
theorem Dw (hc:X.calm=true):lq X (.builtin "min") (fun xs H Q=>∃ i j,xs=[.int i,.int j]∧Q (.int (if j < i then j else i)) H):=by
 intro pins s σ H xs us Q I r h
 obtain ⟨i,j,rfl,q⟩:=h
 obtain ⟨u,w',rfl,⟨t,rfl⟩,⟨t',rfl⟩⟩:=vals2 r
 refine min_two_ints (I.ok.hd hc) fun h' tk k=>⟨_,H,I.kept k,?_,q⟩
 by_cases hj:j < i
 ·rw [if_pos hj,if_pos hj];exact ⟨_,rfl⟩
 ·rw [if_neg hj,if_neg hj];exact ⟨_,rfl⟩
theorem Dy:lq X (.type "int") (fun xs H Q=>(∃ i,xs=[.int i]∧Q (.int i) H)∨∃ k,xs=[.bl k]∧Q (.int (if k then 1 else 0)) H):=by
 intro pins s σ H xs us Q I r h
 rcases h with ⟨i,rfl,q⟩ | ⟨k,rfl,q⟩
 ·obtain ⟨u,rfl,t,rfl⟩:=vals1 r
  exact call_int_int ⟨.int i,H,I,⟨_,rfl⟩,q⟩
 ·obtain ⟨u,rfl,r1⟩:=vals1 r
  cases r1
  exact call_int_bool ⟨.int (if k then 1 else 0),H,I.tok _,⟨_,rfl⟩,q⟩
end
end L2
namespace L2
open PySem PySem.Spec PyProof.Rows
structure ObjM (h:Heap) (x dx C:Addr) (mA:Str→Option Value):Prop where
 obj:h.get? x=some (PySem.W.instObj C dx)
 ns:h.Ns1 dx mA
 ne:dx ≠ x
theorem vV {h:Heap} {dx:Addr} {mA:Str→Option Value} (n:h.Ns1 dx mA):∃ od,h.get? dx=some od∧∀ name,PySem.W.lookIn name od=some (mA name):=by
 obtain ⟨o,es,ep,ho,hd,hk,_,hm⟩:=n
 refine ⟨o,ho,fun name=>?_⟩
 have e:=hm name
 unfold nsFind findBy at e
 rw [← pG] at e
 unfold PySem.W.lookIn
 rw [hd]
 dsimp only
 split
 ·rename_i y q
  rw [q] at e
  exact congrArg some e
 ·rename_i q
  rw [q] at e
  have a:es.toList.any (·.refKey)=false:=by
   rw [List.any_eq_false]
   intro y hy
   obtain ⟨z,t,hkey⟩:=hk y (nY.mp hy)
   simp [DictEntry.refKey,hkey]
  have a':¬ es.toList.any (·.refKey)=true:=by rw [a];exact eO
  rw [if_neg a']
  exact congrArg some e
theorem ObjM.look {h:Heap} {x dx C:Addr} {mA:Str→Option Value} (I:ObjM h x dx C mA):∃ od,PySem.W.InstAt h x (PySem.W.instObj C dx) C (some od)∧∀ name,PySem.W.lookIn name od=some (mA name) :=
 let ⟨od,ho,hl⟩:=vV I.ns
 ⟨od,⟨I.obj,rfl,rfl,ho⟩,hl⟩
section
variable {prog:Program} {w:World} {A:Around} {E:Value→Shared→Prop} {s:Shared} {K:PySem.W.Frag} {x dx C f:Addr} {mA:Str→Option Value} {name:Str} {v:Value}
end
theorem Dz {v:V} {u:Value} (r:RelV v u):PySem.W.handedIn u=true:=by
 cases v with
 | non=>cases (show u=Value.none from r);rfl
 | bl b=>cases (show u=Value.bool b from r);rfl
 | int i=>obtain ⟨t,e⟩:=(show ∃ t,u=Value.int i t from r);cases e;rfl
 | str x=>obtain ⟨t,e⟩:=(show ∃ t,u=Value.str x t from r);cases e;rfl
 | byt b=>obtain ⟨t,e⟩:=(show ∃ t,u=Value.bytes b t from r);cases e;rfl
 | flt b=>obtain ⟨t,e⟩:=(show ∃ t,u=Value.float b t from r);cases e;rfl
 | ref a=>cases (show u=Value.ref a from r);rfl
 | ty n=>cases (show u=Value.type n from r);rfl
section
variable {P:Program} {w:World} {H H':Hp} {h h':Heap} {a C dx:Addr} {fs fs':List (Str × V)}
theorem JL (hok:HOk P w H h) (e:H a=some (.ins C dx fs)):∃ mA,ObjM h a dx C mA∧(∀ f,Nv (fs.lookup f) (mA f))∧PySem.Within mA (fs.map (·.1))∧fs.length ≤ 1000∧H dx=some (.own a):=by
 obtain ⟨d,z,ne,ob,mA,n,r,q⟩:=(show jw P w H h a (.ins C dx fs) from hok a _ e)
 exact ⟨mA,⟨ob,n,ne⟩,r,q,z,d⟩
end
structure Cls (K:PySem.W.Frag) (C:Addr):Prop where
 pg:PySem.W.plainGet K C Str.empty=true
 hd:PySem.W.hasDictIn K C=true
 po:PySem.W.plainOver K C=true
 sa:PySem.W.findIn K (.ref C) "__setattr__" = some (some (.builtin "object.__setattr__"))
theorem Cls.get {K:PySem.W.Frag} {C:Addr} (c:Cls K C) (f:Str):PySem.W.plainGet K C f=true:=c.pg
structure Con (K:PySem.W.Frag) (C:Addr) (f:Str) (v:V) (u:Value):Prop where
 at_:PySem.W.findIn K (.ref C) f=some (some u)
 rel:RelV v u
 get:PySem.W.specialIn K u "__get__" = some none
 cp:PySem.W.copiedNames.contains f=false
structure Meth (K:PySem.W.Frag) (C:Addr) (m:Str) (f:Addr):Prop where
 at_:PySem.W.findIn K (.ref C) m=some (some (.ref f))
 fn:PySem.W.isFn K (.ref f)=true
 kp:PySem.W.keepIn K (.ref f)=true
section
variable {X:Cx} {pins:List (Addr × Obj)} {σ:St} {H:Hp} {s:Shared} {a C dx:Addr} {fs:List (Str × V)} {f:Str} {v:V} {A:Around} {E:Value→Shared→Prop}
theorem JM {prog:Program} {w:World} {env:Env} {e:Expr} {f:Str} {pos:Pos} {s:Shared} {Q:Value→Shared→Prop} (hb:attributeBase e f env (eval e env)=eval e env)
 (h:wpAny (model prog w) A (eval e env) (fun o s₁=>wpAny (model prog w) A (getAttr o f true) Q E s₁) E s):wpAny (model prog w) A (eval (.Attribute e f pos) env) Q E s :=
 Attribute_any_ h (by rw [arm_eval_Attribute,hb])
end
section
variable {X:Cx} {o e value:Expr} {f:Str} {pos pos' tpos:Pos} {ta tv:TE}
end
section
variable {X:Cx} {pins:List (Addr × Obj)} {σ:St} {H:Hp} {s:Shared} {A:Around} {E:Value→Shared→Prop} {Q:Value→Shared→Prop} {c:Value} {b:Bool}
inductive TyOf (K:PySem.W.Frag) (H:Hp):V→Value→Prop where
 | non:TyOf K H .non (.type "NoneType")
 | bl (x:Bool):TyOf K H (.bl x) (.type "bool")
 | int (i:Int):TyOf K H (.int i) (.type "int")
 | str (x:Str):TyOf K H (.str x) (.type "str")
 | flt (x:UInt64):TyOf K H (.flt x) (.type "float")
 | lst {a:Addr} {xs:List V} (e:H a=some (.lst xs)):TyOf K H (.ref a) (.type "list")
 | frz {a:Addr} {o:Obj} {xs:List V} (e:H a=some (.frz o (.lst xs))):TyOf K H (.ref a) (.type "list")
 | tup {a:Addr} {xs:List V} (e:H a=some (.tup xs)):TyOf K H (.ref a) (.type "tuple")
 | dK {a:Addr} {kvs:List (Key × V)} (e:H a=some (.dK kvs)):TyOf K H (.ref a) (.type "dict")
 | dT {a:Addr} {kvs:List (List Key × V)} (e:H a=some (.dT kvs)):TyOf K H (.ref a) (.type "dict")
 | ins {a C dx:Addr} {fs:List (Str × V)} (e:H a=some (.ins C dx fs)) (cl:Cls K C) (ha:PySem.W.findIn K (.ref C) "__class__" = some (some (.builtin "object.__class__")))
  (hn:PySem.W.specialIn K (.builtin "object.__class__") "__get__" = some (some (.builtin "getset_descriptor.__get__"))) (htk:PySem.W.takesIn K (.builtin "object.__class__")=some true)
  (hm:PySem.W.mroIn K C (.type "object")=some true):TyOf K H (.ref a) (.ref C)
theorem vW {x:V} {u t:Value} (I:Inv X pins σ H s) (rx:RelV x u) (ty:TyOf X.K H x t) (e:PySem.W.kitOne X.K t c=some b) (h:∀ tk,Q (.bool b) { s with toks:=tk }) :
 wpAny (model X.prog X.w) A (call (.builtin "isinstance") [u,c]) Q E s:=by
 cases ty with
 | non=>cases (show u=Value.none from rx);exact PySem.W.kia_one PySem.W.kitx_none I.kIn True.intro e (fun z=>nomatch z) h
 | bl y=>cases (show u=Value.bool y from rx);exact PySem.W.kia_one PySem.W.kitx_bool I.kIn True.intro e (fun z=>nomatch z) h
 | int i=>obtain ⟨t,q⟩:=(show ∃ t,u=Value.int i t from rx);cases q;exact PySem.W.kia_one PySem.W.kitx_int I.kIn True.intro e (fun z=>nomatch z) h
 | str y=>obtain ⟨t,q⟩:=(show ∃ t,u=Value.str y t from rx);cases q;exact PySem.W.kia_one PySem.W.kitx_str I.kIn True.intro e (fun z=>nomatch z) h
 | flt y=>obtain ⟨t,q⟩:=(show ∃ t,u=Value.float y t from rx);cases q;exact PySem.W.kia_one PySem.W.kitx_float I.kIn True.intro e (fun z=>nomatch z) h
 | @lst a xs ea =>
  cases (show u=Value.ref a from rx)
  obtain ⟨_,_,n,_,h1⟩:=(show jw X.prog X.w H s.heap a (.lst xs) from I.hok a _ ea)
  exact PySem.W.kia_one PySem.W.kitx_list I.kIn ⟨_,h1,rfl⟩ e (fun z=>nomatch z) h
 | @frz a ob xs ea =>
  cases (show u=Value.ref a from rx)
  obtain ⟨_,_,_,n,_,h1⟩:=(show jw X.prog X.w H s.heap a (.frz ob (.lst xs)) from I.hok a _ ea)
  exact PySem.W.kia_one PySem.W.kitx_list I.kIn ⟨_,h1,rfl⟩ e (fun z=>nomatch z) h
 | @tup a xs ea =>
  cases (show u=Value.ref a from rx)
  obtain ⟨_,_,_,p⟩:=(show jw X.prog X.w H s.heap a (.tup xs) from I.hok a _ ea)
  obtain ⟨o,h1,h2,_⟩:=p
  exact PySem.W.kia_one PySem.W.kitx_tuple I.kIn ⟨o,h1,h2⟩ e (fun z=>nomatch z) h
 | @dK a kvs ea =>
  cases (show u=Value.ref a from rx)
  obtain ⟨_,_,vs,_,p⟩:=(show jw X.prog X.w H s.heap a (.dK kvs) from I.hok a _ ea)
  obtain ⟨o,es,ep,h1,h2,_⟩:=p
  exact PySem.W.kia_one PySem.W.kitx_dict I.kIn ⟨o,h1,h2.1⟩ e (fun z=>nomatch z) h
 | @dT a kvs ea =>
  cases (show u=Value.ref a from rx)
  obtain ⟨_,_,xs,_,o,es,ep,h1,h2,_⟩:=(show jw X.prog X.w H s.heap a (.dT kvs) from I.hok a _ ea)
  exact PySem.W.kia_one PySem.W.kitx_dict I.kIn ⟨o,h1,h2.1⟩ e (fun z=>nomatch z) h
 | @ins a C dx fs ea cl ha hn htk hm =>
  cases (show u=Value.ref a from rx)
  obtain ⟨mA,O,_⟩:=JL I.hok ea
  obtain ⟨od,J,_⟩:=O.look
  exact PySem.W.kia_one (PySem.W.kitx_own (cl.get _) cl.hd ha hn htk hm) I.kIn J e (fun z=>nomatch z) h
end
end L2
namespace L2
open PySem PySem.Spec PyProof.Rows
structure Room (k:Nat) (A:Around):Prop where
 hd:A.handled=none
 dp:A.depth + 3 * k + 5 < recursionLimit
 un:A.units + 16 * k + 200 < cLine
theorem Room.mono {j k:Nat} {A:Around} (r:Room k A) (h:j ≤ k):Room j A:=⟨r.hd,by have:=r.dp;omega,by have:=r.un;omega⟩
theorem Room.deeper {k:Nat} {A:Around} (r:Room (k + 1) A) (env:Env):Room k (A.deeper env) :=
 ⟨r.hd,by have:=r.dp;show A.depth + 1 + 3 * k + 5 < _;omega,by have:=r.un;show A.units + 3 + 16 * k + 200 < _;omega⟩
theorem Ab {A:Around} {C:Addr} {us:List Value} {kw:List (Str × Value)}:(A.under (.builtin "type.__call__" ⟨.ref C :: us,kw⟩)).depth=A.depth + 1:=by
 first | rfl | simp [Around.under,Code.weight,Code.isCreation,Code.isGuard,Code.isCaller,Code.frames,Code.isFrame,guardIds]
theorem Ac {A:Around} {C:Addr} {us:List Value} {kw:List (Str × Value)}:(A.under (.builtin "type.__call__" ⟨.ref C :: us,kw⟩)).units=A.units + 1:=by
 first | rfl | simp [Around.under,Code.cUnits,Code.frames,Code.isFrame]
theorem Room.make {k:Nat} {A:Around} (r:Room (k + 1) A) (C:Addr) (us:List Value) (kw:List (Str × Value)):Room k (A.under (.builtin "type.__call__" ⟨.ref C :: us,kw⟩)) :=
 ⟨r.hd,by have:=r.dp;rw [Ab];omega,by have:=r.un;rw [Ac];omega⟩
theorem Room.depth {k:Nat} {A:Around} (r:Room k A):A.depth < recursionLimit:=by have:=r.dp;omega
theorem Room.units {k:Nat} {A:Around} (r:Room k A):A.units + 64 < cLine:=by have:=r.un;omega
def Rr:TA:=fun _ H Q=>Q [] H
def MP (ta:TE) (tr:TA):TA:=fun σ H Q=>ta σ H fun x H1=>tr σ H1 fun xs H2=>Q (x :: xs) H2
section
variable {X:Cx} {e:Expr} {es:List Expr} {te:TE} {t:TA} {pos:Pos}
theorem jo:PA X [] Rr:=fun _ _ _ _ H Q I h=>Calls.spliced_nil ⟨[],H,I,.nil,h⟩
theorem eV (ha:PE X e te) (hr:PA X es t) (hs:starEach (e :: es) X.env=(false,eval e X.env) :: starEach es X.env:=by rfl):PA X (e :: es) (MP te t):=by
 intro pos pins s σ H Q I h
 rw [hs]
 show wpAny _ _ (spliced ((false,eval e X.env) :: backTo pos (starEach es X.env))) _ _ s
 refine Calls.spliced_cons (thn (ha pins s σ H _ I h) fun u s1 ⟨x,H1,I1,r1,q1⟩=>?_)
 exact thn (hr pos pins s1 σ H1 _ I1 q1) fun us s2 ⟨xs,H2,I2,r2,q2⟩=>⟨x :: xs,H2,I2,.cons r1 r2,q2⟩
def UG (t:TA):TE:=fun σ H Q=>t σ H fun xs H1=>xs.length ≤ sizeLine∧∀ p,H1 p=none→Q (.ref p) (upd H1 p (.tup xs))
def UJ (t:TA):TE:=fun σ H Q=>t σ H fun xs H1=>xs.length ≤ sizeLine∧∀ p,H1 p=none→Q (.ref p) (upd H1 p (.lst xs))
theorem Gq {x1} (h:PA X es t):PE X (.Tuple es x1 pos) (UG t):=by
 intro pins s σ H Q I hq
 refine wpAny_Tuple_spliced (thn (h pos pins s σ H _ I hq) fun us s1 ⟨xs,H1,I1,r,z,q⟩=>⟨by rw [← r.length];exact z,?_⟩)
 have hf:H1 s1.heap.objs.size=none:=I1.hok.fresh (bA _)
 refine ⟨.ref s1.heap.objs.size,upd H1 s1.heap.objs.size (.tup xs),I1.laid (t':=s1.toks) (fun b u e=>Heap.get?_push_of_some _ e) (bA _) ?_,rfl,q _ hf⟩
 exact ⟨z,us,r,⟨_,Heap.get?_push_size _ rfl,rfl,_,rfl⟩⟩
theorem Ad (h:PA X es t):PE X (.List es pos) (UJ t):=by
 intro pins s σ H Q I hq
 refine wpAny_List_spliced (thn (h pos pins s σ H _ I hq) fun us s1 ⟨xs,H1,I1,r,z,q⟩=>⟨by rw [← r.length];exact z,?_⟩)
 have hf:H1 s1.heap.objs.size=none:=I1.hok.fresh (bA _)
 refine ⟨.ref s1.heap.objs.size,upd H1 s1.heap.objs.size (.lst xs),I1.laid (t':=s1.toks) (fun b u e=>Heap.get?_push_of_some _ e) (bA _) ?_,rfl,q _ hf⟩
 exact ⟨z,us,0,r,Heap.get?_push_size _ rfl⟩
end
abbrev Sp:=List V→Hp→VK→XK→Prop
abbrev CXT:=List Env→Hp→Shared→XK→Value→Shared→Prop
structure Env0 (P:Program) (w:World) (K:PySem.W.Frag) (mg:Str→Option Value) (base:Heap) (A:Around) (outer:List Env) (s:Shared) (H:Hp):Prop where
 frames:A.frames=some outer
 mod:Mod K mg base
 bs:∀ b o,base.get? b=some o→s.heap.get? b=some o∧H b=none
 bsz:base.objs.size ≤ s.heap.objs.size
 funs:s.heap.FunFrames base outer
 frf:∀ b ∈ frs outer,H b=none
 hok:HOk P w H s.heap
 bare:AllBare s.gens
def CE (outer:List Env) (P:Program) (w:World) (H:Hp) (s:Shared) (Q:VK) (u:Value) (s':Shared):Prop :=
 ∃ v H',s'.os=s.os∧AllBare s'.gens∧Un (frs outer) [] H H' s.heap s'.heap∧HOk P w H' s'.heap∧RelV v u∧Q v H'
def CR (CX:CXT) (outer:List Env) (P:Program) (w:World) (H:Hp) (s:Shared) (Q:VK) (E:XK) (r:Result) (s':Shared):Prop :=
 match r with
 | .ok (.ret u)=>CE outer P w H s Q u s'
 | .ok _=>False
 | .error e=>CX outer H s E e s'
structure FnOk (P:Program) (w:World) (K:PySem.W.Frag) (mg:Str→Option Value) (base:Heap) (CX:CXT) (k:Nat) (f:Addr) (fd:FuncData) (ps:List Str) (sp:Sp):Prop where
 len:∀ vs H Q E,sp vs H Q E→vs.length=ps.length
 run:∀ (A:Around) (outer:List Env) (s:Shared) (H:Hp) (args:Args) (us:List Value) (vs:List V) (Q:VK) (E:XK),Room k A→Env0 P w K mg base A outer s H→BindsTo s fd args (ps.zip us)→Vals vs us→sp vs H Q E →
  codeAny (model P w) A (.call (.ref f) args) (CR CX outer P w H s Q E) s
theorem FnOk.mono {P:Program} {w:World} {K:PySem.W.Frag} {mg:Str→Option Value} {base:Heap} {CX:CXT} {j k:Nat} {f:Addr} {fd:FuncData} {ps:List Str} {sp:Sp} (F:FnOk P w K mg base CX j f fd ps sp) (h:j ≤ k) :
 FnOk P w K mg base CX k f fd ps sp:=⟨F.len,fun A outer s H args us vs Q E hr=>F.run A outer s H args us vs Q E (hr.mono h)⟩
theorem FnOk.imp {P:Program} {w:World} {K:PySem.W.Frag} {mg:Str→Option Value} {base:Heap} {CX:CXT} {k:Nat} {f:Addr} {fd:FuncData} {ps:List Str} {sp sp':Sp} (F:FnOk P w K mg base CX k f fd ps sp)
 (h:∀ vs H Q E,sp' vs H Q E→sp vs H Q E):FnOk P w K mg base CX k f fd ps sp' :=
 ⟨fun vs H Q E q=>F.len vs H Q E (h _ _ _ _ q),fun A outer s H args us vs Q E hr he hb hv hs=>F.run A outer s H args us vs Q E hr he hb hv (h _ _ _ _ hs)⟩
theorem Env0.make {P:Program} {w:World} {K:PySem.W.Frag} {mg:Str→Option Value} {base:Heap} {A:Around} {outer:List Env} {s:Shared} {H:Hp} (e:Env0 P w K mg base A outer s H) (C:Addr) (us:List Value) (kw:List (Str × Value)) :
 Env0 P w K mg base (A.under (.builtin "type.__call__" ⟨.ref C :: us,kw⟩)) outer s H:=⟨by first | exact e.frames | (simpa [Around.under,Code.envs,Code.isFrame,pushEnvs] using e.frames),e.mod,e.bs,e.bsz,e.funs,e.frf,e.hok,e.bare⟩
section
variable {X:Cx} {pins:List (Addr × Obj)} {σ:St} {H:Hp} {s s':Shared}
theorem Inv.env0 (I:Inv X pins σ H s):Env0 X.prog X.w X.K X.mg X.base X.A X.stack s H :=
 ⟨I.ok.frames,I.ok.mod,I.bs,bV I.ok.bsz I.sz,I.stack,I.stkFree,I.hok,I.bare⟩
theorem Inv.after {Q:VK} {u:Value} (I:Inv X pins σ H s) (h:CE X.stack X.prog X.w H s Q u s'):EP X pins σ Q u s':=by
 obtain ⟨v,H',os,bare,un,hok,r,q⟩:=h
 obtain ⟨hh,g,d,t,os'⟩:=s'
 obtain rfl:os'=s.os:=os
 exact ⟨v,H',I.call (h':=hh) (g':=g) (d':=d) (t':=t) (ch:=[]) un hok bare (fun b z=>absurd z (by simp)),r,q⟩
end
def M4 (sp:Sp) (dvs:List V) (E:XK) (t:TA):TE:=fun σ H Q=>t σ H fun vs H1=>sp (vs++dvs) H1 Q E
def Binds (K:PySem.W.Frag) (fd:FuncData) (ps:List Str) (ds:List Value):Prop :=
 ∀ (s:Shared) (us:List Value),K.In s.heap→(us++ds).length=ps.length→BindsTo s fd ⟨us,[]⟩ (ps.zip (us++ds))
theorem Binds.all {K:PySem.W.Frag} {fd:FuncData} {ps:List Str} (h:∀ us:List Value,us.length=ps.length→bindArgs fd ⟨us,[]⟩=pure (ps.zip us)):Binds K fd ps []:=fun s us _ hl=>by
 rw [dR] at hl ⊢
 exact .of_eq (h us hl)
def Passes (CX:CXT) (X:Cx) (E:XK):Prop:=∀ (pins:List (Addr × Obj)) (σ:St) (H:Hp) (s:Shared) (e:Value) (s':Shared),Inv X pins σ H s→CX X.stack H s E e s'→X.xe e s'
section
variable {X:Cx} {CX:CXT} {k:Nat} {f C:Addr} {fd:FuncData} {ps:List Str} {sp:Sp} {dvs:List V} {ds:List Value} {E:XK} {x m:Str} {p pos apos:Pos} {e o:Expr} {es:List Expr} {ta:TE} {t:TA}
theorem Ob {pins:List (Addr × Obj)} {σ:St} {H:Hp} {s:Shared} {Q:VK} {us:List Value} {vs:List V} (F:FnOk X.prog X.w X.K X.mg X.base CX k f fd ps sp) (hr:Room k X.A) (hb:Binds X.K fd ps ds) (hd:Vals dvs ds) (hx:Passes CX X E)
 (I:Inv X pins σ H s) (r:Vals vs us) (h:sp (vs++dvs) H Q E):wpAny (model X.prog X.w) X.A (call (.ref f) us) (EP X pins σ Q) X.xe s:=by
 have r2:Vals (vs++dvs) (us++ds):=r.append hd
 have hl:(us++ds).length=ps.length:=by rw [← r2.length];exact F.len _ _ _ _ h
 refine wpAny_call (codeAny_mono (F.run X.A X.stack s H ⟨us,[]⟩ (us++ds) (vs++dvs) Q E hr I.env0 (hb s us I.kIn hl) r2 h) fun r s' hq=>?_)
 cases r with
 | error e=>exact hx pins σ H s e s' I hq
 | ok fl =>
  cases fl with
  | ret u=>exact I.after hq
  | next=>exact False.elim hq
  | brk=>exact False.elim hq
  | cont=>exact False.elim hq
theorem JN (F:FnOk X.prog X.w X.K X.mg X.base CX k f fd ps sp) (hr:Room k X.A) (hg:Gl X x) (hm:X.mg x=some (.ref f)) (hk:PySem.W.keepIn X.K (.ref f)=true) (hb:Binds X.K fd ps ds) (hd:Vals dvs ds) (hx:Passes CX X E)
 (ha:PA X (e :: es) t) (hdb:(x == ("__debug__" : Str))=false:=by decide) (he:starEach (e :: es) X.env=(false,eval e X.env) :: starEach es X.env:=by rfl) (hpl:(backTo pos (starEach es X.env)).any (·.1)=false:=by rfl) :
 PE X (.Call (.Name x p) (e :: es) [] pos) (M4 sp dvs E t):=by
 intro pins s σ H Q I h
 refine wpAny_Call_Name_kw (lK I hg hm ?_ hdb)
 refine PySem.W.callWith_K (h₀:=X.base) I.ok.mod.kin hk (thn (ha pos pins s σ H _ I h) fun us s1 ⟨vs,H1,I1,r,q⟩=>⟨I1.kIn,?_⟩) he hpl
 exact Ob F hr hb hd hx I1 r q
structure Mk (K:PySem.W.Frag) (C f:Addr):Prop where
 makes:PySem.W.makesIn K C=true
 init:PySem.W.findIn K (.ref C) "__init__" = some (some (.ref f))
 fn:PySem.W.isFn K (.ref f)=true
 kp:PySem.W.keepIn K (.ref C)=true
end
section
variable {X:Cx} {CX:CXT} {k:Nat} {f C:Addr} {fd:FuncData} {ps ks:List Str} {sp:Sp} {E:XK} {x m:Str} {p pos apos kpos:Pos} {e o:Expr} {es:List Expr} {kws:List Keyword} {te ta:TE} {t tk:TA} {nm:Option Str}
structure KBinds (K:PySem.W.Frag) (fd:FuncData) (ps ks:List Str) (g:List Value→List Value→List Value) (gV:List V→List V→List V):Prop where
 to:∀ (s:Shared) (us ws:List Value),K.In s.heap→(g us ws).length=ps.length→BindsTo s fd ⟨us,ks.zip ws⟩ (ps.zip (g us ws))
 rel:∀ {vs:List V} {us:List Value} {zs:List V} {ws:List Value},Vals vs us→Vals zs ws→Vals (gV vs zs) (g us ws)
variable {g:List Value→List Value→List Value} {gV:List V→List V→List V}
end
structure FnScope (N P:List Str) (sc:Scope):Prop where
 kind:sc.kind = .function
 co:sc.isCoroutine=false
 gen:sc.isGenerator=false
 nd:N.Nodup
 pre:N.take P.length=P
 par:∀ x ∈ P,sc.names.lookup x=some .local∨sc.names.lookup x=some .cell
 nofree:∀ y ∈ sc.names,y.2 ≠ .free
theorem vX {kindOf:Str→Option NameKind} {x:Str}:∀ {binds:List (Str × Value)} {m:Str→Option Value},(∀ v,(x,v) ∉ binds)→bindL kindOf binds m x=m x
 | [],_,_=>rfl
 | (n,v) :: r,m,h=>by
  unfold bindL
  rw [vX fun w hw=>h w (aH _ hw)]
  split
  ·have:x ≠ n:=by rintro rfl;exact h v aJ
   simp [this]
  ·rfl
theorem vY {kindOf:Str→Option NameKind} {x:Str}:∀ {binds:List (Str × Value)} {m:Str→Option Value},(∀ v,(x,v) ∉ binds)→bindC kindOf binds m x=m x
 | [],_,_=>rfl
 | (n,v) :: r,m,h=>by
  unfold bindC
  rw [vY fun w hw=>h w (aH _ hw)]
  split
  ·rfl
  ·have:x ≠ n:=by rintro rfl;exact h v aJ
   simp [this]
theorem oV {kindOf:Str→Option NameKind} {x:Str} {v:Value}:∀ {P:List Str} {vs:List Value} {i:Nat} {m:Str→Option Value},P.Nodup→P[i]? = some x→vs[i]? = some v→kindOf x=some .local →
 bindL kindOf (P.zip vs) m x=some v
 | [],_,_,_,_,h,_,_=>by simp at h
 | _ :: _,[],_,_,_,_,h,_=>by simp at h
 | p :: P,w :: vs,0,m,nd,h1,h2,hk=>by
  simp at h1 h2;subst h1;subst h2
  show bindL kindOf ((p,w) :: P.zip vs) m p=_
  unfold bindL
  rw [vX fun v hv=>(eG.mp nd).1 (jy hv).1,if_pos hk]
  simp
 | p :: P,w :: vs,i + 1,m,nd,h1,h2,hk=>by
  show bindL kindOf ((p,w) :: P.zip vs) m x=_
  unfold bindL
  exact oV (i:=i) (eG.mp nd).2 (by simpa using h1) (by simpa using h2) hk
theorem vZ {kindOf:Str→Option NameKind} {x:Str} {v:Value}:∀ {P:List Str} {vs:List Value} {i:Nat} {m:Str→Option Value},P.Nodup→P[i]? = some x→vs[i]? = some v→kindOf x ≠ some .local →
 bindC kindOf (P.zip vs) m x=some v
 | [],_,_,_,_,h,_,_=>by simp at h
 | _ :: _,[],_,_,_,_,h,_=>by simp at h
 | p :: P,w :: vs,0,m,nd,h1,h2,hk=>by
  simp at h1 h2;subst h1;subst h2
  show bindC kindOf ((p,w) :: P.zip vs) m p=_
  unfold bindC
  rw [vY fun v hv=>(eG.mp nd).1 (jy hv).1,if_neg hk]
  simp
 | p :: P,w :: vs,i + 1,m,nd,h1,h2,hk=>by
  show bindC kindOf ((p,w) :: P.zip vs) m x=_
  unfold bindC
  exact vZ (i:=i) (eG.mp nd).2 (by simpa using h1) (by simpa using h2) hk
def start (N:List Str) (vs:List V):St:=vs.map some++aG (N.length - vs.length) none
def fM (CX:CXT) (P:Program) (w:World) (K:PySem.W.Frag) (mg:Str→Option Value) (base:Heap) (N:List Str) (qual:Str) (scope:Scope) (f:Addr) (cd:Value) (A:Around) (outer:List Env) (s:Shared) (H:Hp) (E:XK):Cx where
 prog:=P
 w:=w
 K:=K
 mg:=mg
 base:=base
 A:=A.deeper (envOfC qual scope s.heap.objs.size f cd)
 N:=N
 s₀:=s
 H₀:=H
 env:=envOfC qual scope s.heap.objs.size f cd
 outer:=outer
 stack:=envOfC qual scope s.heap.objs.size f cd :: outer
 ex:=[]
 calm:=true
 fn:=fun _=>true
 pn:=[]
 xe:=fun e s'=>wpAny (model P w) (A.deeper (envOfC qual scope s.heap.objs.size f cd)) (leaving (envOfC qual scope s.heap.objs.size f cd) e) (fun _ s''=>CX outer H s E e s'') (fun e' s''=>CX outer H s E e' s'') s'
theorem yL {sc:Scope} {n:Nat} {x:Str} (h:sc.names.lookup x=some .cell):∃ c,(cellsFrom n sc.names []).lookup x=some c:=by
 have q:=PySem.W.cellsFrom_some sc.names n [] (.inl h)
 exact Option.isSome_iff_exists.mp q
theorem v5 {CX:CXT} {P:Program} {w:World} {K:PySem.W.Frag} {mg:Str→Option Value} {base:Heap} {N ps:List Str} {qual:Str} {scope:Scope} {f:Addr} {cd:Value} {A:Around} {outer:List Env} {s s1:Shared} {H:Hp} {E:XK} {us:List Value} {vs:List V}
 (S:FnScope N ps scope) (hd:A.handled=none) (e0:Env0 P w K mg base A outer s H) (hl:vs.length=ps.length) (r:Vals vs us)
 (x:InCallC s s.heap.objs.size (bindL (envOfC qual scope s.heap.objs.size f cd).kindOf (ps.zip us) fun _=>none) (cellsFrom (s.heap.objs.size + 1) scope.names []) (bindC (envOfC qual scope s.heap.objs.size f cd).kindOf (ps.zip us) fun _=>none) s1) :
 Inv (fM CX P w K mg base N qual scope f cd A outer s H E) [] (start N vs) H s1:=by
 have hpl:ps.length ≤ N.length:=by have:=congrArg List.length S.pre;rw [mF] at this;omega
 obtain ⟨h1,tk,rfl,hk⟩:=x.done
 have noA:∀ b:Addr,b ∉ (fM CX P w K mg base N qual scope f cd A outer s H E).ex:=fun b z=>absurd (show b ∈ ([]:List Addr) from z) (by simp)
 refine ⟨⟨e0.mod,S.kind,rfl,rfl,bA _,fun y z c h1 h2=>?_,fun y hy=>?_,fun y c _ h=>?_,fun _=>hd,Around.frames_deeper e0.frames,.inr ⟨rfl,rfl⟩,fun b z=>absurd z (noA b),e0.bs,e0.bsz,fun b _ _=>noA b,fun b z=>absurd z (noA b),e0.funs,e0.frf⟩,
  rfl,e0.bare,Un.kept hk,⟨_,x.toInCall.ns,fun i y v h1 h2 h3=>?_⟩,fun y c h=>⟨_,x.cell y c h⟩,e0.hok.fresh (bA _),fun y c h=>?_,fun p hp=>absurd (show p ∈ ([]:List (Addr × Obj)) from hp) (by simp),e0.hok.kept hk,?_⟩
 ·exact name_of_addr x.apart (PySem.mem_of_lookup h1) (PySem.mem_of_lookup h2)
 ·have hy:scope.names.lookup y=some .cell∨scope.names.lookup y=some .free:=hy
  rcases hy with hy | hy
  ·exact yL hy
  ·exact absurd rfl (S.nofree _ (PySem.mem_of_lookup hy))
 ·exact kj (x.above y c (PySem.mem_of_lookup h))
 ·have hi:i < vs.length:=by
   unfold start at h2
   by_cases hi:i < vs.length
   ·exact hi
   ·rw [dg (by simpa using hi)] at h2
    rw [cH] at h2
    split at h2 <;> cases h2
  have ha:vs[i]? = some v:=by
   unfold start at h2
   rw [dG (by simpa using hi),bG] at h2
   cases e:vs[i]? with
   | none=>rw [e] at h2;cases h2
   | some a=>rw [e] at h2;cases h2;rfl
  obtain ⟨u,hu,rv⟩:=r.get ha
  have hp:ps[i]? = some y:=by
   rw [← S.pre,lY (by omega)];exact h1
  have ndP:ps.Nodup:=by rw [← S.pre];exact S.nd.sublist (List.take_sublist _ _)
  refine ⟨u,rv,?_⟩
  rcases S.par y (eY hp) with k | k
  ·exact .inl ⟨k,oV ndP hp hu k⟩
  ·obtain ⟨c,e⟩:=yL (n:=s.heap.objs.size + 1) k
   refine .inr ⟨.inl k,c,e,?_⟩
   have q:=x.cell y c e
   rw [vZ ndP hp hu (by show scope.names.lookup y ≠ _;rw [k];decide)] at q
   exact q
 ·exact e0.hok.fresh (kj (x.above y c (PySem.mem_of_lookup h)))
 ·unfold start
  show _=N.length
  rw [bW,aW,aL]
  omega
theorem M5 {CX:CXT} {P:Program} {w:World} {K:PySem.W.Frag} {mg:Str→Option Value} {base:Heap} {k:Nat} {f:Addr} {name qual:Str} {params:Arguments} {body:List Stmt} {scope:Scope} {dV kV doc pm cdv ct oc:Value} {an od:Option Addr}
 {osl:Array (Option Value)} {N ps:List Str} {sp:Sp} (lk:K.lookup f=some ⟨oc,od,.func (PySem.W.fnOf name qual params body scope dV kV doc pm an cdv ct),osl⟩) (hcd:PySem.W.codeIn K cdv qual=true) (S:FnScope N ps scope)
 (len:∀ vs H Q E,sp vs H Q E→vs.length=ps.length)
 (hbody:∀ (A:Around) (outer:List Env) (s:Shared) (H:Hp) (vs:List V) (Q:VK) (E:XK),Room k (A.deeper (envOfC qual scope s.heap.objs.size f cdv))→sp vs H Q E →
  ∃ t,PSs (fM CX P w K mg base N qual scope f cdv A outer s H E) body t∧t { nx:=fun _ H'=>Q .non H',rt:=Q } (start N vs) H) :
 FnOk P w K mg base CX (k + 1) f (PySem.W.fnOf name qual params body scope dV kV doc pm an cdv ct) ps sp:=by
 refine ⟨len,fun A outer s H args us vs Q E hr e0 hb r hsp=>?_⟩
 have hl:=len _ _ _ _ hsp
 have KX:K.In s.heap:=e0.mod.kin.keeps fun b o e=>(e0.bs b o e).1
 have lim:s.heap.NoLimit:=e0.mod.nolimit.keeps fun b o e=>(e0.bs b o e).1
 have hkind:∀ y ∈ ps.zip us,scope.names.lookup y.1=some .local∨(scope.names.lookup y.1=some .cell∧((cellsFrom (s.heap.objs.size + 1) scope.names []).lookup y.1).isSome=true):=fun ⟨n,v⟩ hy=>by
  rcases S.par n (jy hy).1 with q | q
  ·exact .inl q
  ·exact .inr ⟨q,PySem.W.cellsFrom_some _ _ _ (.inl q)⟩
 refine codeAny_call_function hr.depth (KX _ _ lk) rfl S.co S.gen rfl (PySem.W.codeRec_of KX hcd) (hb _ _ _ _ ?_)
 refine wpAny_newFunctionEnv_cells S.kind hkind fun env he s1 x=>?_
 subst he
 refine ⟨lim.keeps x.toInCall.keep,codeAny_func ?_⟩
 obtain ⟨t,ht,hq⟩:=hbody A outer s H vs Q E (hr.deeper _) hsp
 have I:Inv (fM CX P w K mg base N qual scope f cdv A outer s H E) [] (start N vs) H s1:=v5 S hr.hd e0 hl r x
 refine wpAny_mono (ht [] s1 (start N vs) H _ I hq) (fun fl s' hs=>?_) fun e s' hs=>hs
 have fin:∀ {σ':St} {H':Hp} {v:V} {u:Value},Inv (fM CX P w K mg base N qual scope f cdv A outer s H E) [] σ' H' s'→RelV v u→Q v H'→CE outer P w H s Q u s' :=
  fun {σ' H' v u} J rv q=>⟨v,H',J.os,J.bare,J.base,J.hok,rv,q⟩
 cases fl with
 | ret u =>
  obtain ⟨v,σ',H',J,rv,q⟩:=hs
  exact fin J rv q
 | next =>
  obtain ⟨σ',H',J,q⟩:=hs
  exact fin (v:=V.non) (u:=Value.none) J rfl q
 | brk =>
  obtain ⟨_,_,_,q⟩:=hs
  exact False.elim q
 | cont =>
  obtain ⟨_,_,_,q⟩:=hs
  exact False.elim q
end L2
namespace L2
open PySem PySem.Spec PyProof.Rows
section
variable {X:Cx} {x:Str} {p pos:Pos} {e:Expr} {es:List Expr} {t:TA} {id T:String} {r:List V→Hp→VK→Prop}
def tCB (r:List V→Hp→VK→Prop) (t:TA):TE:=fun σ H Q=>t σ H fun vs H1=>r vs H1 Q
theorem ou (hc:lq X (.builtin id) r) (hg:Gl X x) (hm:X.mg x=none) (hv:bootBuiltins x=some (.builtin id)) (ha:PA X (e :: es) t) (hn:x ≠ "__name__" := by decide) (hdb:(x == ("__debug__" : Str))=false:=by decide)
 (he:starEach (e :: es) X.env=(false,eval e X.env) :: starEach es X.env:=by rfl) (hpl:(backTo pos (starEach es X.env)).any (·.1)=false:=by rfl):PE X (.Call (.Name x p) (e :: es) [] pos) (tCB r t):=by
 intro pins s σ H Q I h
 refine wpAny_Call_Name_kw (m7 I hg hm hv ?_ hn hdb)
 exact PyProof.Rows.callWith_builtin1 (thn (ha pos pins s σ H _ I h) fun us s1 ⟨vs,H1,I1,r1,q1⟩=>hc pins s1 σ H1 vs us Q I1 r1 q1) he hpl
theorem v7 (hc:lq X (.type T) r) (hg:Gl X x) (hm:X.mg x=none) (hv:bootBuiltins x=some (.type T)) (ha:PA X (e :: es) t) (hn:x ≠ "__name__" := by decide) (hdb:(x == ("__debug__" : Str))=false:=by decide)
 (he:starEach (e :: es) X.env=(false,eval e X.env) :: starEach es X.env:=by rfl) (hpl:(backTo pos (starEach es X.env)).any (·.1)=false:=by rfl):PE X (.Call (.Name x p) (e :: es) [] pos) (tCB r t):=by
 intro pins s σ H Q I h
 refine wpAny_Call_Name_kw (m7 I hg hm hv ?_ hn hdb)
 exact PyProof.Rows.callWith_type1 (thn (ha pos pins s σ H _ I h) fun us s1 ⟨vs,H1,I1,r1,q1⟩=>hc pins s1 σ H1 vs us Q I1 r1 q1) he hpl
end
end L2
namespace HT
open PySem PyProof.Rows
section
open PySem.SeqAt
open PySem.AutoSeq1 (wpAny_loadPart')
open PySem.MeetsSeq PySem.MeetsSeq2 PySem.MeetsSeq3
end
section
variable {prog:Program} {w:World} {A:Around} {E:Value→Shared→Prop} {s:Shared}
def sIx (n d:Nat):Option Int→Nat
 | none=>d
 | some v=>if v < 0 then (v + (n:Int)).toNat else min v.toNat n
end
end HT
namespace L2
open PySem PySem.Spec PyProof.Rows
abbrev TO:=St→Hp→(Option Int→Hp→Prop)→Prop
def PO (X:Cx) (e:Option Expr) (t:TO):Prop :=
 ∀ (pins:List (Addr × Obj)) (s:Shared) (σ:St) (H:Hp) (Q:Option Int→Hp→Prop),Inv X pins σ H s→t σ H Q →
  wpAny (model X.prog X.w) X.A (evalPart e X.env) (fun u s'=>∃ o H',Inv X pins σ H' s'∧IsPart u o∧Q o H') X.xe s
def JQ:TO:=fun _ H Q=>Q none H
def Rt (t:TE):TO:=fun σ H Q=>t σ H fun x H1=>∃ i,x = .int i∧Q (some i) H1
section
variable {X:Cx} {e:Expr} {te:TE} {lo hi:Option Expr} {tl th:TO} {pos p2:Pos}
theorem JR:PO X none JQ:=by
 intro pins s σ H Q I h
 rw [evalPart_none]
 exact wpAny_pure ⟨none,H,I,.none,h⟩
theorem JT (h:PE X e te):PO X (some e) (Rt te):=by
 intro pins s σ H Q I hw
 rw [evalPart_some]
 refine thn (h pins s σ H _ I hw) fun u s1 ⟨x,H1,I1,r1,q1⟩=>?_
 obtain ⟨i,rfl,q⟩:=q1
 obtain ⟨t,rfl⟩:=r1
 exact ⟨some i,H1,I1,.int i t,q⟩
def SlR (X:Cx) (r:V→Option Int→Option Int→Hp→VK→Prop):Prop :=
 ∀ (pins:List (Addr × Obj)) (s:Shared) (σ:St) (H:Hp) (x:V) (v vl vu:Value) (lo hi:Option Int) (sl:Addr) (Q:VK),Inv X pins σ H s→RelV x v→s.heap.IsSliceOf sl vl vu .none→IsPart vl lo→IsPart vu hi→r x lo hi H Q →
  ∃ T id,typeLookup (.type T) "__getitem__" = pure (some (.builtin id))∧s.TypeIs v T∧wpAny (model X.prog X.w) X.A (getItem v (.ref sl)) (EP X pins σ Q) X.xe s
def tSl (r:V→Option Int→Option Int→Hp→VK→Prop) (te:TE) (tl th:TO):TE:=fun σ H Q=>te σ H fun x H1=>tl σ H1 fun l H2=>th σ H2 fun u H3=>r x l u H3 Q
theorem Gr {r:V→Option Int→Option Int→Hp→VK→Prop} (hr:SlR X r) (he:PE X e te) (hl:PO X lo tl) (hu:PO X hi th):PE X (.Subscript e (.Slice lo hi none p2) pos) (tSl r te tl th):=by
 intro pins s σ H Q I h
 refine Subscript_ (thn (he pins s σ H _ I h) fun v s1 ⟨x,H1,I1,r1,q1⟩=>?_)
 refine wpAny_Slice (thn (hl pins s1 σ H1 _ I1 q1) fun vl s2 ⟨l,H2,I2,pl,q2⟩=>thn (hu pins s2 σ H2 _ I2 q2) fun vu s3 ⟨u,H3,I3,pu,q3⟩=>?_)
 rw [evalPart_none]
 refine wpAny_pure ?_
 have I4:Inv X pins σ H3 { s3 with heap:=s3.heap.push { cls:=.type "slice", data:=.fields #[vl,vu,.none] } }:=I3.kept (t':=s3.toks) fun b ob q=>Heap.get?_push_of_some _ q
 obtain ⟨T,id,hT,ht,hg⟩:=hr pins { s3 with heap:=s3.heap.push { cls:=.type "slice", data:=.fields #[vl,vu,.none] } } σ H3 x v vl vu l u s3.heap.objs.size Q I4 r1 (Heap.IsSliceOf.new ..) pl pu q3
 show wpAny (model X.prog X.w) X.A (subscriptTail e (.Slice lo hi none p2) v (.ref s3.heap.objs.size)) (EP X pins σ Q) X.xe { s3 with heap:=s3.heap.push { cls:=.type "slice", data:=.fields #[vl,vu,.none] } }
 exact tail_any (ops:=[.ref s3.heap.objs.size,v]) ht hT hg (by with_unfolding_all rfl)
def DK (xs:List V) (lo hi:Option Int):List V:=(xs.drop (HT.sIx xs.length 0 lo)).take (HT.sIx xs.length xs.length hi - HT.sIx xs.length 0 lo)
theorem yM (xs:List V) (lo hi:Option Int):(DK xs lo hi).length ≤ xs.length:=by
 unfold DK
 rw [mF,List.length_drop]
 omega
end
end L2
namespace L2
open PySem PySem.Spec PyProof.Rows
def ixN (n:Nat) (i:Int):Option Nat:=if 0 ≤ i then (if i < n then some i.toNat else none) else if -(n:Int) ≤ i then some (i + n).toNat else none
def atI {α:Type} (xs:List α) (i:Int):Option α:=(ixN xs.length i).bind fun j=>xs[j]?
theorem Ce {n:Nat} {i:Int} {j:Nat} (h:ixN n i=some j):seqIndex? i n=some j∧j < n∧-(n:Int) ≤ i∧i < n:=by
 unfold ixN at h
 by_cases h0:0 ≤ i
 ·rw [if_pos h0] at h
  by_cases h1:i < n
  ·rw [if_pos h1] at h
   have e:i.toNat=j:=dM.inj h
   exact ⟨by rw [seqIndex_of h0 h1,e],by omega,by omega,h1⟩
  ·rw [if_neg h1] at h;cases h
 ·rw [if_neg h0] at h
  by_cases h1 : -(n:Int) ≤ i
  ·rw [if_pos h1] at h
   have e:(i + n).toNat=j:=dM.inj h
   exact ⟨by rw [seqIndex_neg (by omega) h1,e],by omega,h1,by omega⟩
  ·rw [if_neg h1] at h;cases h
theorem wZ {α:Type} {xs:List α} {i:Int} {v:α} (h:atI xs i=some v):∃ j,seqIndex? i xs.length=some j∧xs[j]? = some v∧j < xs.length∧-(xs.length:Int) ≤ i∧i < xs.length:=by
 unfold atI at h
 cases e:ixN xs.length i with
 | none=>rw [e] at h;cases h
 | some j =>
  rw [e] at h
  obtain ⟨h1,h2,h3,h4⟩:=Ce e
  exact ⟨j,h1,h,h2,h3,h4⟩
def xg (b:Expr):Prop:=∀ o i,subscripted b false o i=operate [o,i] (getItem o i)
def IxR (X:Cx) (r:R2):Prop :=
 ∀ (value slice:Expr) (pins:List (Addr × Obj)) (s:Shared) (σ:St) (H:Hp) (x y:V) (v u:Value) (Q:VK),Inv X pins σ H s→RelV x v→RelV y u→r x y H Q →
  subscripted slice false v u=operate [v,u] (getItem v u)→wpAny (model X.prog X.w) X.A (subscriptTail value slice v u) (EP X pins σ Q) X.xe s
def MtR (X:Cx) (id:String) (r:V→List V→Hp→VK→Prop):Prop :=
 ∀ (pins:List (Addr × Obj)) (s:Shared) (σ:St) (H:Hp) (x:V) (xs:List V) (v:Value) (us:List Value) (Q:VK),Inv X pins σ H s→RelV x v→Vals xs us→r x xs H Q →
  wpAny (model X.prog X.w) X.A (call (.builtin id) (v :: us)) (EP X pins σ Q) X.xe s
section
variable {X:Cx} {a b:Expr} {ta tb:TE} {pos:Pos}
theorem IxR.or {r r':R2} (h:IxR X r) (h':IxR X r'):IxR X (fun x y H Q=>r x y H Q∨r' x y H Q):=by
 intro value slice pins s σ H x y v u Q I rx ry q hs
 rcases q with q | q
 ·exact h value slice pins s σ H x y v u Q I rx ry q hs
 ·exact h' value slice pins s σ H x y v u Q I rx ry q hs
theorem Ru {r:R2} (hr:IxR X r) (ha:PE X a ta) (hb:PE X b tb) (hs:xg b):PE X (.Subscript a b pos) (tOp r ta tb):=by
 intro pins s σ H Q I h
 exact Subscript_ (N8 ha hb I h fun v u s2 x y H2 I2 rx ry q=>hr a b pins s2 σ H2 x y v u Q I2 rx ry q (hs _ _))
def Rv (K:PySem.W.Frag):R2:=fun x y H Q=>∃ p xs i v,x = .ref p∧y = .int i∧SqL K H p xs∧atI xs i=some v∧Q v H
def Rw (K:PySem.W.Frag):R2:=fun x y H Q=>∃ p xs i v,x = .ref p∧y = .int i∧SqT K H p xs∧atI xs i=some v∧Q v H
def Rx:R2:=fun x y H Q=>∃ z i c,x = .str z∧y = .int i∧z.length ≤ sizeLine∧atI z.cps.toList i=some c∧Q (.str ⟨#[c]⟩) H
theorem JV:IxR X (Rv X.K):=by
 intro value slice pins s σ H x y v u Q I rx ry h hs
 obtain ⟨p,xs,i,z,rfl,rfl,hq,he,q⟩:=h
 cases rx
 obtain ⟨t,rfl⟩:=ry
 obtain ⟨its,r,pl,hz⟩:=I.list hq
 obtain ⟨j,h1,h2,h3,h4,h5⟩:=wZ he
 obtain ⟨w,ew,rw'⟩:=r.get h2
 have hl:=r.length
 have hn:=uo
 have fin:EP X pins σ Q w s:=⟨z,H,I,rw',q⟩
 by_cases h0:0 ≤ i
 ·have hj:i.toNat=j:=by
   rw [seqIndex_of h0 h5] at h1
   exact dM.inj h1
  exact item_listR pl.isList h0 (by omega) (by rw [hj];simpa using ew) fin hs
 ·have hj:(i + (its.toArray.size:Int)).toNat=j:=by
   rw [seqIndex_neg (by omega) h4] at h1
   rw [bB,← hl]
   exact dM.inj h1
  exact subscriptTail_builtinR (x:=w) pl.isList.typeIs slot_list_getitem.lookup
   (wpAny_getItem_list_neg (Q:=fun r s'=>r=w∧EP X pins σ Q r s') pl.isList (by omega) (by rw [bB] <;> omega) (by omega) (by rw [hj];simpa using ew) ⟨rfl,fin⟩) hs
theorem Od:IxR X (Rw X.K):=by
 intro value slice pins s σ H x y v u Q I rx ry h hs
 obtain ⟨p,xs,i,z,rfl,rfl,hq,he,q⟩:=h
 cases rx
 obtain ⟨t,rfl⟩:=ry
 obtain ⟨its,r,pl,hz⟩:=I.tuple hq
 obtain ⟨j,h1,h2,h3,h4,h5⟩:=wZ he
 obtain ⟨w,ew,rw'⟩:=r.get h2
 have hl:=r.length
 have hn:=uo
 have fin:EP X pins σ Q w s:=⟨z,H,I,rw',q⟩
 exact subscriptTail_builtinR (x:=w) pl.typeIs slot_tuple_getitem.lookup
  (getItem_tuple (j:=j) (Q:=fun r s'=>r=w∧EP X pins σ Q r s') pl (by omega) (by omega) (by rw [bB,← hl];exact h1) (by simpa using ew) ⟨rfl,fin⟩) hs
theorem Oe:IxR X Rx:=by
 intro value slice pins s σ H x y v u Q I rx ry h hs
 obtain ⟨z,i,c,rfl,rfl,hz,he,q⟩:=h
 obtain ⟨t,rfl⟩:=rx
 obtain ⟨t',rfl⟩:=ry
 obtain ⟨j,h1,h2,h3,h4,h5⟩:=wZ he
 have hl:z.cps.toList.length=z.length:=by simp [Str.length]
 rw [hl] at h1 h4 h5
 have hn:=uo
 exact tail_any (typeIs_str s z t) slot_str_getitem.lookup (getItem_str (c:=c) (by
  have e1:decide (i < -(2 ^ 63:Int))=false:=dFa (by omega)
  have e2:decide (i ≥ 2 ^ 63)=false:=dFa (by omega)
  rw [e1,e2,Bool.or_false]) (by rw [h1];simpa using h2) ⟨.str ⟨#[c]⟩,H,I.tok _,⟨_,rfl⟩,q⟩) hs
def rIx (K:PySem.W.Frag):R2:=fun x y H Q=>Rv K x y H Q∨Rw K x y H Q∨Rx x y H Q
theorem Og:IxR X (rIx X.K):=JV.or (Od.or Oe)
theorem Ae (its:List Value) (n j:Nat) (u:Value):Obj.mapSeq (·.setIfInBounds j u) { cls:=.type "list", data:=.seq its.toArray n } = { cls:=.type "list", data:=.seq (its.set j u).toArray n }:=by
 simp [Obj.mapSeq]
theorem Inv.lst {pins:List (Addr × Obj)} {σ:St} {H:Hp} {s:Shared} {p:Addr} {xs:List V} (I:Inv X pins σ H s) (h:H p=some (.lst xs)) :
 ∃ (its:List Value) (n:Nat),Vals xs its∧s.heap.get? p=some { cls:=.type "list", data:=.seq its.toArray n }∧xs.length ≤ sizeLine:=by
 obtain ⟨z,its,n,r,e⟩:=I.hok p _ h
 exact ⟨its,n,r,e,z⟩
theorem Inv.lstUpd {pins:List (Addr × Obj)} {σ:St} {H:Hp} {s:Shared} {p:Addr} {xs ys:List V} {its its':List Value} {n n':Nat} {f:Obj→Obj} (I:Inv X pins σ H s) (h:H p=some (.lst xs))
 (ho:s.heap.get? p=some { cls:=.type "list", data:=.seq its.toArray n }) (hf:f { cls:=.type "list", data:=.seq its.toArray n } = { cls:=.type "list", data:=.seq its'.toArray n' }) (r:Vals ys its') (hz:ys.length ≤ sizeLine) (t:Nat) :
 Inv X pins σ (upd H p (.lst ys)) { s with heap:=s.heap.update p f,toks:=t }:=by
 have e:(s.heap.update p f).get? p=some { cls:=.type "list", data:=.seq its'.toArray n' }:=by
  rw [Heap.get?_update_self f ho (by rw [hf] <;> rfl),hf]
 refine I.write (x:=p) (e:=p) (by rw [h];trivial) (.inl rfl) (fun b u hb q=>(Heap.get?_update_other _ _ (Ne.symm hb)).trans q) ⟨_,e⟩ ?_
 exact ⟨hz,its',n',r,e⟩
def Ry:V→V→V→Hp→(Hp→Prop)→Prop:=fun o i v H Q=>∃ p xs k j,o = .ref p∧i = .int k∧H p=some (.lst xs)∧ixN xs.length k=some j∧Q (upd H p (.lst (xs.set j v)))
theorem set_list:Rk X Ry:=by
 intro pins s σ H o i v ov iv u Q I ro ri rv h
 obtain ⟨p,xs,k,j,rfl,rfl,hp,hj,q⟩:=h
 cases ro
 obtain ⟨t,rfl⟩:=ri
 obtain ⟨its,n,r,ho,hz⟩:=I.lst hp
 obtain ⟨h1,h2,h3,h4⟩:=Ce hj
 have hl:=r.length
 have hn:=uo
 have I':Inv X pins σ (upd H p (.lst (xs.set j v))) { s with heap:=s.heap.update p (Obj.mapSeq (·.setIfInBounds j u)) } :=
  I.lstUpd hp ho (Ae its n j u) (r.set rv j) (by rw [bK];exact hz) s.toks
 by_cases h0:0 ≤ k
 ·have hk:k.toNat=j:=by
   rw [seqIndex_of h0 h4] at h1
   exact dM.inj h1
  exact PySem.W.ki_setAt ho h0 (by omega) (by rw [bB,← hl];exact h4) (by rw [hk];exact ⟨_,I',q⟩)
 ·have hk:(k + (its.toArray.size:Int)).toNat=j:=by
   rw [seqIndex_neg (by omega) h3] at h1
   rw [bB,← hl]
   exact dM.inj h1
  exact PySem.W.ki_setBack ho (by omega) (by rw [bB,← hl];exact h3) (by omega) (by rw [hk];exact ⟨_,I',q⟩)
theorem xq (lo hi:Option Int) (n:Nat):(sliceBounds lo hi none n).1=((HT.sIx n 0 lo:Nat):Int)∧(sliceBounds lo hi none n).2.1=((HT.sIx n n hi:Nat):Int)∧(sliceBounds lo hi none n).2.2=1:=by
 refine ⟨?_,?_,rfl⟩
 ·cases lo with
  | none=>simp [sliceBounds,HT.sIx]
  | some i =>
   simp only [sliceBounds,HT.sIx,Option.getD_none,show (1:Int) > 0 by decide,if_true]
   by_cases h:i < 0
   ·simp only [h,if_true] <;> omega
   ·simp only [h,if_false] <;> omega
 ·cases hi with
  | none=>simp [sliceBounds,HT.sIx]
  | some i =>
   simp only [sliceBounds,HT.sIx,Option.getD_none,show (1:Int) > 0 by decide,if_true]
   by_cases h:i < 0
   ·simp only [h,if_true] <;> omega
   ·simp only [h,if_false] <;> omega
theorem vG (its:List Value) (lo hi:Option Int):slicePick its.toArray lo hi none=((its.drop (HT.sIx its.length 0 lo)).take (HT.sIx its.length its.length hi - HT.sIx its.length 0 lo)).toArray:=by
 obtain ⟨h1,h2,h3⟩:=xq lo hi its.toArray.size
 unfold slicePick
 rw [h1,h2,h3]
 simp only [sliceRange_one,pick_run,bB] <;> rfl
def UL (K:PySem.W.Frag):V→Option Int→Option Int→Hp→VK→Prop:=fun x lo hi H Q=>∃ a xs,x = .ref a∧SqL K H a xs∧∀ p,H p=none→Q (.ref p) (upd H p (.lst (DK xs lo hi)))
theorem JW:SlR X (UL X.K):=by
 intro pins s σ H x v vl vu lo hi sl Q I rx hs pl pu h
 obtain ⟨a,xs,rfl,hx,q⟩:=h
 cases rx
 obtain ⟨its,r,ht,hz⟩:=I.list hx
 have hlen:=r.length
 refine ⟨"list", _,slot_list_getitem.lookup,ht.isList.typeIs,?_⟩
 refine wpAny_getItem_list_slice ht.isList hs pl pu .none (by simp) ?_ (by rw [bB] <;> omega)
 rw [vG,← hlen]
 refine ⟨.ref s.heap.objs.size,_,I.laid (t':=s.toks) (o:=.lst (DK xs lo hi)) (fun b ob q=>Heap.get?_push_of_some _ q) (bA _) ?_,rfl,q _ (I.hok.fresh (bA _))⟩
 exact ⟨bV (yM xs lo hi) hz,_,0,(r.drop (HT.sIx xs.length 0 lo)).take (HT.sIx xs.length xs.length hi - HT.sIx xs.length 0 lo),Heap.get?_push_size _ rfl⟩
theorem bY:lq X (.builtin "len") (fun xs H Q=>∃ p ys,xs=[.ref p]∧(SqL X.K H p ys∨SqT X.K H p ys)∧Q (.int ys.length) H):=by
 intro pins s σ H xs us Q I r h
 obtain ⟨p,ys,rfl,hq,q⟩:=h
 obtain ⟨u,rfl,rx⟩:=vals1 r
 cases rx
 have hn:=uo
 rcases hq with hq | hq
 ·obtain ⟨its,r',pl,hz⟩:=I.list hq
  have hlen:=r'.length
  exact Calls.call_len_list pl.isList (by simp only [bB] <;> omega) ⟨.int ys.length,H,I.tok _,⟨s.toks + 1,by rw [bB,hlen]⟩,q⟩
 ·obtain ⟨its,r',pl,hz⟩:=I.tuple hq
  have hlen:=r'.length
  exact len_tuple pl (by simp only [bB] <;> omega) ⟨.int ys.length,H,I.tok _,⟨s.toks + 1,by rw [bB,hlen]⟩,q⟩
theorem xr:lq X (.type "list") (fun xs H Q=>∃ p ys,xs=[.ref p]∧(SqL X.K H p ys∨SqT X.K H p ys)∧∀ l,H l=none→Q (.ref l) (upd H l (.lst ys))):=by
 intro pins s σ H xs us Q I r h
 obtain ⟨p,ys,rfl,hq,q⟩:=h
 obtain ⟨u,rfl,rx⟩:=vals1 r
 cases rx
 have fin:∀ (its:List Value),Vals ys its→ys.length ≤ sizeLine→∀ (h':Heap) (c':Nat),(∀ b o',s.heap.get? b=some o'→h'.get? b=some o') →
  h'.get? s.heap.objs.size=some { cls:=.type "list", dict:=none,data:=.seq its.toArray c',slots:=#[] }→EP X pins σ Q (.ref s.heap.objs.size) { s with heap:=h' }:=fun its r' hz h' c' kp e =>
  ⟨.ref s.heap.objs.size,_,I.laid (t':=s.toks) kp (bA _) (show jw X.prog X.w _ h' _ (.lst ys) from ⟨hz,its,c',r',e⟩),rfl,q _ (I.hok.fresh (bA _))⟩
 rcases hq with hq | hq
 ·obtain ⟨its,r',pl,hz⟩:=I.list hq
  have hlen:=r'.length
  obtain ⟨o,ho,hc,n,hd⟩:=pl.isList
  exact call_list_seq p (.inl rfl) ho hc hd (fun h' c' kp e=>fin its r' hz h' c' kp e) (by simp only [bB] <;> omega)
 ·obtain ⟨its,r',pl,hz⟩:=I.tuple hq
  have hlen:=r'.length
  obtain ⟨o,ho,hc,n,hd⟩:=pl
  exact call_list_seq p (.inr rfl) ho hc hd (fun h' c' kp e=>fin its r' hz h' c' kp e) (by simp only [bB] <;> omega)
def tyV (K:PySem.W.Frag) (T:String) (x:V) (H:Hp):Prop:=match x with
 | .str _=>T = "str"
 | .int _=>T = "int"
 | .ref p=>(T = "list" ∧ ∃ xs,SqL K H p xs)∨(T = "tuple" ∧ ∃ o,K.lookup p=some o∧o.cls = .type "tuple" ∧ o.dict=none) ∨
  (T = "dict" ∧ ((∃ kvs,H p=some (.dK kvs))∨∃ kvs,H p=some (.dT kvs)))∨(T = "set" ∧ ∃ S n,H p=some (.set S n))
 | _=>False
theorem Oh {pins:List (Addr × Obj)} {σ:St} {H:Hp} {s:Shared} {T:String} {x:V} {v:Value} (I:Inv X pins σ H s) (r:RelV x v) (ty:tyV X.K T x H) :
 s.TypeIs v T∧∀ a,v = .ref a→∃ ob,s.heap.get? a=some ob∧ob.dict=none:=by
 cases x with
 | str z =>
  obtain ⟨t,rfl⟩:=r
  cases (show T = "str" from ty)
  exact ⟨typeIs_str s z t,fun _ e=>nomatch e⟩
 | int i =>
  obtain ⟨t,rfl⟩:=r
  cases (show T = "int" from ty)
  exact ⟨typeIs_int s i t,fun _ e=>nomatch e⟩
 | ref p =>
  cases r
  rcases ty with ⟨rfl,xs,hq⟩ | ⟨rfl,o,hk,hc,hd⟩ | ⟨rfl,hk⟩ | ⟨rfl,S,n,hk⟩
  ·obtain ⟨its,_,pl,_⟩:=I.list hq
   refine ⟨pl.isList.typeIs,fun a e=>?_⟩
   cases e
   obtain ⟨o,n,e,c,hd,_⟩:=pl
   exact ⟨o,e,hd⟩
  ·refine ⟨⟨o,I.kIn p o hk,hc⟩,fun a e=>?_⟩
   cases e
   exact ⟨o,I.kIn _ o hk,hd⟩
  ·have z:∃ o,s.heap.get? p=some o∧o.ExactDict:=by
    rcases hk with ⟨kvs,hk⟩ | ⟨kvs,hk⟩
    ·obtain ⟨_,_,_,_,o,_,_,e,ex,_⟩:=I.hok p _ hk
     exact ⟨o,e,ex⟩
    ·obtain ⟨_,_,_,_,o,_,_,e,ex,_⟩:=I.hok p _ hk
     exact ⟨o,e,ex⟩
   obtain ⟨o,e,ex⟩:=z
   refine ⟨⟨o,e,ex.1⟩,fun a e2=>?_⟩
   cases e2
   exact ⟨o,e,ex.2.1⟩
  ·obtain ⟨o,_,_,_,e,ex,_⟩:=I.hok p _ hk
   refine ⟨⟨o,e,ex.1⟩,fun a e2=>?_⟩
   cases e2
   exact ⟨o,e,ex.2.1⟩
 | _=>exact False.elim ty
def tBM (K:PySem.W.Frag) (T:String) (r:V→List V→Hp→VK→Prop) (to:TE) (t:TA):TE:=fun σ H Q=>to σ H fun x H1=>tyV K T x H1∧t σ H1 fun xs H2=>r x xs H2 Q
variable {o e:Expr} {es:List Expr} {to:TE} {t:TA} {name:Str} {apos cpos:Pos} {T id:String} {r:V→List V→Hp→VK→Prop}
theorem M6 (pa:PlainAttrs T) (slot:Slot T name id) (hty:typeOf (.builtin id)=pure (.type "method_descriptor")) (hm:MtR X id r) (ho:PE X o to) (ha:PA X (e :: es) t)
 (hbase:attributeBase o name X.env (eval o X.env)=eval o X.env:=by rfl)
 (hfew:((backTo cpos (starEach (e :: es) X.env)).all (fun x=>!x.1) && (backToKw cpos (keywordEach [] X.env)).all (fun x=>x.1.isSome)
  && decide ((e :: es).length + ([]:List Keyword).length + (if ([]:List Keyword).isEmpty then 0 else 1) < 30))=true:=by rfl)
 (hline:(apos.endLine == cpos.line)=true:=by rfl) (hs:starEach (e :: es) X.env=(false,eval e X.env) :: starEach es X.env:=by rfl) (hplain:(backTo cpos (starEach es X.env)).any (·.1)=false:=by rfl) :
 PE X (.Call (.Attribute o name apos) (e :: es) [] cpos) (tBM X.K T r to t):=by
 intro pins s σ H Q I h
 refine wpAny_Call_method_late hbase hfew hline rfl (thn (ho pins s σ H _ I h) fun v s1 ⟨x,H1,I1,r1,ty,q1⟩=>?_)
 obtain ⟨h1,h2⟩:=Oh I1 r1 ty
 refine ⟨T,id,pa,slot,hty,h1,h2,?_⟩
 have hA:=ha cpos pins s1 σ H1 _ I1 q1
 rw [hs] at hA ⊢
 refine Calls.callWith_builtin (by show (false || (backTo cpos (starEach es X.env)).any (·.1))=false;rw [hplain] <;> rfl) (Calls.evalArgs_plain ?_)
 exact thn hA fun us s2 ⟨vs,H2,I2,r2,q2⟩=>hm pins s2 σ H2 x vs v us Q I2 r1 r2 q2
/- xs.append(e),list.index on a module's tuple .. are MtR facts of 06m -/
end
end L2
namespace L2
open PySem PySem.Spec PyProof.Rows
def MtM (X:Cx) (id:String) (r:V→List V→Hp→VK→Prop):Prop :=
 ∀ (pins:List (Addr × Obj)) (s:Shared) (σ:St) (H:Hp) (x:V) (xs:List V) (v:Value) (us:List Value) (Q:VK),Inv X pins σ H s→RelV x v→Vals xs us→r x xs H Q →
  wpAny (model X.prog X.w) X.A (call (.builtin id) (v :: us)) (EP X pins σ Q) X.xe s
theorem Vals.one:∀ {x:V} {us:List Value},Vals [x] us→∃ u,us=[u]∧RelV x u
 | _,_,.cons r .nil=>⟨_,rfl,r⟩
theorem Vals.zero:∀ {us:List Value},Vals [] us→us=[]
 | _,.nil=>rfl
theorem Vals.eraseIdx:∀ {xs:List V} {us:List Value} (i:Nat),Vals xs us→Vals (xs.eraseIdx i) (us.eraseIdx i)
 | _,_,_,.nil=>.nil
 | _,_,0,.cons _ t=>t
 | _,_,i + 1,.cons r t=>.cons r (Vals.eraseIdx i t)
theorem Vals.reverse {xs:List V} {us:List Value} (h:Vals xs us):Vals xs.reverse us.reverse:=by
 induction h with
 | nil=>exact .nil
 | cons r t ih=>rw [jD,jD];exact Vals.append ih (.cons r .nil)
theorem Vals.rep {xs:List V} {us:List Value} (h:Vals xs us):∀ k:Nat,Vals (aG k xs).flatten (aG k us).flatten
 | 0=>.nil
 | k + 1=>by
  rw [b_,b_,d9,d9]
  exact Vals.append h (Vals.rep h k)
theorem foldl_rep (its:List Value):∀ (k:Nat) (acc:List Value),
 uc (fun x1 x2=>x1++x2) acc.toArray (aG k its.toArray)=(acc++(aG k its).flatten).toArray
 | 0,acc=>by simp
 | k + 1,acc=>by
  have e:acc.toArray++its.toArray=(acc++its).toArray:=by simp
  have e2:(acc++its)++(aG k its).flatten=acc++(aG (k + 1) its).flatten:=by
   rw [b_,d9,p7]
  rw [← e2,← foldl_rep its k (acc++its),← e,b_,fK]
section
variable {X:Cx} {pins:List (Addr × Obj)} {σ:St} {H:Hp} {s:Shared} {l b:Addr} {xs ys zs:List V}
theorem Inv.lset {its its':List Value} {n:Nat} {f:Array Value→Array Value} {t':Nat} (I:Inv X pins σ H s) (hH:H l=some (.lst xs))
 (e:s.heap.get? l=some { cls:=.type "list", data:=.seq its.toArray n }) (hf:f its.toArray=its'.toArray) (hv:Vals ys its') (hz:ys.length ≤ sizeLine) :
 Inv X pins σ (upd H l (.lst ys)) { s with heap:=s.heap.update l (Obj.mapSeq f),toks:=t' }:=by
 have q:=PySem.IsL.update e f
 rw [hf] at q
 refine I.write (x:=l) (e:=l) (by rw [hH];exact trivial) (.inl rfl) (fun b' u hb hu=>(Heap.get?_update_other s.heap (Obj.mapSeq f) (Ne.symm hb)).trans hu) ⟨_,q⟩ ?_
 exact ⟨hz,its',_,hv,q⟩
theorem Inv.lnew {its:List Value} {t':Nat} (I:Inv X pins σ H s) (hv:Vals ys its) (hz:ys.length ≤ sizeLine) :
 Inv X pins σ (upd H s.heap.objs.size (.lst ys)) { s with heap:=s.heap.push { cls:=.type "list", data:=.seq its.toArray },toks:=t' } :=
 I.laid (fun _ _ q=>Heap.get?_push_of_some _ q) (bA _) ⟨hz,its,0,hv,Heap.get?_push_size _ rfl⟩
theorem Inv.fresh (I:Inv X pins σ H s):H s.heap.objs.size=none:=I.hok.fresh (bA _)
theorem Inv.lstM (I:Inv X pins σ H s) (hH:H l=some (.lst xs)):xs.length ≤ sizeLine∧∃ (its:List Value) (n:Nat),Vals xs its∧xs.length=its.length∧s.heap.get? l=some { cls:=.type "list", data:=.seq its.toArray n }:=by
 obtain ⟨z,its,n,r,e⟩:=I.hok l _ hH
 exact ⟨z,its,n,r,r.length,e⟩
theorem Gs {n:Nat} (h:n ≤ sizeLine):Builtin.List.listTooLong n=false:=by
 unfold Builtin.List.listTooLong
 exact dFa (by omega)
end
section
variable {X:Cx}
def JX:V→List V→Hp→VK→Prop:=fun x vs H Q=>∃ l xs y,x = .ref l∧vs=[y]∧H l=some (.lst xs)∧xs.length < sizeLine∧Q .non (upd H l (.lst (xs++[y])))
theorem rE:MtM X "list.append" JX:=by
 intro pins s σ H x vs v us Q I rx rv h
 obtain ⟨l,xs,y,rfl,rfl,hH,hz,q⟩:=h
 cases rx
 obtain ⟨u,rfl,ru⟩:=rv.one
 obtain ⟨z,its,n,r,hl,e⟩:=I.lstM hH
 refine call_meets F.slot_list_append ⟨_,e,rfl⟩ F.entry_list_append (F.args_list_append_2 _ _) (PySem.list_append l its.toArray n u (by rw [bB];omega)) ⟨e,?_⟩
 refine ⟨.non,_,I.lset (its':=its++[u]) hH e (by simp) (r.append (.cons ru .nil)) ?_,rfl,q⟩
 rw [bW,nQ]
 omega
def U0:R2:=fun x y H Q=>∃ l k xs,x = .ref l∧y = .int k∧H l=some (.lst xs)∧-(2 ^ 63) ≤ k∧k < 2 ^ 63∧xs.length * k.toNat ≤ sizeLine ∧
 ∀ p,H p=none→Q (.ref p) (upd H p (.lst (aG k.toNat xs).flatten))
theorem len_rep {α:Type} (xs:List α) (k:Nat):(aG k xs).flatten.length=k * xs.length:=by
 induction k with
 | zero=>simp
 | succ k ih=>rw [b_,d9,bW,ih,Nat.succ_mul,Nat.add_comm]
theorem Oi:OpR X (binaryOp .Mult) U0:=by
 intro pins s σ H x y v u Q I rx ry h
 obtain ⟨l,k,xs,rfl,rfl,hH,h1,h2,hz,q⟩:=h
 cases rx
 obtain ⟨t,rfl⟩:=ry
 obtain ⟨z,its,n,r,hl,e⟩:=I.lstM hH
 have hlen:its.toArray.size * k.toNat ≤ sizeLine:=by rw [bB,← hl];exact hz
 have hcap:¬ its.toArray.size * k.toNat > (2 ^ 63 - 1) / 8:=by
  have:(sizeLine:Nat) ≤ (2 ^ 63 - 1) / 8:=by decide
  omega
 have hfit:¬ (!Builtin.List.listFitsIndex k)=true:=by
  rw [fitsIndex_both h1 h2]
  exact eO
 have hlong:¬ Builtin.List.listTooLong (its.toArray.size * k.toNat)=true:=by
  rw [Gs hlen]
  exact eO
 have hnew:uc (fun x1 x2=>x1++x2) #[] (aG (if its.toArray.isEmpty=true then 0 else k.toNat) its.toArray)=(aG k.toNat its).flatten.toArray:=by
  have f0:∀ m:Nat,uc (fun x1 x2=>x1++x2) #[] (aG m its.toArray)=(aG m its).flatten.toArray:=fun m=>by
   have:=foldl_rep its m []
   rw [nH] at this
   exact this
  rw [f0]
  cases its with
  | nil=>simp
  | cons a r'=>rw [if_neg (by simp)]
 refine wpAny_binaryOp_repeat_ref (T := "list") (U := "int") (by decide) ⟨_,e,rfl⟩ (fun s'=>typeIs_int s' k t) noFill_list_mul F.fills_int_mul F.slot_int_rmul repeat_list F.slot_int_index.lookup
  (call_meets F.slot_int_rmul (typeIs_int s k t) F.entry_int_rmul (F.args_int_rmul_2 _ _) (int___rmul___int_list k t l its.toArray n)
   ⟨e,rfl,⟨_,e,rfl⟩,call_meets F.slot_list_mul ⟨_,e,rfl⟩ F.entry_list_mul (F.args_list_mul_2 _ _) (AutoListH.list___mul___list_int_3 l its.toArray n k t hfit hcap hlong) ⟨e,?_⟩⟩)
 rw [hnew]
 exact ⟨.ref _,_,I.lnew (t':=s.toks) (r.rep k.toNat) (by rw [len_rep,Nat.mul_comm];exact hz),rfl,q _ I.fresh⟩
end
section
variable {prog:Program} {w:World} {A:Around} {E:Value→Shared→Prop} {s:Shared}
set_option maxRecDepth 100000 in
end
section
variable {X:Cx}
end
end L2
namespace Att
open PySem PySem.W PySem.Calls PyProof.Rows
theorem tG {P:Params} {h:Heap}:∀ (ns:List Int) (vs:List Value),WellAll P h vs (ns.map WData.int)→IntsAre vs ns:=by
 intro ns
 induction ns with
 | nil =>
  intro vs w
  rw [p8] at w
  cases w
  exact .nil
 | cons n ns ih =>
  intro vs w
  rw [bC] at w
  cases w with
  | cons a b =>
   cases a
   exact .cons _ _ (ih _ b)
theorem DN {l:OpenLaw} {n:Nat} (hn:l.most=some n) {P:Params} {h:Heap} {args:List WData} {vals:List Value}
 (hpre:l.row.toRowW.claim.pre args=true) (hwl:WellAll P h vals args) :
 ∃ a vs ns,vals=[Value.ref a]∧args=[WData.list (ns.map WData.int)]∧h.get? a=some { cls:=.type "list", data:=.seq vs.toArray }∧IntsAre vs ns∧ns.length ≤ n:=by
 have hsh:WShape.hasAll [] args [.list .int]=true:=(pre_splitW hpre).1
 have hc:l.pre.holds [] { args:=args }=true:=(pre_splitW hpre).2
 obtain ⟨d,r,rfl,h1,h2⟩:=hasAllW_cons hsh
 obtain rfl:=hasAllW_nil h2
 obtain ⟨xs,rfl,h3⟩:=hasW_list h1
 obtain ⟨ns,rfl⟩:=items_int h3
 have hlen:ns.length ≤ n:=by
  unfold OpenLaw.pre at hc
  have h4:(WTm.not (.lt (.lit (.int (n:Int))) (.len (.arg 0)))).holds [] { args:=[.list (ns.map .int)] }=true:=by
   have h4:=(holds_andW hc).1
   rw [hn] at h4
   exact h4
  have h5:=condW_of h4 (w_not (w_lt w_lit (w_len_list (w_arg rfl))))
  rw [aW] at h5
  refine Nat.le_of_not_lt fun q=>?_
  have q':(n:Int) < ((ns.length:Nat):Int):=by omega
  first
   | (rw [dTr q'] at h5;exact absurd h5 (by decide))
   | (simp at h5;omega)
 cases hwl with
 | cons w1 w2 =>
  cases w2
  cases w1 with
  | list ho hall=>exact ⟨_,_,ns,rfl,rfl,ho,tG ns _ hall,hlen⟩
theorem DP (l:OpenLaw) (args:List WData):l.row.toRowW.claim.post args (.bool true) args=true :=
 postW_of (r:=l.row.toRowW) (X:=(true == true))
  (show WShape.has [] (.bool true) .bool=true by first | rfl | decide | simp [WShape.has,WShape.arms,WShape.armsAll])
  (show (WTm.eq .res (.lit (.bool true))).value [] { args:=args,res:=some (.bool true),after:=args }=some (.bool (true == true)) from w_eq_bool (w_res rfl) w_lit) rfl
theorem yN {l:OpenLaw} {n:Nat} {q:Program} {loose:List Str} {XP:(Str→Option Value)→Heap→Prop} {YP:World→Heap→Prop} {d:DefRec}
 (hn:l.most=some n) (hdf:d.params.defaults=[])
 (call:∀ (w:World) (s₀ s₁:Shared) (mg mb:Str→Option Value) (fa:Addr) (o:Obj) (pm cd doc:Value) (a:Addr) (vs:List Value) (ns:List Int),
  Ground q loose [] XP w s₀ mg mb s₁.heap→YP w s₁.heap →
  s₁.heap.get? fa=some o→o.data = .func (docDef d.name d.params d.body d.scope pm cd doc)→s₁.heap.CodeRec cd d.name→mg d.name=some (.ref fa) →
  s₁.heap.get? a=some { cls:=.type "list", data:=.seq vs.toArray }→IntsAre vs ns→ns.length ≤ n→s₁.gens = #[] →
  codeAny (model l.prog w) callerA (.call (.ref fa) ⟨[.ref a],[]⟩) (fun r s'=>r = .ok (.ret (.bool true))∧OldK s₁.heap s'.heap∧s'.os=s₁.os∧AllBare s'.gens) s₁) :
 WalkO q loose XP YP l.row.toRowW d [] (fun f vs=>PySem.call f vs):=by
 intro w s₀ s₁ mg mb G Y fa o pm cd doc dV kV ho hd hcd hD hmg hg args vals as hpre hlay hrd hwl hlo
 obtain rfl:dV = .none:=Dflts.none hD hdf
 obtain rfl:kV = .none:=Dflts.noKw hD
 obtain ⟨a,vs,ns,rfl,rfl,hobj,hints,hlen⟩:=DN hn hpre hwl
 refine enter_call (codeAny_mono (call w s₀ s₁ mg mb fa o pm cd doc a vs ns G Y ho (fd_plain hd) hcd hmg hobj hints hlen hg) fun r s' hq=>?_)
 obtain ⟨rfl,h2,h3,h4⟩:=hq
 exact ⟨.inl ⟨.bool true,.bool true,[],rfl,fun _=>rfl,.bool true,DP l _,fun _=>⟨List.Pairwise.nil,fun _ hm=>(nomatch hm)⟩⟩,h2,h3,h4⟩
section
variable {prog:Program} {w:World} {A:Around} {E:Value→Shared→Prop} {s:Shared} {K:Frag}
end
end Att
namespace L2
open PySem PySem.Spec PyProof.Rows
theorem v8:∀ {vs:List Value} {ns:List Int},IntsAre vs ns→Vals (ns.map V.int) vs
 | _,_,.nil=>.nil
 | _,_,.cons n t h=>.cons ⟨t,rfl⟩ (v8 h)
def Only (H:Hp):Prop:=∀ b,H b=none∨∃ o xs,H b=some (.frz o (.lst xs))
def uq (ts:List (Addr × Str × Pos)) (H:Hp):Hp:=fun b=>match ts.find? (fun t=>t.1 == b) with
 | some t=>some (.tbl t.2.1 t.2.2)
 | none=>H b
theorem Gu (ts:List (Addr × Str × Pos)) (H:Hp) (b:Addr):(uq ts H b=H b∧∀ t ∈ ts,t.1 ≠ b)∨∃ t ∈ ts,t.1=b∧uq ts H b=some (.tbl t.2.1 t.2.2):=by
 unfold uq
 cases e:ts.find? (fun t=>t.1 == b) with
 | none=>exact .inl ⟨rfl,fun t ht z=>by have:=List.find?_eq_none.mp e t ht;simp [z] at this⟩
 | some t =>
  have h1:=List.mem_of_find?_eq_some e
  have h2:=List.find?_some e
  exact .inr ⟨t,h1,by simpa using h2,rfl⟩
theorem Gv {P:Program} {w:World} {K:PySem.W.Frag} {mg mb:Str→Option Value} {CX:CXT} {k:Nat} {fa a:Addr} {fd:FuncData} {x:Str} {sp:Sp} {s₁:Shared} {vs:List Value} {ns:List Int}
 (KX:K.In s₁.heap) (hns:s₁.heap.Ns mainGlobals mg) (hb:s₁.heap.Ns builtinsNs mb) (hbb:∀ x:Str,x ≠ "__name__" → mb x=bootBuiltins x) (hlim:s₁.heap.NoLimit) (hbm:∃ bm ob,mg "__builtins__" = some (.ref bm)∧bm ≠ builtinsNs∧s₁.heap.get? bm=some ob∧ob.cls = .type "module" ∧ ob.dict=some builtinsNs∧ob.data = .plain) (hg:s₁.gens = #[])
 (ha:s₁.heap.get? a=some { cls:=.type "list", data:=.seq vs.toArray }) (hi:IntsAre vs ns) (hl:ns.length ≤ sizeLine) (hr:Room k callerA)
 (F:∀ base:Heap,K.In base→base.Ns mainGlobals mg→FnOk P w K mg base CX k fa fd [x] sp) (hbind:∀ (s:Shared) (u:Value),BindsTo s fd ⟨[u],[]⟩ [(x,u)])
 (ts:List (Addr × Str × Pos)) (hts:∀ t ∈ ts,s₁.heap.get? t.1=some { cls:=.none,data:=.fields #[] }) (hCT:∀ t ∈ ts,isCodeTable s₁.heap t.1) (hKt:∀ t ∈ ts,K.lookup t.1=none) (htu:∀ t ∈ ts,∀ t' ∈ ts,t.1=t'.1→t=t')
 (hsp:∀ H:Hp,(∀ t ∈ ts,H t.1=some (.tbl t.2.1 t.2.2))→SqL K H a (ns.map V.int)→sp [.ref a] H (fun v _=>v = .bl true) fun _ _ _=>False)
 (hCX:∀ H e s',CX [] H s₁ (fun _ _ _=>False) e s'→False) :
 codeAny (model P w) callerA (.call (.ref fa) ⟨[.ref a],[]⟩) (fun r s'=>r = .ok (.ret (.bool true))∧OldK s₁.heap s'.heap∧s'.os=s₁.os∧AllBare s'.gens) s₁:=by
 have rv:=v8 hi
 have lenV:=hi.length
 have core:∀ H:Hp,(∀ b,H b=none∨(∃ o xs,H b=some (.frz o (.lst xs)))∨∃ t ∈ ts,t.1=b∧H b=some (.tbl t.2.1 t.2.2))→(∀ t ∈ ts,H t.1=some (.tbl t.2.1 t.2.2))→SqL K H a (ns.map V.int)→HOk P w H s₁.heap→(∀ b,H b ≠ none→b=a∨∃ t ∈ ts,t.1=b)→(H a ≠ none→K.lookup a=none) →
  codeAny (model P w) callerA (.call (.ref fa) ⟨[.ref a],[]⟩) (fun r s'=>r = .ok (.ret (.bool true))∧OldK s₁.heap s'.heap∧s'.os=s₁.os∧AllBare s'.gens) s₁:=by
  intro H hO hT hS hok hA hK
  have base_of:∀ {b:Addr} {o:Obj},s₁.heap.get? b=some o→H b=none→(wV s₁.heap H).get? b=some o:=fun e n=>FJ e n
  have noA:∀ {b:Addr} {o:Obj} {es:Array DictEntry} {ep:Nat},s₁.heap.get? b=some o→o.data = .dict es ep→H b=none:=fun {b o es ep} e d=>by
   cases q:H b with
   | none=>rfl
   | some u =>
    rcases hA b (by rw [q];simp) with e' | ⟨t,ht,e'⟩
    case inr =>
     subst e'
     rw [hts t ht] at e;cases e
     have d':Data.fields #[]=Data.dict es ep:=d
     cases d'
    subst e'
    rw [ha] at e;cases e
    have d':Data.seq vs.toArray _=Data.dict es ep:=d
    cases d'
  have nsK:∀ {b:Addr} {m:Str→Option Value},s₁.heap.Ns b m→(wV s₁.heap H).Ns b m:=fun {b m} ⟨o,es,ep,e,d,r⟩=>⟨o,es,ep,base_of e (noA e d),d,r⟩
  have hKb:K.In (wV s₁.heap H):=fun b o e=>base_of (KX b o e) (by
   cases q:H b with
   | none=>rfl
   | some u =>
    rcases hA b (by rw [q];simp) with e' | ⟨t,ht,e'⟩
    ·subst e'
     rw [hK (by rw [q];simp)] at e;cases e
    ·subst e'
     rw [hKt t ht] at e;cases e)
  have hM:Mod K mg (wV s₁.heap H):=⟨hKb,nsK hns,⟨mb,nsK hb,hbb⟩,let ⟨mc,h1,h2⟩:=hlim;⟨mc,nsK h1,h2⟩,let ⟨bm,ob,g1,g2,g3,g4,g5,g6⟩:=hbm;⟨bm,ob,g1,g2,base_of g3 (by
   cases q:H bm with
   | none=>rfl
   | some u =>
    rcases hA bm (by rw [q];simp) with e' | ⟨t,ht,e'⟩
    ·rw [e',ha] at g3;cases g3
     have z:Value.type "list" = Value.type "module" := g4
     injection z with z
     exact absurd z (by decide)
    ·rw [← e',hts t ht] at g3;cases g3
     cases g4),g4,g5,g6⟩⟩
  have e0:Env0 P w K mg (wV s₁.heap H) callerA [] s₁ H:=⟨rfl,hM,fun b o e=>Jz e,qb (Dq _ _),trivial,fun b hb=>absurd (show b ∈ ([]:List Addr) from hb) (by simp),hok,.of_eq hg⟩
  refine codeAny_mono ((F _ hKb (nsK hns)).run callerA [] s₁ H ⟨[.ref a],[]⟩ [.ref a] [.ref a] _ _ hr e0 (hbind s₁ (.ref a)) (.cons rfl .nil) (hsp H hT hS)) fun r s' h=>?_
  cases r with
  | error e=>exact (hCX H e s' h).elim
  | ok fl =>
   cases fl with
   | next=>exact False.elim h
   | brk=>exact False.elim h
   | cont=>exact False.elim h
   | ret u =>
    obtain ⟨v,H',os,bare,un,hok',r',q⟩:=h
    have q':v = .bl true:=q
    subst q'
    obtain rfl:u=Value.bool true:=r'
    refine ⟨rfl,⟨fun b o e=>?_,fun b o e=>un.there b o e (by simp)⟩,os,bare⟩
    cases q:H b with
    | none=>exact .inl <| un.keep b o e q (by intro z;exact absurd (show b ∈ ([]:List Addr) from z) (by simp)) (by simp)
    | some u =>
     rcases hO b with z | ⟨ob,xs,z⟩ | ⟨t,ht,rfl,z⟩
     case inr.inr =>
      have z2:=un.tbls _ _ _ z
      obtain ⟨ps,e2,_⟩:=hok' _ _ z2
      rw [hts t ht] at e;cases e
      exact .inr (.inl ⟨hCT t ht,rfl,#[],ps,rfl,by rw [e2];simp⟩)
     ·rw [q] at z;cases z
     ·have z2:=un.frzs b ob _ z
      obtain ⟨e1,_⟩:=hok b _ z
      obtain ⟨e2,_⟩:=hok' b _ z2
      rw [e] at e1;cases e1
      exact .inl e2
 have core1:∀ H:Hp,Only H→SqL K H a (ns.map V.int)→HOk P w H s₁.heap→(∀ b,H b ≠ none→b=a)→(H a ≠ none→K.lookup a=none) →
  codeAny (model P w) callerA (.call (.ref fa) ⟨[.ref a],[]⟩) (fun r s'=>r = .ok (.ret (.bool true))∧OldK s₁.heap s'.heap∧s'.os=s₁.os∧AllBare s'.gens) s₁:=by
  intro H hO hS hok hA hK
  have na:∀ t ∈ ts,t.1 ≠ a:=fun t ht z=>by
   have z2:=hts t ht
   rw [z,ha] at z2
   cases z2
  have cs:∀ b,(uq ts H b=H b∧∀ t ∈ ts,t.1 ≠ b)∨∃ t ∈ ts,t.1=b∧uq ts H b=some (.tbl t.2.1 t.2.2):=Gu ts H
  have la:uq ts H a=H a:=by
   rcases cs a with z | ⟨t,ht,z,_⟩
   ·exact z.1
   ·exact absurd z (na t ht)
  have noown:∀ b x,H b ≠ some (.own x):=fun b x z=>by rcases hO b with y | ⟨_,_,y⟩ <;> (rw [y] at z;cases z)
  have notup:∀ b x,H b ≠ some (.tup x):=fun b x z=>by rcases hO b with y | ⟨_,_,y⟩ <;> (rw [y] at z;cases z)
  refine core (uq ts H) (fun b=>?_) (fun t ht=>?_) ?_ (fun b u z=>?_) (fun b z=>?_) (fun z=>hK (by rw [← la];exact z))
  ·rcases cs b with z | ⟨t,ht,z1,z2⟩
   ·rcases hO b with y | y
    ·exact .inl (z.1.trans y)
    ·obtain ⟨o,xs,y⟩:=y
     exact .inr (.inl ⟨o,xs,z.1.trans y⟩)
   ·exact .inr (.inr ⟨t,ht,z1,z2⟩)
  ·rcases cs t.1 with z | ⟨t',ht',z1,z2⟩
   ·exact absurd rfl (z.2 t ht)
   ·have:=htu t' ht' t ht z1
    subst this
    exact z2
  ·rcases hS with (z | ⟨o,z⟩) | z
   ·exact .inl (.inl (by rw [la];exact z))
   ·exact .inl (.inr ⟨o,by rw [la];exact z⟩)
   ·exact .inr z
  ·rcases cs b with y | ⟨t,ht,z1,z2⟩
   ·rw [y.1] at z
    exact (hok b u z).stay (fun _ _ _ q=>q) (fun c q=>absurd q (noown c b)) fun c xs q=>absurd q (notup c xs)
   ·rw [z2] at z
    cases z
    subst z1
    exact ⟨#[],hts t ht,.inl rfl⟩
  ·rcases cs b with y | ⟨t,ht,z1,z2⟩
   ·exact .inl (hA b (by rw [← y.1];exact z))
   ·exact .inr ⟨t,ht,z1⟩
 cases hk:K.lookup a with
 | some o =>
  have e:=KX a o hk
  rw [ha] at e
  cases e
  refine core1 (fun _=>none) (fun _=>.inl rfl) (.inr ⟨_,vs.toArray,_,hk,rfl,rfl,rfl,by rw [bB,lenV];exact hl,by simpa using rv⟩) (fun b u z=>by have z':(none:Option HO)=some u:=z;cases z') (fun b z=>absurd rfl z) fun z=>absurd rfl z
 | none =>
  refine core1 (fun b=>if b=a then some (.frz { cls:=.type "list", data:=.seq vs.toArray } (.lst (ns.map V.int))) else none) (fun b=>?_) (.inl (.inr ⟨{ cls:=.type "list", data:=.seq vs.toArray },if_pos rfl⟩)) (fun b u z=>?_) (fun b z=>?_) fun _=>hk
  ·by_cases hb:b=a
   ·exact .inr ⟨_,_,if_pos hb⟩
   ·exact .inl (if_neg hb)
  ·by_cases hb:b=a
   ·have z':=(if_pos hb).symm.trans z
    cases z'
    subst hb
    exact ⟨ha,by rw [aW];exact hl,vs,_,rv,ha⟩
   ·have z':=(if_neg hb).symm.trans z
    cases z'
  ·by_cases hb:b=a
   ·exact hb
   ·exact absurd (if_neg hb) z
end L2
namespace L2
open PySem PySem.Spec PyProof.Rows
abbrev KOf {K:PySem.W.Frag} {h:Heap} (_:K.In h):PySem.W.Frag:=K
theorem JZ {l:PySem.W.OpenLaw} {n k:Nat} {q:Program} {loose:List Str} {XP:(Str→Option Value)→Heap→Prop} {YP:World→Heap→Prop} {d:DefRec} {K:Params→PySem.W.Frag} {CX:World→CXT} {sp:World→Sp} {x:Str}
 (hn:l.most=some n) (hn2:n ≤ sizeLine) (hdf:d.params.defaults=[]) (hr:Room k callerA)
 (hY:∀ (w:World) (h:Heap),YP w h→(K w.params).In h)
 (F:∀ (w:World) (mg:Str→Option Value) (fa:Addr) (h:Heap),(K w.params).In h→h.Ns mainGlobals mg→mg d.name=some (.ref fa) →
  ∃ fd:FuncData,(∀ (s:Shared) (u:Value),BindsTo s fd ⟨[u],[]⟩ [(x,u)]) ∧
   ∀ base:Heap,(K w.params).In base→base.Ns mainGlobals mg→FnOk l.prog w (K w.params) mg base (CX w) k fa fd [x] (sp w))
 (ts:List (Addr × Str × Pos)) (hts:∀ (w:World) (h:Heap),YP w h→(∀ t ∈ ts,h.get? t.1=some { cls:=.none,data:=.fields #[] })∧(∀ t ∈ ts,isCodeTable h t.1)∧∀ t ∈ ts,(K w.params).lookup t.1=none) (htu:∀ t ∈ ts,∀ t' ∈ ts,t.1=t'.1→t=t')
 (hsp:∀ (w:World) (H:Hp) (a:Addr) (ns:List Int),ns.length ≤ n→(∀ t ∈ ts,H t.1=some (.tbl t.2.1 t.2.2))→SqL (K w.params) H a (ns.map V.int)→sp w [.ref a] H (fun v _=>v = .bl true) fun _ _ _=>False)
 (hCX:∀ (w:World) (H:Hp) (s:Shared) (e:Value) (s':Shared),CX w [] H s (fun _ _ _=>False) e s'→False) :
 PySem.W.WalkO q loose XP YP l.row.toRowW d [] (fun f vs=>PySem.call f vs):=by
 refine Att.yN hn hdf fun w s₀ s₁ mg mb fa o pm cd doc a vs ns G Y ho hd hcd hmg hobj hints hlen hg=>?_
 have KX:=hY w _ Y
 obtain ⟨fd,hb,hF⟩:=F w mg fa _ KX G.T.g hmg
 exact Gv KX G.T.g G.T.b G.T.builtins G.T.nolimit G.T.bmain hg hobj hints (bV hlen hn2) hr hF hb ts (hts w _ Y).1 (hts w _ Y).2.1 (hts w _ Y).2.2 htu (fun H hO hS=>hsp w H a ns hlen hO hS) fun H e s'=>hCX w H s₁ e s'
theorem Gw {l:PySem.W.OpenLaw} {n k:Nat} {q:Program} {loose:List Str} {XP:(Str→Option Value)→Heap→Prop} {YP:World→Heap→Prop} {d:DefRec} {K:Params→PySem.W.Frag} {CX:CXT} {sp:PySem.W.Frag→Sp} {x:Str}
 (hn:l.most=some n) (hn2:n ≤ sizeLine) (hdf:d.params.defaults=[]) (hr:Room k callerA)
 (hY:∀ (w:World) (h:Heap),YP w h→(K w.params).In h)
 (F:∀ (w:World) (mg:Str→Option Value) (fa:Addr) (h:Heap),(K w.params).In h→h.Ns mainGlobals mg→mg d.name=some (.ref fa) →
  ∃ fd:FuncData,(∀ (s:Shared) (u:Value),BindsTo s fd ⟨[u],[]⟩ [(x,u)]) ∧
   ∀ base:Heap,(K w.params).In base→base.Ns mainGlobals mg→FnOk l.prog w (K w.params) mg base CX k fa fd [x] (sp (K w.params)))
 (ts:List (Addr × Str × Pos)) (hts:∀ (w:World) (h:Heap),YP w h→(∀ t ∈ ts,h.get? t.1=some { cls:=.none,data:=.fields #[] })∧(∀ t ∈ ts,isCodeTable h t.1)∧∀ t ∈ ts,(K w.params).lookup t.1=none) (htu:∀ t ∈ ts,∀ t' ∈ ts,t.1=t'.1→t=t')
 (hsp:∀ (K:PySem.W.Frag) (H:Hp) (a:Addr) (ns:List Int),ns.length ≤ n→(∀ t ∈ ts,H t.1=some (.tbl t.2.1 t.2.2))→SqL K H a (ns.map V.int)→sp K [.ref a] H (fun v _=>v = .bl true) fun _ _ _=>False)
 (hCX:∀ (H:Hp) (s:Shared) (e:Value) (s':Shared),CX [] H s (fun _ _ _=>False) e s'→False) :
 PySem.W.WalkO q loose XP YP l.row.toRowW d [] (fun f vs=>PySem.call f vs) :=
 JZ (K:=K) (CX:=fun _=>CX) (sp:=fun w=>sp (K w.params)) hn hn2 hdf hr hY F ts hts htu (fun w H a ns h1 h2 h3=>hsp (K w.params) H a ns h1 h2 h3) fun _ H s e s'=>hCX H s e s'
end L2
/- THE LAST THEOREM (shape;LID,My.* are yours):
   My.Adr: a structure of the addresses that your layer names (classes,functions);My.Txt K t: a structure (Prop) of the equations over K;
   My.txt_mk:{K} {implicit addresses ..} (e1:nsIn K mainGlobals "law" = some (some (.ref f))) (e2:K.lookup f=some ⟨oc,od,.func (fnOf "law" "law" params body scope dV kV doc pm an cdv ct),sl⟩) (e3:codeIn K cdv "law" = true) .. : ∃ t,My.Txt K t
set_option maxRecDepth 100000 in
set_option maxHeartbeats 0 in
(the tactic k_is has no namespace: write k_is) -/
namespace L2
open PySem PySem.Spec PyProof.Rows
def oX (s:Stmt):Arguments:=match s with
 | .FunctionDef _ a _ _ _ _ _ _ _ _=>a
 | _=>{ posonlyargs:=[],args:=[],vararg:=none,kwonlyargs:=[],kw_defaults:=[],kwarg:=none,defaults:=[] }
def gG (s:Stmt):List Stmt:=match s with
 | .FunctionDef _ _ b _ _ _ _ _ _ _=>b
 | _=>[]
def aO (s:Stmt):Scope:=match s with
 | .FunctionDef _ _ _ _ _ _ sc _ _ _=>sc
 | _=>{ kind:=.function,names:=[],isGenerator:=false,isCoroutine:=false }
abbrev CX0:CXT:=fun _ _ _ _ _ _=>False
abbrev E0:XK:=fun _ _ _=>False
theorem Rz {X:Cx}:Passes CX0 X E0:=fun _ _ _ _ _ _ _ h=>h.elim
structure Fun (K:PySem.W.Frag) (x qual:Str) (st:Stmt) (f:Addr) (fd:FuncData):Prop where
 ex:∃ (oc:Value) (od:Option Addr) (kV doc pm:Value) (an:Option Addr) (cdv ct:Value) (osl:Array (Option Value)),
  fd=PySem.W.fnOf x qual (oX st) (gG st) (aO st) .none kV doc pm an cdv ct∧K.lookup f=some ⟨oc,od,.func fd,osl⟩∧PySem.W.codeIn K cdv qual=true
 kp:PySem.W.keepIn K (.ref f)=true
section
variable {P:Program} {w:World} {K:PySem.W.Frag} {mg:Str→Option Value} {base:Heap}
end
section
variable {X:Cx}
end
theorem qg {A B:Prop} (h:B):if false=true then A else B:=by
 rw [if_neg eO]
 exact h
theorem pL {A B:Prop} (h:A):if true=true then A else B:=by
 rw [if_pos rfl]
 exact h
def Same (H H':Hp):Prop:=∀ b o,H b=some o→H' b=some o
theorem Same.refl (H:Hp):Same H H:=fun _ _ h=>h
theorem Same.trans {H H1 H2:Hp} (a:Same H H1) (b:Same H1 H2):Same H H2:=fun c o h=>b c o (a c o h)
theorem Same.free {H H':Hp} (e:Same H H') {l:Addr} (h:H' l=Option.none):H l=Option.none:=by
 cases q:H l with
 | none=>rfl
 | some o =>
  rw [e l o q] at h
  cases h
theorem Same.seq {K:PySem.W.Frag} {H H':Hp} {a:Addr} {xs:List V} (e:Same H H') (h:SqL K H a xs):SqL K H' a xs:=by
 rcases h with (h | ⟨o,h⟩) | h
 ·exact .inl (.inl (e _ _ h))
 ·exact .inl (.inr ⟨o,e _ _ h⟩)
 ·exact .inr h
end L2
namespace My
open PySem PySem.Spec PyProof.Rows L2
abbrev St:=L2.St
theorem gn {H:Hp} {p:Addr} (h:H p=none) (o:HO):Same H (upd H p o):=fun b u q=>by rw [dZ (jQ q h)];exact q
structure Df (K:PySem.W.Frag) (mg:Str→Option Value) (x:Str) (st:Stmt) (ps:List Str):Prop where
 ex:∃ (f:Addr) (fd:FuncData),Fun K x x st f fd∧Binds K fd ps []∧mg x=some (.ref f)
structure Has (P:Program) (w:World) (K:PySem.W.Frag) (mg:Str→Option Value) (base:Heap) (n:Nat) (x:Str) (ps:List Str) (sp:Sp):Prop where
 ex:∃ (f:Addr) (fd:FuncData),FnOk P w K mg base CX0 n f fd ps sp∧Binds K fd ps []∧PySem.W.keepIn K (.ref f)=true∧mg x=some (.ref f)
section
variable {P:Program} {w:World} {K:PySem.W.Frag} {mg:Str→Option Value} {base:Heap} {x:Str} {ps N:List Str} {sp:Sp} {st:Stmt} {k n:Nat}
theorem Has.mono (h:Has P w K mg base k x ps sp) (l:k ≤ n):Has P w K mg base n x ps sp:=by
 obtain ⟨f,fd,F,b,kp,m⟩:=h.ex
 exact ⟨f,fd,F.mono l,b,kp,m⟩
end
section
variable {X:Cx} {x:Str} {ps:List Str} {sp:Sp} {n:Nat} {p pos:Pos} {e:Expr} {es:List Expr} {t:TA}
theorem yO (h:Has X.prog X.w X.K X.mg X.base n x ps sp) (hr:Room n X.A) (ha:PA X (e :: es) t) (hg:Gl X x:=by rfl) (hdb:(x == ("__debug__" : Str))=false:=by decide)
 (he:starEach (e :: es) X.env=(false,eval e X.env) :: starEach es X.env:=by rfl) (hpl:(backTo pos (starEach es X.env)).any (·.1)=false:=by rfl) :
 PE X (.Call (.Name x p) (e :: es) [] pos) (M4 sp [] E0 t):=by
 obtain ⟨f,fd,F,b,kp,m⟩:=h.ex
 exact JN F hr hg m kp b .nil Rz ha hdb he hpl
end
mutual
inductive RdV (K:PySem.W.Frag) (H:Hp):V→PyData→Prop
 | non:RdV K H .non .none
 | bl (b:Bool):RdV K H (.bl b) (.bool b)
 | int (i:Int):RdV K H (.int i) (.int i)
 | str (x:Str):RdV K H (.str x) (.str x)
 | lst {a:Addr} {xs:List V} {ds:List PyData}:SqL K H a xs→RdVs K H xs ds→RdV K H (.ref a) (.list ds)
 | tup {a:Addr} {xs:List V} {ds:List PyData}:SqT K H a xs→RdVs K H xs ds→RdV K H (.ref a) (.tuple ds)
inductive RdVs (K:PySem.W.Frag) (H:Hp):List V→List PyData→Prop
 | nil:RdVs K H [] []
 | cons {v:V} {d:PyData} {vs:List V} {ds:List PyData}:RdV K H v d→RdVs K H vs ds→RdVs K H (v :: vs) (d :: ds)
end
section
variable {X:Cx} {pins:List (Addr × Obj)} {σ:St} {H:Hp} {s:Shared}
mutual
theorem RdV.reads (I:Inv X pins σ H s):∀ {v:V} {d:PyData},RdV X.K H v d→∀ {u:Value},RelV v u→∃ as,Reads s.heap u d as
 | _,_,.non,_,r=>by cases r;exact ⟨_,.none⟩
 | _,_,.bl b,_,r=>by cases r;exact ⟨_,.bool b⟩
 | _,_,.int i,_,r=>by obtain ⟨t,rfl⟩:=r;exact ⟨_,.int i t⟩
 | _,_,.str x,_,r=>by obtain ⟨t,rfl⟩:=r;exact ⟨_,.str x t⟩
 | _,_,.lst h q,_,r=>by
  cases r
  obtain ⟨its,rv,⟨o,n,e,c,_,d⟩,_⟩:=I.list h
  obtain ⟨as,z⟩:=RdVs.reads I q rv
  exact ⟨_,.list e c d (by simpa using z)⟩
 | _,_,.tup h q,_,r=>by
  cases r
  obtain ⟨its,rv,⟨o,e,c,n,d⟩,_⟩:=I.tuple h
  obtain ⟨as,z⟩:=RdVs.reads I q rv
  exact ⟨_,.tuple e c d (by simpa using z)⟩
theorem RdVs.reads (I:Inv X pins σ H s):∀ {vs:List V} {ds:List PyData},RdVs X.K H vs ds→∀ {us:List Value},Vals vs us→∃ as,ReadsAll s.heap us ds as
 | _,_,.nil,_,r=>by cases r;exact ⟨_,.nil⟩
 | _,_,.cons h q,_,r=>by
  cases r with
  | cons r1 r2 =>
   obtain ⟨as,z⟩:=RdV.reads I h r1
   obtain ⟨bs,y⟩:=RdVs.reads I q r2
   exact ⟨_,.cons z y⟩
end
end
section
variable {X:Cx}
def RB (K:PySem.W.Frag):R2:=fun x y H Q=>∃ da db,RdV K H x da∧RdV K H y db∧SeqAt.shaped da=true∧SeqAt.shaped db=true∧Q (.bl (PyData.eqv da db)) H
def RD (K:PySem.W.Frag):R2:=fun x y H Q=>∃ da db,RdV K H x da∧RdV K H y db∧SeqAt.shaped da=true∧SeqAt.shaped db=true∧Q (.bl (!PyData.eqv da db)) H
theorem i_ (hu:X.A.units + 64 < cLine):OpR X (compareOp .Eq) (RB X.K):=by
 intro pins s σ H x y v u Q I rx ry h
 obtain ⟨da,db,ha,hb,sa,sb,q⟩:=h
 obtain ⟨as,za⟩:=ha.reads I rx
 obtain ⟨bs,zb⟩:=hb.reads I ry
 exact SeqAt.compareEq_shaped za zb sa sb hu ⟨.bl _,H,I,rfl,q⟩
theorem mj (hu:X.A.units + 64 < cLine):OpR X (compareOp .NotEq) (RD X.K):=by
 intro pins s σ H x y v u Q I rx ry h
 obtain ⟨da,db,ha,hb,sa,sb,q⟩:=h
 obtain ⟨as,za⟩:=ha.reads I rx
 obtain ⟨bs,zb⟩:=hb.reads I ry
 exact SeqAt.compareNe_shaped za zb sa sb hu ⟨.bl _,H,I,rfl,q⟩
end
def isT (c T:String):Bool:=T == c || (T == "bool" && c == "int")
section
variable {K:PySem.W.Frag}
theorem Oj (h:c = "int" ∨ c = "bool" ∨ c = "tuple" ∨ c = "list" ∨ c = "str") (g:T = "NoneType" ∨ T = "bool" ∨ T = "int" ∨ T = "str" ∨ T = "list" ∨ T = "tuple" ∨ T = "dict") :
 PySem.W.kitOne K (.type T) (.type c)=some (isT c T):=by
 rcases h with rfl | rfl | rfl | rfl | rfl <;> rcases g with rfl | rfl | rfl | rfl | rfl | rfl | rfl <;> kernel_rfl
end
section
variable {X:Cx}
end
end My
namespace My
open PySem PySem.Spec PyProof.Rows L2
section
variable {X:Cx} {a b c d:Expr} {ta tb tc td:TE} {pos:Pos}
def J0 (r r' r'':R2) (ta tb tc td:TE):TE:=fun σ H Q=>ta σ H fun x H1=>tb σ H1 fun y H2=>r x y H2 fun z H3=>∃ k,z = .bl k ∧
 (if k=true then tc σ H3 fun w' H4=>r' y w' H4 fun z' H5=>∃ k',z' = .bl k'∧(if k'=true then td σ H5 fun v' H6=>r'' w' v' H6 Q else Q (.bl false) H5) else Q (.bl false) H3)
theorem DQ {op op' op'':CmpOp} {r r' r'':R2} (ho:OpR X (compareOp op) r) (ho':OpR X (compareOp op') r') (ho'':OpR X (compareOp op'') r'') (ha:PE X a ta) (hb:PE X b tb) (hc:PE X c tc) (hd:PE X d td)
 (hm:lastMarks [op,op',op''] [b,c,d]=false:=by with_unfolding_all rfl):PE X (.Compare a [op,op',op''] [b,c,d] pos) (J0 r r' r'' ta tb tc td):=by
 intro pins s σ H Q I h
 refine Compare_chain (thn (ha pins s σ H _ I h) fun v s1 ⟨x,H1,I1,r1,q1⟩=>chain_link (thn (hb pins s1 σ H1 _ I1 q1) fun u s2 ⟨y,H2,I2,r2,q2⟩ =>
  thn (ho pins s2 σ H2 x y v u _ I2 r1 r2 q2) fun d s3 ⟨z,H3,I3,r3,k,e,q3⟩=>?_)) hm
 subst e
 cases r3
 refine wpAny_truthy_bool ?_
 cases k with
 | false=>exact ite_ff ⟨.bl false,H3,I3,rfl,q3⟩
 | true =>
  refine ite_tt (chain_link (thn (hc pins s3 σ H3 _ I3 q3) fun w' s4 ⟨z',H4,I4,r4,q4⟩=>thn (ho' pins s4 σ H4 y z' u w' _ I4 r2 r4 q4) fun d' s5 ⟨z2,H5,I5,r5,k2,e2,q5⟩=>?_))
  subst e2
  cases r5
  refine wpAny_truthy_bool ?_
  cases k2 with
  | false=>exact ite_ff ⟨.bl false,H5,I5,rfl,q5⟩
  | true=>exact ite_tt (chain_last (thn (hd pins s5 σ H5 _ I5 q5) fun w3 s6 ⟨z3,H6,I6,r6,q6⟩=>ho'' pins s6 σ H6 z' z3 w' w3 Q I6 r4 r6 q6))
end
structure Blt (mg:Str→Option Value):Prop where
 len_:mg "len" = none
 range_:mg "range" = none
 abs_:mg "abs" = none
 isinstance_:mg "isinstance" = none
 int_:mg "int" = none
 bool_:mg "bool" = none
 tuple_:mg "tuple" = none
 max_:mg "max" = none
 min_:mg "min" = none
end My
namespace My
open PySem PySem.Spec PyProof.Rows L2
abbrev cx (P:Program) (w:World) (K:PySem.W.Frag) (mg:Str→Option Value) (base:Heap) (N:List Str) (x:Str) (st:Stmt) (f:Addr) (cdv:Value) (A:Around) (outer:List Env) (s:Shared) (H:Hp) (E:XK):Cx :=
 (fM CX0 P w K mg base N x (aO st) f cdv A outer s H E).nox
end My
namespace My
open PySem PySem.Spec PyProof.Rows L2
def m9 (env:Env):List (Str × NameKind)→List (Str × Addr)→List (Str × Addr)
 | [],cs=>cs
 | (n,k) :: r,cs=>if (k == NameKind.free)=true then m9 env r ((n,(env.cells.lookup n).getD 0) :: cs) else m9 env r cs
theorem pN {env:Env}:∀ (l:List (Str × NameKind)) (cs:List (Str × Addr)),(∀ x ∈ l,x.2 = .free→∃ c,env.cells.lookup x.1=some c) →
 (forIn l cs fun (x:Str × NameKind) (r:List (Str × Addr))=>(if (x.2 == NameKind.free)=true then (do let c ← cellOf env x.1;pure (ForInStep.yield ((x.1,c) :: r))) else pure (ForInStep.yield r):Sem (ForInStep (List (Str × Addr)))))=pure (m9 env l cs)
 | [],_,_=>rfl
 | (n,k) :: r,cs,h=>by
  rw [List.forIn_cons]
  by_cases hk:(k == NameKind.free)=true
  ·obtain ⟨c,hc⟩:=h (n,k) aJ (beq_iff_eq.mp hk)
   have hc':cellOf env n=pure c:=by
    unfold cellOf
    rw [show env.cells.lookup n=some c from hc]
   show (do let x ← (if (k == NameKind.free)=true then (do let c ← cellOf env n;pure (ForInStep.yield ((n,c) :: cs))) else pure (ForInStep.yield cs):Sem (ForInStep (List (Str × Addr))));_)=_
   rw [if_pos hk,hc']
   have ih:=pN r ((n,c) :: cs) fun x hx=>h x (aH _ hx)
   rw [m9,if_pos hk,show env.cells.lookup n=some c from hc]
   exact ih
  ·show (do let x ← (if (k == NameKind.free)=true then (do let c ← cellOf env n;pure (ForInStep.yield ((n,c) :: cs))) else pure (ForInStep.yield cs):Sem (ForInStep (List (Str × Addr))));_)=_
   rw [if_neg hk]
   have ih:=pN r cs fun x hx=>h x (aH _ hx)
   rw [m9,if_neg hk]
   exact ih
theorem Af {env:Env} {scope:Scope} (h:∀ x ∈ scope.names,x.2 = .free→∃ c,env.cells.lookup x.1=some c):closureFor scope env=pure (m9 env scope.names []):=by
 have z:=pN (env:=env) scope.names [] h
 show (forIn scope.names [] fun (x:Str × NameKind) (r:List (Str × Addr))=>(if (x.2 == NameKind.free)=true then (do let c ← cellOf env x.1;pure (ForInStep.yield ((x.1,c) :: r))) else pure (ForInStep.yield r):Sem (ForInStep (List (Str × Addr))))) >>= (fun cs=>pure cs)=_
 rw [z]
 rfl
theorem ur {env:Env}:∀ (l:List (Str × NameKind)) (cs:List (Str × Addr)),(∀ x ∈ l,x.2 = .free→∃ c,env.cells.lookup x.1=some c)→(∀ x c,cs.lookup x=some c→env.cells.lookup x=some c) →
 ∀ x c,(m9 env l cs).lookup x=some c→env.cells.lookup x=some c
 | [],_,_,hc,x,c,e=>hc x c e
 | (n,k) :: r,cs,h,hc,x,c,e=>by
  rw [m9] at e
  by_cases hk:(k == NameKind.free)=true
  ·rw [if_pos hk] at e
   obtain ⟨d,hd⟩:=h (n,k) aJ (beq_iff_eq.mp hk)
   refine ur r _ (fun x hx=>h x (aH _ hx)) (fun y c' e'=>?_) x c e
   rw [cV] at e'
   cases hy:y == n with
   | true =>
    rw [hy] at e'
    have:y=n:=beq_iff_eq.mp hy
    subst this
    rw [show env.cells.lookup y=some d from hd] at e' ⊢
    exact e'
   | false =>
    rw [hy] at e'
    exact hc y c' e'
  ·rw [if_neg hk] at e
   exact ur r cs (fun x hx=>h x (aH _ hx)) hc x c e
theorem oA {env:Env}:∀ (l:List (Str × NameKind)) (cs:List (Str × Addr)) (x:Str),((x,NameKind.free) ∈ l∨∃ c,cs.lookup x=some c)→∃ c,(m9 env l cs).lookup x=some c
 | [],_,x,h=>by
  rcases h with h | h
  ·exact absurd h (by simp)
  ·exact h
 | (n,k) :: r,cs,x,h=>by
  rw [m9]
  by_cases hk:(k == NameKind.free)=true
  ·rw [if_pos hk]
   refine oA r _ x ?_
   by_cases e:x=n
   ·subst e
    exact .inr ⟨_,by rw [cV,beq_self_eq_true]⟩
   ·rcases h with h | ⟨c,h⟩
    ·rcases aZ.mp h with h | h
     ·exact absurd (congrArg Prod.fst h) e
     ·exact .inl h
    ·exact .inr ⟨c,by rw [cV,beq_eq_false_iff_ne.mpr e];exact h⟩
  ·rw [if_neg hk]
   refine oA r cs x ?_
   rcases h with h | h
   ·rcases aZ.mp h with h | h
    ·have:k = .free:=(congrArg Prod.snd h).symm
     subst this
     exact absurd rfl hk
    ·exact .inl h
   ·exact .inr h
abbrev blk (X:Cx) (N':List Str) (scope:Scope) (cl:List (Str × Addr)) (C:Addr) (s3:Shared) (H3:Hp) (fp:List Addr):Cx :=
 { X with N:=N',s₀:=s3,H₀:=H3,env:=compEnvC scope cl C X.env,outer:=X.stack,ex:=fp,fn:=fun _=>false,xe:=fun _ _=>False }
def uw (N:List Str) (kinds sn:List (Str × NameKind)):List Str→List Nat→Bool
 | [],[]=>true
 | x :: V,j :: ix=>(N[j]? == some x) && ((kinds.lookup x == some NameKind.cell) && ((sn.lookup x == some NameKind.free) && uw N kinds sn V ix))
 | _,_=>false
def vH (t:Nat) (ix:List Nat) (σ:St):St:=aG t none++ix.map fun j=>(σ[j]?).getD none
theorem ux {N:List Str} {kinds sn:List (Str × NameKind)}:∀ {V:List Str} {ix:List Nat},uw N kinds sn V ix=true→ix.length=V.length∧∀ (k:Nat) (x:Str),V[k]? = some x→∃ j,ix[k]? = some j∧N[j]? = some x∧kinds.lookup x=some .cell∧sn.lookup x=some .free
 | [],[],_=>⟨rfl,fun k x h=>by simp at h⟩
 | x :: V,j :: ix,h=>by
  rw [uw,bw,bw,bw] at h
  obtain ⟨h1,h2,h3,h4⟩:=h
  obtain ⟨l,r⟩:=ux h4
  refine ⟨by simp [l],fun k y hy=>?_⟩
  cases k with
  | zero =>
   simp at hy
   subst hy
   exact ⟨j,rfl,beq_iff_eq.mp h1,beq_iff_eq.mp h2,beq_iff_eq.mp h3⟩
  | succ k=>exact r k y (by simpa using hy)
 | [],_ :: _,h=>by simp [uw] at h
 | _ :: _,[],h=>by simp [uw] at h
theorem qj {env:Env} (hf:env.scope.kind = .function):∀ {names:List (Str × NameKind)} {x:Str},names.lookup x=some .free→env.kindOf x=some .cell →
 (names.map fun (n,k)=>if (k == NameKind.free && env.scope.kind == .function && env.kindOf n == some .cell) then (n,NameKind.cell) else (n,k)).lookup x=some .cell
 | [],_,h,_=>by simp at h
 | (n,k) :: r,x,h,hc=>by
  have ih:=@qj env hf r x
  show List.lookup x ((if (k == NameKind.free && env.scope.kind == .function && env.kindOf n == some .cell)=true then (n,NameKind.cell) else (n,k)) :: _)=_
  cases hx:x == n with
  | true =>
   have e:x=n:=beq_iff_eq.mp hx
   subst e
   simp only [cV,hx] at h
   cases h
   rw [if_pos (by rw [hf,hc];rfl)]
   simp [cV]
  | false =>
   simp only [cV,hx] at h
   by_cases hq:(k == NameKind.free && env.scope.kind == .function && env.kindOf n == some .cell)=true
   ·rw [if_pos hq];simp only [cV,hx];exact ih h hc
   ·rw [if_neg hq];simp only [cV,hx];exact ih h hc
theorem m_ {env:Env}:∀ {names:List (Str × NameKind)} {x:Str} {k:NameKind},(∀ y ∈ names,y.2 ≠ .cell)→(k = .cell∨k = .free) →
 (names.map fun (n,k)=>if (k == NameKind.free && env.scope.kind == .function && env.kindOf n == some .cell) then (n,NameKind.cell) else (n,k)).lookup x=some k→(x,NameKind.free) ∈ names
 | [],_,_,_,_,h=>by simp at h
 | (n,k') :: r,x,k,hc,hk,h=>by
  have ih:=@m_ env r x k (fun y hy=>hc y (aH _ hy)) hk
  have h':List.lookup x ((if (k' == NameKind.free && env.scope.kind == .function && env.kindOf n == some .cell)=true then (n,NameKind.cell) else (n,k')) :: (r.map fun (n,k)=>if (k == NameKind.free && env.scope.kind == .function && env.kindOf n == some .cell) then (n,NameKind.cell) else (n,k)))=some k:=h
  by_cases hq:(k' == NameKind.free && env.scope.kind == .function && env.kindOf n == some .cell)=true
  ·rw [if_pos hq] at h'
   have kf:k' = .free:=by
    rw [bw,bw] at hq
    exact beq_iff_eq.mp hq.1.1
   cases hx:x == n with
   | true =>
    have e:x=n:=beq_iff_eq.mp hx
    subst e
    subst kf
    exact aJ
   | false =>
    simp only [cV,hx] at h'
    exact aH _ (ih h')
  ·rw [if_neg hq] at h'
   cases hx:x == n with
   | true =>
    have e:x=n:=beq_iff_eq.mp hx
    subst e
    simp only [cV,hx] at h'
    cases h'
    rcases hk with hk | hk
    ·exact absurd hk (hc _ aJ)
    ·subst hk
     exact aJ
   | false =>
    simp only [cV,hx] at h'
    exact aH _ (ih h')
section
variable {X:Cx} {pins:List (Addr × Obj)} {σ:St} {H:Hp} {s:Shared}
theorem Inv.forget {σ':St} (I:Inv X pins σ H s) (hl:σ'.length=X.N.length) (h:∀ (i:Nat) (v:V),σ'[i]? = some (some v)→σ[i]? = some (some v)):Inv X pins σ' H s:=by
 obtain ⟨m,hn,hx⟩:=I.loc
 exact ⟨I.ok,I.os,I.bare,I.base,⟨m,hn,fun i x v e1 e2 e3=>hx i x v e1 (h i v e2) e3⟩,I.cell,I.free,I.freeC,I.pin,I.hok,hl⟩
end
end My
namespace My
open PySem PySem.Spec PyProof.Rows L2
theorem yP {prog:Program} {w:World} {A:Around} {R:Result→Shared→Prop} {elt target iter:Expr} {ifs:List Expr} {scope:Scope} {pos:Pos} {it acc:Value} {env:Env} {s:Shared} (I:Nat→Shared→Prop)
 (turn:∀ n s,I n s→wpAny (model prog w) A (pyNext it) (fun r s₁=>match r with
  | none=>R (.ok .next) s₁
  | some v=>wpAny (model prog w) A (letOwnedTupleGo target it v) (fun _ s₁'=>wpAny (model prog w) A (assign target env v) (fun _ s₂ =>
   wpAny (model prog w) A (forIn ifs true fun c r=>if r=true then do let ok ← isTrue c env (eval c env);pure (ForInStep.yield ok) else pure (ForInStep.yield r)) (fun ok s₃ =>
    if ok=true then wpAny (model prog w) A (eval elt env) (fun x s₄ =>
     wpAny (model prog w) A (call (.builtin "list.append") [acc,x]) (fun _ s₅=>∃ m,m < n∧I m s₅) (fun _ _=>False) s₄) (fun _ _=>False) s₃
    else ∃ m,m < n∧I m s₃) (fun _ _=>False) s₂) (fun _ _=>False) s₁') (fun _ _=>False) s₁) (fun _ _=>False) s)
 (n:Nat) (h:I n s) :
 codeAny (model prog w) A (.compLoop (.ListComp elt [⟨target,iter,ifs,0⟩] scope pos) 0 it acc env) R s:=by
 refine codeAny_loop rfl I (fun n s hI=>?_) n h
 show wpAny _ A ((compTurn (.ListComp elt [⟨target,iter,ifs,0⟩] scope pos) 0 it acc env).onRaise (fun x=>do noteFrame x env;theTreesLotGoes x)) _ _ s
 refine wpAny_noted ?_
 rw [compTurn_list]
 refine wpAny_bind (wpAny_standAt (wpAny_bind (wpAny_mono (turn n s hI) (fun r s₁ h₁=>?_) fun _ _ h'=>h'.elim)))
 cases r with
 | none=>exact wpAny_pure h₁
 | some v =>
  refine wpAny_bind (wpAny_mono h₁ (fun _ s₁' h₁'=>?_) fun _ _ h'=>h'.elim)
  refine wpAny_bind (wpAny_mono h₁' (fun _ s₂ h₂=>wpAny_bind (wpAny_mono h₂ (fun ok s₃ h₃=>?_) fun _ _ h'=>h'.elim)) fun _ _ h'=>h'.elim)
  cases ok with
  | false=>exact wpAny_pure ⟨rfl,h₃⟩
  | true =>
   exact wpAny_bind (wpAny_bind (wpAny_mono h₃ (fun x s₄ h₄=>wpAny_bind (wpAny_mono h₄ (fun _ s₅ h₅=>wpAny_pure (wpAny_pure ⟨rfl,h₅⟩)) fun _ _ h'=>h'.elim)) fun _ _ h'=>h'.elim))
section
variable {X:Cx} {pins:List (Addr × Obj)} {σ:St} {H:Hp}
theorem DR {T V:List Str} {ix:List Nat} {scope:Scope} {s3:Shared} {fp:List Addr} {h₁:Heap} {tk:Nat} {m:Str→Option Value}
 (I:Inv X pins σ H s3) (hf:∀ b ∈ fp,rD X pins H b) (ho:∀ b ∈ fp,∃ o,s3.heap.get? b=some o)
 (hk:scope.kind = .function) (hcell:∀ y ∈ scope.names,y.2 ≠ .cell) (hfr:∀ x ∈ scope.names,x.2 = .free→x.1 ∈ V) (hB:uw X.N X.env.scope.names scope.names V ix=true)
 (hns:h₁.Ns s3.heap.objs.size m) (keep:∀ b o,s3.heap.get? b=some o→h₁.get? b=some o) :
 Inv (blk X (T++V) scope (m9 X.env scope.names []) s3.heap.objs.size s3 H fp) pins (vH T.length ix σ) H { s3 with heap:=h₁,toks:=tk }:=by
 obtain ⟨lV,capV⟩:=ux hB
 have hcl:∀ x ∈ scope.names,x.2 = .free→∃ c,X.env.cells.lookup x.1=some c:=fun x hx e=>by
  obtain ⟨k,ek⟩:=nZ (hfr x hx e)
  obtain ⟨j,_,_,hc,_⟩:=capV k _ ek
  exact I.ok.has _ (.inl hc)
 have sub:=ur (env:=X.env) scope.names [] hcl (fun x c e=>by simp at e)
 have stkSub:∀ b,b ∈ frs X.stack→b=X.env.locals∨b ∈ X.fs:=fun b z=>aZ.mp (I.stkSub b z)
 have lt:∀ b o,s3.heap.get? b=some o→b ≠ s3.heap.objs.size:=fun b o e=>bR (Heap.lt_size e)
 have cellK:∀ c v,s3.heap.IsCell c v→h₁.IsCell c v:=fun c v ⟨o,e,d⟩=>⟨o,keep c o e,d⟩
 refine ⟨⟨I.ok.mod,hk,I.ok.glob,I.ok.blt,bA _,fun x y c e1 e2=>I.ok.inj x y c (sub x c e1) (sub y c e2),fun x hx=>?_,fun x c hx=>?_,I.ok.hd,I.ok.frames,.inl rfl,fun b hb=>⟨?_,fun x c e=>?_⟩,I.bs,bV I.ok.bsz I.sz,fun b o e hb=>?_,fun b hb z=>?_,I.stack,I.stkFree⟩,
  rfl,I.bare,Un.kept keep,⟨m,hns,fun i x v e1 e2 e3=>?_⟩,fun x c e=>?_,I.hok.fresh (bA _),fun x c e=>I.freeC x c (sub x c e),fun p hp=>?_,I.hok.kept keep,?_⟩
 ·rcases hx with hx | hx
  ·exact oA _ _ x (.inl (m_ hcell (.inl rfl) hx))
  ·exact oA _ _ x (.inl (m_ hcell (.inr rfl) hx))
 ·exact absurd hx (by simp)
 ·obtain ⟨o,e⟩:=ho b hb
  exact lt b o e
 ·exact (hf b hb).2.2.2.2.1 x c (sub x c e)
 ·rcases (hf b hb).2.2.2.1 with z | z
  ·exact I.ok.noex b o e z
  ·exact absurd (bL (Heap.lt_size e) (bV I.ok.bsz z)) (iM _)
 ·rcases stkSub b z with z | z
  ·exact (hf b hb).2.1 z
  ·exact (hf b hb).2.2.1 z
 ·by_cases hi:i < T.length
  ·have e2':(aG T.length none++ix.map fun j=>(σ[j]?).getD none)[i]? = some (some v):=e2
   rw [dG (by rw [aL];exact hi),cH,if_pos hi] at e2'
   exact absurd e2' (by simp)
  ·have e1':(T++V)[i]? = some x:=e1
   rw [dg (by omega)] at e1'
   obtain ⟨j,hj,hN,hc,hfree⟩:=capV _ x e1'
   have e2':(aG T.length none++ix.map fun j=>(σ[j]?).getD none)[i]? = some (some v):=e2
   rw [dg (by rw [aL];omega),aL,bG,hj] at e2'
   have e2'':(σ[j]?).getD none=some v:=by simpa using e2'
   have e3':σ[j]? = some (some v):=by
    cases q:σ[j]? with
    | none=>rw [q] at e2'';exact absurd e2'' (by simp)
    | some o=>rw [q] at e2'';simp at e2'';rw [e2'']
   obtain ⟨m0,hn0,hl⟩:=I.loc
   obtain ⟨u,r,l⟩:=hl j x v hN e3' (.inr (.inl hc))
   rcases l with ⟨z,_⟩ | ⟨_,c,ec,hcell'⟩
   ·have z':X.env.scope.names.lookup x=some .local:=z
    rw [hc] at z'
    exact absurd z' (by simp)
   ·obtain ⟨c',ec'⟩:=oA (env:=X.env) scope.names [] x (.inl (PySem.mem_of_lookup hfree))
    have:c'=c:=by
     have q:=sub x c' ec'
     rw [ec] at q
     exact (dM.inj q).symm
    subst this
    exact ⟨u,r,.inr ⟨.inl (qj I.ok.kind hfree hc),c',ec',cellK _ _ hcell'⟩⟩
 ·obtain ⟨v,z⟩:=I.cell x c (sub x c e)
  exact ⟨v,cellK c v z⟩
 ·obtain ⟨e,n,ne,nf,d⟩:=I.pin p hp
  refine ⟨keep _ _ e,n,lt _ _ e,fun z=>?_,d⟩
  rcases stkSub p.1 z with z | z
  ·exact ne z
  ·exact nf z
 ·show (aG T.length none++ix.map fun j=>(σ[j]?).getD none).length=(T++V).length
  rw [bW,aL,aW,bW,lV]
theorem jU {N':List Str} {scope:Scope} {cl:List (Str × Addr)} {pins':List (Addr × Obj)} {σ':St} {H3 H':Hp} {s3 s':Shared} {fp:List Addr} (I3:Inv X pins σ H3 s3) (hf:∀ b ∈ fp,rD X pins H3 b)
 (I':Inv (blk X N' scope cl s3.heap.objs.size s3 H3 fp) pins' σ' H' s'):Inv X pins σ H' s'∧rD X pins H' s3.heap.objs.size:=by
 have fr:H' s3.heap.objs.size=none:=I'.free
 refine ⟨?_,I3.fpOk (bA _) fr⟩
 have os:s'.os=s3.os:=I'.os
 have u:Un (frs X.stack) fp H3 H' s3.heap s'.heap:=I'.base
 have ho:=I'.hok
 have hb:=I'.bare
 obtain ⟨hh,g,d,t,os'⟩:=s'
 obtain rfl:os'=s3.os:=os
 exact I3.call (h':=hh) (g':=g) (d':=d) (t':=t) (ch:=fp) u ho hb fun b hb'=>⟨(hf b hb').2.2.2.1,(hf b hb').2.1,(hf b hb').2.2.2.2.1,(hf b hb').2.2.2.2.2⟩
end
def PTs (X:Cx) (ifs:List Expr) (t:TT):Prop :=
 ∀ (pins:List (Addr × Obj)) (s:Shared) (σ:St) (H:Hp) (Q:Bool→Hp→Prop),Inv X pins σ H s→t σ H Q →
  wpAny (model X.prog X.w) X.A (forIn ifs true fun c r=>if r=true then do let ok ← isTrue c X.env (eval c X.env);pure (ForInStep.yield ok) else pure (ForInStep.yield r)) (TP X pins σ Q) X.xe s
def gH:TT:=fun _ H Q=>Q true H
theorem J4 {X:Cx}:PTs X [] gH:=fun _ _ _ H _ I h=>wpAny_tests_nil ⟨H,I,h⟩
theorem oY {X:Cx} {c:Expr} {t:TT} (h:PT X c t):PTs X [c] t:=fun pins s σ H Q I q=>wpAny_tests_one (h pins s σ H Q I q)
def Cg (wi:TI) (g:TG) (tt:TT) (te:TE) (t:Nat) (cap:St→St):TE:=fun σ H Q=>wi σ H fun J H1=>∀ D,H1 D=none→∃ W:Nat→Nat→List V→Hp→Prop,(∃ m,W 0 m [] (upd H1 D (.lst []))) ∧
 ∀ i m xs H2,W i m xs H2→H2 D=some (.lst xs)∧((J.stop i H2∧Q (.ref D) H2)∨(J.go i H2∧xs.length < sizeLine∧∀ x H3,J.yld i H2 x H3→g x (cap σ) H3 fun σ4 H4=>σ4.drop t=(cap σ).drop t ∧
  tt σ4 H4 fun b H5=>if b=true then te σ4 H5 fun v H6=>H6 D=some (.lst xs)∧∃ m',m' < m∧W (i + 1) m' (xs++[v]) (upd H6 D (.lst (xs++[v]))) else ∃ m',m' < m∧W (i + 1) m' xs H5))
section
variable {X:Cx} {elt tg iter:Expr} {ifs:List Expr} {scope:Scope} {pos:Pos} {T V:List Str} {ix:List Nat} {wi:TI} {g:TG} {tt:TT} {te:TE}
theorem v9 (hc:X.calm=true) (hi:PI X tg iter wi)
 (hg:∀ cl C s3 H3 fp,PG (blk X (T++V) scope cl C s3 H3 fp) tg g) (ht:∀ cl C s3 H3 fp,PTs (blk X (T++V) scope cl C s3 H3 fp) ifs tt) (he:∀ cl C s3 H3 fp,PE (blk X (T++V) scope cl C s3 H3 fp) elt te)
 (hB:uw X.N X.env.scope.names scope.names V ix=true) (hk:scope.kind = .function) (hcell:∀ y ∈ scope.names,y.2 ≠ .cell) (hnames:∀ x ∈ scope.names,x.2 = .local→scope.names.lookup x.1=some .local)
 (hfr:∀ x ∈ scope.names,x.2 = .free→x.1 ∈ V) (hs:∀ x,foldedSetIterable iter X.env x=pure x) {p:Pos}
 {pins:List (Addr × Obj)} {s:Shared} {σ:St} {H:Hp} (I:Inv X pins σ H s) {use:Option (Value→Sem Unit)} {Qp:Value→Shared→Prop} {Qv:VK} (h:Cg wi g tt te T.length (vH T.length ix) σ H Qv)
 (fin:∀ (D C:Addr) (H':Hp) (s':Shared) (m:Str→Option Value),Inv X pins σ H' s'→rD X pins H' C→s'.heap.Ns C m→Qv (.ref D) H'→compPost (model X.prog X.w) X.A X.xe use Qp (.ref D) C (.ok .next) s') :
 wpAny (model X.prog X.w) X.A (comprehension (.ListComp elt [⟨tg,iter,ifs,0⟩] scope pos) scope X.env p (newList []) false (eval iter X.env) use) Qp X.xe s:=by
 obtain ⟨lV,capV⟩:=ux hB
 have hcl:∀ x ∈ scope.names,x.2 = .free→∃ c,X.env.cells.lookup x.1=some c:=fun x hx e=>by
  obtain ⟨k,ek⟩:=nZ (hfr x hx e)
  obtain ⟨j,_,_,hc',_⟩:=capV k _ ek
  exact I.ok.has _ (.inl hc')
 refine wpAny_comprehension_free rfl hs (Af hcl) hk hnames ?_
 refine thn (hi pins s σ H _ I h) fun v s1 h1=>thn h1 fun itv s2 h2=>?_
 obtain ⟨it,fp,tn,J,H2,e,I2,Tn,st2,f2,R⟩:=h2
 subst e
 refine wpAny_newObj_type (hd:=by size_fits) ?_
 have hD:H2 s2.heap.objs.size=none:=I2.hok.fresh (bA _)
 have I3:Inv X pins σ (upd H2 s2.heap.objs.size (.lst [])) { s2 with heap:=s2.heap.push { cls:=.type "list", dict:=none,data:=.seq ([]:List Value).toArray } } :=
  I2.laid (t':=s2.toks) (fun b o e=>Heap.get?_push_of_some _ e) (bA _) ⟨eZ _,[],0,.nil,Heap.get?_push_size _ rfl⟩
 obtain ⟨W,⟨m0,w0⟩,turn⟩:=R s2.heap.objs.size hD
 generalize hs3:({ s2 with heap:=s2.heap.push { cls:=.type "list", dict:=none,data:=.seq ([]:List Value).toArray } }:Shared)=s3 at I3 ⊢
 have st3:tn 0 s3.heap:=by
  rw [← hs3]
  exact Tn.keep 0 s2.heap _ st2 fun b hb o e=>Heap.get?_push_of_some _ e
 have f3:∀ b ∈ fp,rD X pins (upd H2 s2.heap.objs.size (.lst [])) b:=fun b hb=>by
  obtain ⟨z0,z1⟩:=f2 b hb
  refine ⟨?_,z1⟩
  obtain ⟨o,eo,_⟩:=Tn.obj 0 _ st2 b hb
  rw [dZ (bR (Heap.lt_size eo))]
  exact z0
 generalize hH3:upd H2 s2.heap.objs.size (.lst [])=H3 at I3 f3 w0
 generalize hDn:s2.heap.objs.size=D at turn
 refine wpAny_newFunctionEnv hcell (by intro y hy;simp at hy) (fun h₁ hns₁ hsb₁=>?_) hk
 have keep:∀ b o,s3.heap.get? b=some o→h₁.get? b=some o:=fun b o e=>hsb₁.extBut b o (bR (Heap.lt_size e)) (Heap.get?_push_of_some _ e)
 have I4:=DR (T:=T) (tk:=s3.toks + ([]:List (Str × Value)).length) I3 f3 (fun b hb=>let ⟨o,eo,_⟩:=Tn.obj 0 _ st3 b hb;⟨o,eo⟩) hk hcell hfr hB hns₁ keep
 have st4:tn 0 h₁:=Tn.keep 0 _ _ st3 fun b hb o e=>keep b o e
 have loop:codeAny (model X.prog X.w) X.A (.compLoop (.ListComp elt [⟨tg,iter,ifs,0⟩] scope pos) 0 (.ref it) (.ref D) (compEnvC scope (m9 X.env scope.names []) s3.heap.objs.size X.env))
  (compPost (model X.prog X.w) X.A X.xe use Qp (.ref D) s3.heap.objs.size) { s3 with heap:=h₁,toks:=s3.toks + ([]:List (Str × Value)).length }:=by
  refine yP (fun n s'=>∃ i xs H',Inv (blk X (T++V) scope (m9 X.env scope.names []) s3.heap.objs.size s3 H3 fp) pins (vH T.length ix σ) H' s'∧tn i s'.heap∧(∀ b ∈ fp,H' b=none)∧W i n xs H') ?_ m0
   ⟨0,[],H3,I4,st4,fun b hb=>(f3 b hb).1,w0⟩
  rintro n s5 ⟨i,xs,H5,I5,st5,fr5,w5⟩
  have stat:∀ {H':Hp} {pins':List (Addr × Obj)} {σ':St} {s':Shared},Inv (blk X (T++V) scope (m9 X.env scope.names []) s3.heap.objs.size s3 H3 fp) pins σ' H' s'→(∀ b ∈ fp,H' b=none)→∀ b ∈ fp,rD (blk X (T++V) scope (m9 X.env scope.names []) s3.heap.objs.size s3 H3 fp) pins H' b:=fun I' hn b hb=>by
   obtain ⟨x1,x2⟩:=I'.ok.exf b hb
   refine ⟨hn b hb,x1,I'.ok.exfs b hb,.inl hb,x2,fun q hq=>?_⟩
   exact (f3 b hb).2.2.2.2.2 q hq
  obtain ⟨hD5,r5⟩:=turn i n xs H5 w5
  rcases r5 with ⟨stop,q⟩ | ⟨go,hz,step⟩
  ·refine thn (Tn.done (blk X (T++V) scope (m9 X.env scope.names []) s3.heap.objs.size s3 H3 fp) rfl rfl rfl hc i pins s5 _ H5 _ I5 (stat (pins':=pins) I5 fr5) st5 stop) fun r s6 ⟨hr,I6⟩=>?_
   subst hr
   obtain ⟨Ib,fC⟩:=jU I3 f3 I6
   obtain ⟨m,hn,_⟩:=I6.loc
   exact fin D _ H5 s6 m Ib fC hn q
  ·refine thn (Tn.item (blk X (T++V) scope (m9 X.env scope.names []) s3.heap.objs.size s3 H3 fp) rfl rfl rfl hc i pins s5 _ H5 _ I5 (stat (pins':=pins) I5 fr5) st5 go) fun r s6 ⟨u,hr,h6⟩=>?_
   subst hr
   refine thn h6 fun _ s7 ⟨x,H7,I7,rx,y7,st7,fr7⟩=>?_
   have I7':=I7.pinned (stat (pins':=pins) I7 fr7) (Tn.obj _ _ st7)
   refine thn (hg _ _ _ _ _ _ s7 _ H7 x u _ I7' rx (step x H7 y7)) fun _ s8 ⟨σ8,H8,I8,k8,q8⟩=>?_
   have again:∀ {H9:Hp} {s9:Shared},Inv (blk X (T++V) scope (m9 X.env scope.names []) s3.heap.objs.size s3 H3 fp) (pins++um fp s7.heap) σ8 H9 s9 →
    Inv (blk X (T++V) scope (m9 X.env scope.names []) s3.heap.objs.size s3 H3 fp) pins (vH T.length ix σ) H9 s9∧tn (i + 1) s9.heap∧∀ b ∈ fp,H9 b=none:=fun {H9 s9} I9=>by
    refine ⟨Inv.forget I9.unpinned I4.len fun j v e=>?_,Tn.keep _ _ _ st7 fun b hb o e=>(I9.pin (b,o) (aQ _ (aQ _ (m8 hb e)))).1,fun b hb=>?_⟩
    ·by_cases hj:j < T.length
     ·have e':(aG T.length none++ix.map fun j=>(σ[j]?).getD none)[j]? = some (some v):=e
      rw [dG (by rw [aL];exact hj),cH,if_pos hj] at e'
      exact absurd e' (by simp)
     ·have ej:j=T.length + (j - T.length):=by omega
      rw [ej,← kY] at e ⊢
      rw [k8]
      exact e
    ·obtain ⟨o,e,d⟩:=Tn.obj _ _ st7 b hb
     exact (I9.pin (b,o) (aQ _ (aQ _ (m8 hb e)))).2.1
   refine thn (ht _ _ _ _ _ _ s8 σ8 H8 _ I8 q8) fun ok s9 ⟨H9,I9,q9⟩=>?_
   cases ok with
   | false =>
    obtain ⟨m',lm,w9⟩:=q9
    obtain ⟨a1,a2,a3⟩:=again I9
    exact ⟨m',lm,i + 1,xs,H9,a1,a2,a3,w9⟩
   | true =>
    refine thn (he _ _ _ _ _ _ s9 σ8 H9 _ I9 q9) fun y s10 ⟨v,H10,I10,ry,hD10,m',lm,w10⟩=>?_
    refine thn (rE _ s10 σ8 H10 (.ref D) [v] (.ref D) [y] (fun _ Hn=>Hn=upd H10 D (.lst (xs++[v]))) I10 rfl (.cons ry .nil) ⟨D,xs,v,rfl,rfl,hD10,hz,rfl⟩) fun _ s11 ⟨_,H11,I11,_,e11⟩=>?_
    subst e11
    obtain ⟨a1,a2,a3⟩:=again I11
    exact ⟨m',lm,i + 1,_,_,a1,a2,a3,w10⟩
 exact codeAny_compStart_list loop (Tn.self _ 0 _ _ _ st4 loop)
theorem J5 (hc:X.calm=true) (T V:List Str) (ix:List Nat) (hi:PI X tg iter wi)
 (hg:∀ cl C s3 H3 fp,PG (blk X (T++V) scope cl C s3 H3 fp) tg g) (ht:∀ cl C s3 H3 fp,PTs (blk X (T++V) scope cl C s3 H3 fp) ifs tt) (he:∀ cl C s3 H3 fp,PE (blk X (T++V) scope cl C s3 H3 fp) elt te)
 (hB:uw X.N X.env.scope.names scope.names V ix=true:=by rfl) (hk:scope.kind = .function:=by rfl) (hcell:∀ y ∈ scope.names,y.2 ≠ .cell:=by decide +kernel)
 (hnames:∀ x ∈ scope.names,x.2 = .local→scope.names.lookup x.1=some .local:=by decide +kernel)
 (hfr:∀ x ∈ scope.names,x.2 = .free→x.1 ∈ V:=by decide +kernel) (hs:∀ x,foldedSetIterable iter X.env x=pure x:=by intro _;rfl) :
 PE X (.ListComp elt [⟨tg,iter,ifs,0⟩] scope pos) (Cg wi g tt te T.length (vH T.length ix)):=by
 intro pins s σ H Q I h
 rw [eval_ListComp]
 refine v9 (use:=none) hc hi hg ht he hB hk hcell hnames hfr hs I h fun D C H' s' m I' fC hn q=>⟨m,hn,fun h' sb=>⟨.ref D,H',?_,rfl,q⟩⟩
 obtain ⟨z0,z1,z2,z3,z4,z5⟩:=fC
 exact I'.turned (t':=s'.toks) (fun b o hb e=>sb.extBut b o hb e) z0 z1 z3 z4 z5
theorem J6 {i:Nat} {x:Str} {pos' spos:Pos} (hN:X.N.Nodup) (hi':X.N[i]? = some x) (hx:X.env.scope.names.lookup x=some .local) (hc:X.calm=true) (T V:List Str) (ix:List Nat) (hi:PI X tg iter wi)
 (hg:∀ cl C s3 H3 fp,PG (blk X (T++V) scope cl C s3 H3 fp) tg g) (ht:∀ cl C s3 H3 fp,PTs (blk X (T++V) scope cl C s3 H3 fp) ifs tt) (he:∀ cl C s3 H3 fp,PE (blk X (T++V) scope cl C s3 H3 fp) elt te)
 (hsw:swapsWith (.ListComp elt [⟨tg,iter,ifs,0⟩] scope pos) (some (.Name x pos')) spos.line X.env=pure true:=by rfl)
 (hB:uw X.N X.env.scope.names scope.names V ix=true:=by rfl) (hk:scope.kind = .function:=by rfl) (hcell:∀ y ∈ scope.names,y.2 ≠ .cell:=by decide +kernel)
 (hnames:∀ x ∈ scope.names,x.2 = .local→scope.names.lookup x.1=some .local:=by decide +kernel)
 (hfr:∀ x ∈ scope.names,x.2 = .free→x.1 ∈ V:=by decide +kernel) (hs:∀ x,foldedSetIterable iter X.env x=pure x:=by intro _;rfl) :
 PS X (.Assign [.Name x pos'] (.ListComp elt [⟨tg,iter,ifs,0⟩] scope pos) spos) (N5 (Cg wi g tt te T.length (vH T.length ix)) (Gb i)):=by
 intro pins s σ H D I h
 rw [exec_Assign_Name_used _ _ _ _ hsw]
 refine wpAny_bind (wpAny_standAt (wpAny_bind ?_))
 show wpAny _ X.A (do let _ ← comprehension (.ListComp elt [⟨tg,iter,ifs,0⟩] scope pos) scope X.env _ (newList []) false (eval iter X.env) (some (assign (.Name x pos') X.env))) _ _ s
 refine wpAny_bind (wpAny_mono (v9 (use:=some (assign (.Name x pos') X.env)) (Qp:=fun _ s'=>SP X pins D .next s') hc hi hg ht he hB hk hcell hnames hfr hs I h fun A' C H' s' m I' fC hn q=>?_) (fun _ s' hq=>wpAny_pure (wpAny_pure hq)) fun _ _ e=>e)
 obtain ⟨z0,z1,z2,z3,z4,z5⟩:=fC
 refine wpAny_assign_Name (vU I' hN hi' (.inl hx) (v:=.ref A') rfl (fun s'' I'' ⟨a,sb,ha⟩=>⟨m,hn.sameBut sb ?_,fun h' sb'=>⟨_,H',?_,q⟩⟩) (.inr hx))
 ·rcases ha with ha | ha
  ·rw [ha];exact z1
  ·exact Ne.symm (z4 x a ha)
 ·exact I''.turned (t':=s''.toks) (fun b o hb e=>sb'.extBut b o hb e) z0 z1 z3 z4 z5
end
section
variable {X:Cx} {K:PySem.W.Frag}
end
end My
namespace D3
open PySem
abbrev D:=PyData
inductive U where
 | d (x:D)
 | x (c f:Str) (v:D)
abbrev DS:=List (Option U)
inductive Oc where
 | nx (δ:DS)
 | rt (d:D)
 | bk (δ:DS)
 | ct (δ:DS)
 | ex (c f:Str) (v:D)
abbrev FE:=DS→Option D
abbrev FA:=DS→Option (List D)
abbrev FT:=DS→Option Bool
abbrev FS:=DS→Option Oc
abbrev FG:=D→DS→Option DS
mutual
def flat:D→Bool
 | .none=>true
 | .bool _=>true
 | .int _=>true
 | .str _=>true
 | .list _=>false
 | .tuple xs=>flats xs
 | .dict _=>false
def flats:List D→Bool
 | []=>true
 | x :: r=>flat x && flats r
end
mutual
def nl:D→Nat
 | .none=>0
 | .bool _=>0
 | .int _=>0
 | .str _=>0
 | .list xs=>nls xs + 1
 | .tuple xs=>nls xs
 | .dict _=>1
def nls:List D→Nat
 | []=>0
 | x :: r=>nl x + nls r
end
def fl1:D→Bool
 | .list xs=>flats xs
 | d=>flat d
def ao (i:Nat):FE:=fun δ=>match δ[i]? with
 | some (some (.d x))=>some x
 | _=>none
def dC (d:D):FE:=fun _=>some d
def dOp (g:D→D→Option D) (fa fb:FE):FE:=fun δ=>(fa δ).bind fun x=>(fb δ).bind fun y=>g x y
def dUn (g:D→Option D) (fa:FE):FE:=fun δ=>(fa δ).bind g
def aP:FA:=fun _=>some []
def aA (fa:FE) (fr:FA):FA:=fun δ=>(fa δ).bind fun x=>(fr δ).bind fun r=>some (x :: r)
def dTup (fa:FA):FE:=fun δ=>(fa δ).bind fun l=>if l.length ≤ sizeLine then some (.tuple l) else none
def gC (fa:FA):FE:=fun δ=>(fa δ).bind fun l=>if l.length ≤ sizeLine then some (.list l) else none
def dCall (F:List D→Option D) (fa:FA):FE:=fun δ=>(fa δ).bind F
def cQ (fa:FE):FE:=fun δ=>(fa δ).bind fun d=>if flat d=true then some d else none
def dN1 (fa:FE):FE:=fun δ=>(fa δ).bind fun d=>if decide (nl d ≤ 1)=true then some d else none
def ql (fa:FE):FE:=fun δ=>(fa δ).bind fun d=>if fl1 d=true then some d else none
def qm (fa fb:FE):FE:=fun δ=>(fa δ).bind fun x=>match x with
 | .bool true=>fb δ
 | .bool false=>some (.bool false)
 | _=>none
def dOr (fa fb:FE):FE:=fun δ=>(fa δ).bind fun x=>match x with
 | .bool true=>some (.bool true)
 | .bool false=>fb δ
 | _=>none
def Ag (fa:FE):FE:=fun δ=>(fa δ).bind fun x=>match x with
 | .bool b=>some (.bool (!b))
 | _=>none
def dIf (c:FT) (fa fb:FE):FE:=fun δ=>(c δ).bind fun b=>if b=true then fa δ else fb δ
def bf (fa:FE):FT:=fun δ=>(fa δ).bind fun x=>match x with
 | .bool b=>some b
 | _=>none
def n_ (a b:FT):FT:=fun δ=>(a δ).bind fun x=>if x=true then b δ else some false
def tOr (a b:FT):FT:=fun δ=>(a δ).bind fun x=>if x=true then some true else b δ
def jN (a:FT):FT:=fun δ=>(a δ).map fun x=>!x
def eH:FS:=fun δ=>some (.nx δ)
def bF (a b:FS):FS:=fun δ=>(a δ).bind fun o=>match o with
 | .nx δ'=>b δ'
 | o=>some o
def RG (i:Nat) (fe:FE):FS:=fun δ=>(fe δ).bind fun d=>some (.nx (δ.set i (some (.d d))))
def sIf (c:FT) (a b:FS):FS:=fun δ=>(c δ).bind fun t=>if t=true then a δ else b δ
def cP (fe:FE):FS:=fun δ=>(fe δ).bind fun d=>some (.rt d)
def RJ:FS:=fun _=>some (.rt .none)
def oE (fe:FE):FS:=fun δ=>(fe δ).bind fun _=>some (.nx δ)
def sBk:FS:=fun δ=>some (.bk δ)
def sCt:FS:=fun δ=>some (.ct δ)
def gN (i:Nat):FG:=fun d δ=>some (δ.set i (some (.d d)))
def fZ:List D→DS→Option DS:=fun l δ=>match l with
 | []=>some δ
 | _=>none
def bM (g:FG) (r:List D→DS→Option DS):List D→DS→Option DS:=fun l δ=>match l with
 | d :: l'=>(g d δ).bind fun δ'=>r l' δ'
 | []=>none
def J7 (fe:FE) (g:FG):FS:=fun δ=>(fe δ).bind fun d=>(g d δ).bind fun δ'=>some (.nx δ')
def mJ (g:FG) (b:FS):List D→DS→Option Oc
 | [],δ=>some (.nx δ)
 | d :: r,δ=>(g d δ).bind fun δ1=>(b δ1).bind fun o=>match o with
  | .nx δ'=>mJ g b r δ'
  | .ct δ'=>mJ g b r δ'
  | .bk δ'=>some (.nx δ')
  | .rt v=>some (.rt v)
  | .ex c f v=>some (.ex c f v)
def nR (fi:FA) (g:FG) (b:FS):FS:=fun δ=>(fi δ).bind fun l=>mJ g b l δ
def fu (c:FT) (b:FS):Nat→DS→Option Oc
 | 0,_=>none
 | n + 1,δ=>(c δ).bind fun t=>if t=true then (b δ).bind fun o=>match o with
     | .nx δ'=>fu c b n δ'
     | .ct δ'=>fu c b n δ'
     | .bk δ'=>some (.nx δ')
     | .rt v=>some (.rt v)
     | .ex c f v=>some (.ex c f v)
  else some (.nx δ)
theorem lM {c:FT} {b:FS}:∀ {n:Nat} {δ:DS} {o:Oc},fu c b n δ=some o→∀ {m:Nat},n ≤ m→fu c b m δ=some o
 | 0,_,_,h,_,_=>by simp [fu] at h
 | n + 1,δ,o,h,0,l=>by omega
 | n + 1,δ,o,h,m + 1,l=>by
  rw [fu] at h ⊢
  cases hc:c δ with
  | none=>rw [hc] at h;simp at h
  | some t =>
   rw [hc] at h
   simp only [aK] at h ⊢
   cases t with
   | false=>exact h
   | true =>
    simp only [if_pos] at h ⊢
    cases hb:b δ with
    | none=>rw [hb] at h;simp at h
    | some q =>
     rw [hb] at h
     simp only [aK] at h ⊢
     cases q with
     | nx δ'=>exact lM h (by omega)
     | ct δ'=>exact lM h (by omega)
     | bk δ'=>exact h
     | rt v=>exact h
     | ex c f v=>exact h
theorem Ah {c:FT} {b:FS} {n m:Nat} {δ:DS} {o o':Oc} (h:fu c b n δ=some o) (h':fu c b m δ=some o'):o=o':=by
 have a:=lM h (Nat.le_max_left n m)
 have a':=lM h' (Nat.le_max_right n m)
 rw [a] at a'
 exact dM.inj a'
open Classical in
noncomputable def pO (c:FT) (b:FS):FS:=fun δ=>if h:∃ o n,fu c b n δ=some o then some (Classical.choose h) else none
theorem wg {c:FT} {b:FS} {n:Nat} {δ:DS} {o:Oc} (h:fu c b n δ=some o):pO c b δ=some o:=by
 have e:∃ o n,fu c b n δ=some o:=⟨o,n,h⟩
 unfold pO
 rw [dif_pos e]
 obtain ⟨m,hm⟩:=Classical.choose_spec e
 rw [Ah hm h]
theorem Ai {c:FT} {b:FS} {δ:DS} {o:Oc} (h:pO c b δ=some o):∃ n,fu c b n δ=some o:=by
 unfold pO at h
 by_cases e:∃ o n,fu c b n δ=some o
 ·rw [dif_pos e] at h
  have:=Classical.choose_spec e
  rw [dM.inj h] at this
  exact this
 ·rw [dif_neg e] at h
  cases h
def fnD (p q:Nat) (b:FS):List D→Option D:=fun ds=>if ds.length=p then match b (ds.map (fun d=>some (.d d))++aG q none) with
    | some (.rt d)=>some d
    | some (.nx _)=>some .none
    | _=>none
 else none
def jO (t:Nat) (ix:List Nat) (δ:DS):DS:=aG t none++ix.map fun j=>(δ[j]?).getD none
def jF (g:FG) (c:FT) (e:FE) (δ:DS):List D→Option (List D)
 | []=>some []
 | d :: r=>(g d δ).bind fun δ1=>(c δ1).bind fun b=>if b=true then (e δ1).bind fun x=>(jF g c e δ r).bind fun l=>some (x :: l) else jF g c e δ r
def fQ (fi:FA) (g:FG) (c:FT) (e:FE) (t:Nat) (ix:List Nat):FE:=fun δ=>(fi δ).bind fun l=>if l.length ≤ 100000 then (jF g c e (jO t ix δ) l).bind fun r=>some (.list r) else none
def gH:FT:=fun _=>some true
def gI (g:Int→Int→Option D):D→D→Option D:=fun x y=>match x,y with
 | .int i,.int j=>g i j
 | _,_=>none
def pIx (n:Nat) (i:Int):Option Nat:=if 0 ≤ i then (if i < n then some i.toNat else none) else if -(n:Int) ≤ i then some (i + n).toNat else none
def pAt (xs:List D) (i:Int):Option D:=(pIx xs.length i).bind fun j=>xs[j]?
def isT (c T:String):Bool:=T == c || (T == "bool" && c == "int")
def bx (i:Nat) (fe:FE):FS:=fun δ=>if i < δ.length then RG i fe δ else none
def dH:D→D→Option D:=gI fun i j=>some (.int (i + j))
def pI:D→D→Option D:=gI fun i j=>some (.int (i - j))
def uy (i j:Int):Bool:=decide (i.natAbs < 2 ^ 64) || decide (j.natAbs < 2 ^ 64) || (decide (i.natAbs < 2 ^ 30000) && decide (j.natAbs < 2 ^ 30000))
def iY:D→D→Option D:=gI fun i j=>if uy i j=true then some (.int (i * j)) else none
def Aj (_ j:Int):Bool:=decide (j ≠ 0) && decide (j.natAbs < 2 ^ 9000)
def yQ:D→D→Option D:=gI fun i j=>if Aj i j=true then some (.int (i.fdiv j)) else none
def cU:D→D→Option D:=gI fun i j=>if decide (j ≠ 0)=true then some (.int (i.fmod j)) else none
def Ol (i j:Int):Bool:=decide (0 ≤ j) && decide (j ≤ 1000) && decide (i.natAbs < 2 ^ 64)
def mK:D→D→Option D:=gI fun i j=>if Ol i j=true then some (.int (i ^ j.toNat)) else none
def gLt:D→D→Option D:=gI fun i j=>some (.bool (decide (i < j)))
def gLe:D→D→Option D:=gI fun i j=>some (.bool (decide (i ≤ j)))
def gGt:D→D→Option D:=gI fun i j=>some (.bool (decide (j < i)))
def gGe:D→D→Option D:=gI fun i j=>some (.bool (decide (j ≤ i)))
def gEq:D→D→Option D:=fun x y=>if (SeqAt.shaped x && SeqAt.shaped y)=true then some (.bool (PyData.eqv x y)) else none
def gNe:D→D→Option D:=fun x y=>if (SeqAt.shaped x && SeqAt.shaped y)=true then some (.bool (!PyData.eqv x y)) else none
def gNl (i:Nat):FG:=fun d δ=>if i < δ.length then gN i d δ else none
def gTn (n:Nat) (g:List D→DS→Option DS):FG:=fun d δ=>match d with
 | .tuple l=>if l.length=n then g l δ else none
 | _=>none
def pq (i:Nat) (f:FE):FS:=fun δ=>(ao i δ).bind fun x=>(f δ).bind fun d=>match x with
 | .list l=>if l.length < 1000000 then some (.nx (δ.set i (some (.d (.list (l++[d])))))) else none
 | _=>none
def nU (i:Nat) (fk f:FE):FS:=fun δ=>(f δ).bind fun d=>(ao i δ).bind fun x=>(fk δ).bind fun k=>match x,k with
 | .list l,.int j=>(pIx l.length j).bind fun n=>some (.nx (δ.set i (some (.d (.list (l.set n d))))))
 | _,_=>none
def asList:D→Option (List D)
 | .list l=>some l
 | _=>none
def lG (f:FE):FA:=fun δ=>(f δ).bind asList
def gB (lo hi:Int):List D:=(aX (hi - lo).toNat).map fun (k:Nat)=>.int (lo + (k:Int))
def uz (i:Int):Bool:=decide (-(2 ^ 62) ≤ i) && decide (i < 2 ^ 62)
def j9 (fa:FA):FA:=fun δ=>(fa δ).bind fun l=>match l with
 | [.int j]=>if uz j=true then some (gB 0 j) else none
 | _=>none
def M7 (fa:FA):FA:=fun δ=>(fa δ).bind fun l=>match l with
 | [.int i,.int j]=>if (uz i && uz j)=true then some (gB i j) else none
 | _=>none
def gIx:D→D→Option D:=fun x y=>match x,y with
 | .list l,.int i=>pAt l i
 | .tuple l,.int i=>pAt l i
 | _,_=>none
def jG (g g':D→D→Option D) (fa fb fc:FE):FE:=fun δ=>(fa δ).bind fun x=>(fb δ).bind fun y=>(g x y).bind fun z=>match z with
 | .bool true=>(fc δ).bind fun w=>g' y w
 | .bool false=>some (.bool false)
 | _=>none
def tL (g g' g'':D→D→Option D) (fa fb fc fd:FE):FE:=fun δ=>(fa δ).bind fun x=>(fb δ).bind fun y=>(g x y).bind fun z=>match z with
 | .bool true=>(fc δ).bind fun w=>(g' y w).bind fun z'=>match z' with
  | .bool true=>(fd δ).bind fun u=>g'' w u
  | .bool false=>some (.bool false)
  | _=>none
 | .bool false=>some (.bool false)
 | _=>none
def isNone:D→Bool
 | .none=>true
 | _=>false
def xu:D→Option D:=fun x=>some (.bool (isNone x))
def pB:D→Option D:=fun x=>some (.bool (!isNone x))
def jx:List D→Option D
 | [.list l]=>some (.int l.length)
 | [.tuple l]=>some (.int l.length)
 | _=>none
def nJ:List D→Option (List Int)
 | []=>some []
 | .int i :: r=>(nJ r).map (i :: ·)
 | _=>none
def uD:List D→Option D
 | [.list l]=>(nJ l).map fun ns=>.int ns.sum
 | _=>none
def DX:List D→Option D
 | [.int i]=>some (.int i)
 | [.bool b]=>some (.int (if b then 1 else 0))
 | _=>none
def U3:List D→Option D
 | [.int i]=>some (.int (if i < 0 then -i else i))
 | _=>none
def wj:List D→Option D
 | [.int i,.int j]=>some (.int (if j > i then j else i))
 | _=>none
def uE:List D→Option D
 | [.int i,.int j]=>some (.int (if j < i then j else i))
 | _=>none
def tyD:D→String
 | .none => "NoneType"
 | .bool _ => "bool"
 | .int _ => "int"
 | .str _ => "str"
 | .list _ => "list"
 | .tuple _ => "tuple"
 | .dict _ => "dict"
def gIs (c:String):D→Option D:=fun d=>some (.bool (isT c (tyD d)))
def jR:D→Option D
 | .int i=>some (.int (-i))
 | _=>none
def qp:D→D→Option D:=fun x y=>match x,y with
 | .list l,.list m=>if l.length + m.length ≤ 1000000 then some (.list (l++m)) else none
 | _,_=>none
def rF:D→D→Option D:=fun x y=>match x,y with
 | .list l,.int k=>if l.length * k.toNat ≤ 1000000∧-(2 ^ 63) ≤ k∧k < 2 ^ 63 then some (.list (aG k.toNat l).flatten) else none
 | _,_=>none
def pC:D→Option D
 | .list l=>some (.list l)
 | .tuple l=>some (.list l)
 | _=>none
abbrev FO:=DS→Option (Option Int)
def uF:FO:=fun _=>some none
def sU (f:FE):FO:=fun δ=>(f δ).bind fun x=>match x with
 | .int i=>some (some i)
 | _=>none
def pSx (n d:Nat):Option Int→Nat
 | none=>d
 | some i=>if i < 0 then (i + n).toNat else min i.toNat n
def cutD (xs:List D) (lo hi:Option Int):List D:=(xs.drop (pSx xs.length 0 lo)).take (pSx xs.length xs.length hi - pSx xs.length 0 lo)
def dSl (f:FE) (lo hi:FO):FE:=fun δ=>(f δ).bind fun x=>(lo δ).bind fun a=>(hi δ).bind fun b=>match x with
 | .list l=>some (.list (cutD l a b))
 | _=>none
def RK (i j:Nat) (fa:FA):FS:=fun δ=>(fa δ).bind fun l=>match l with
 | [x,y]=>if i < δ.length∧j < δ.length then some (.nx ((δ.set i (some (.d x))).set j (some (.d y)))) else none
 | _=>none
def jB (l:List D):List D:=l.mapIdx fun i x=>.tuple [.int (i:Int),x]
def lO (f:FE):FA:=fun δ=>(f δ).bind fun d=>match d with
 | .list l=>some (jB l)
 | _=>none
def mnI (i:Int) (r:List Int):Int:=r.foldl (fun a b=>if b < a then b else a) i
def uG:List D→Option D
 | [.list l]=>match nJ l with
  | some (i :: r)=>some (.int (mnI i r))
  | _=>none
 | _=>none
def mq:List D→Option (List Bool)
 | []=>some []
 | .bool b :: r=>(mq r).map (b :: ·)
 | _=>none
def vI:List D→Option D
 | [.list l]=>(mq l).map fun bs=>.bool (bs.all id)
 | _=>none
def rG:List D→List D→List D
 | x :: r,y :: s=>.tuple [x,y] :: rG r s
 | _,_=>[]
def J8 (f g:FE):FA:=fun δ=>(f δ).bind fun d=>(g δ).bind fun e=>match d,e with
 | .list l,.list m=>some (rG l m)
 | _,_=>none
def Om (f:FE):FA:=fun δ=>(f δ).bind fun d=>match d with
 | .list l=>some l.reverse
 | _=>none
theorem uH:∀ (r:List Int) (i:Int),mnI i r ∈ i :: r∧∀ a ∈ i :: r,mnI i r ≤ a
 | [],i=>⟨aJ,fun a h=>by rw [aU.mp h];exact fX _⟩
 | b :: r,i=>by
  have ih:=uH r (if b < i then b else i)
  have e:mnI i (b :: r)=mnI (if b < i then b else i) r:=rfl
  rw [e]
  constructor
  ·rcases aZ.mp ih.1 with z | z
   ·rw [z]
    split <;> simp
   ·exact aH _ (aH _ z)
  ·intro a h
   have h0:=ih.2 _ aJ
   have hb:(if b < i then b else i) ≤ i∧(if b < i then b else i) ≤ b:=by split <;> omega
   rcases aZ.mp h with rfl | h
   ·exact Int.le_trans h0 hb.1
   ·rcases aZ.mp h with rfl | h
    ·exact Int.le_trans h0 hb.2
    ·exact ih.2 a (aH _ h)
end D3
namespace D3
open PySem PySem.Spec PyProof.Rows L2 My
abbrev Ok:=Addr→Prop
abbrev St:=L2.St
class Chg (u:HO):Prop where
 ch:(∃ xs,u = .lst xs)∨(∃ kvs,u = .dK kvs)∨∃ kvs,u = .dT kvs
instance (xs:List V):Chg (.lst xs):=⟨.inl ⟨xs,rfl⟩⟩
instance (kvs:List (Key × V)):Chg (.dK kvs):=⟨.inr (.inl ⟨kvs,rfl⟩)⟩
instance (kvs:List (List Key × V)):Chg (.dT kvs):=⟨.inr (.inr ⟨kvs,rfl⟩)⟩
theorem Chg.frz {o:Obj} {u:HO} (h:Chg (.frz o u)):False:=by
 rcases h.ch with ⟨_,z⟩ | ⟨_,z⟩ | ⟨_,z⟩ <;> cases z
theorem Chg.tup {xs:List V} (h:Chg (.tup xs)):False:=by
 rcases h.ch with ⟨_,z⟩ | ⟨_,z⟩ | ⟨_,z⟩ <;> cases z
def Chd (o:Option HO):Prop:=∃ u,o=some u∧Chg u
theorem Chd.ne {o:Option HO} (h:Chd o):o ≠ none:=by
 obtain ⟨u,rfl,_⟩:=h
 simp
def SqK (K:PySem.W.Frag) (H:Hp) (a:Addr) (xs:List V):Prop:=(∃ o,H a=some (.frz o (.lst xs))) ∨
 ∃ (o:Obj) (its:Array Value) (n:Nat),K.lookup a=some o∧o.cls = .type "list" ∧ o.dict=none∧o.data = .seq its n∧its.size ≤ sizeLine∧Vals xs its.toList
theorem SqK.sq {K:PySem.W.Frag} {H:Hp} {a:Addr} {xs:List V} (h:SqK K H a xs):SqL K H a xs:=by
 rcases h with ⟨o,h⟩ | h
 ·exact .inl (.inr ⟨o,h⟩)
 ·exact .inr h
def jV (H:Hp) (a:Addr) (xs:List V):Prop:=H a=some (.tup xs)
theorem jV.sq {K:PySem.W.Frag} {H:Hp} {a:Addr} {xs:List V} (h:jV H a xs):SqT K H a xs:=.inl (.inl h)
theorem jV.same {H H':Hp} {a:Addr} {xs:List V} (e:Same H H') (h:jV H a xs):jV H' a xs:=e _ _ h
theorem jV.upd {H:Hp} {a b:Addr} {xs:List V} {u o:HO} [cu:Chg u] (h:H a=some u) (q:jV H b xs):jV (upd H a o) b xs:=by
 unfold jV
 rw [dZ (Fz q h (by intro z;subst z;exact cu.tup))]
 exact q
def dk0:List (D × D)→List (Key × V)
 | []=>[]
 | (.int i,.int j) :: r=>(.inl i,.int j) :: dk0 r
 | (.int i,.bool true) :: r=>(.inl i,.bl true) :: dk0 r
 | _ :: r=>(.inl 0,.non) :: dk0 r
def tkK:List D→Option (List Key)
 | []=>some []
 | .int i :: r=>(tkK r).map (.inl i :: ·)
 | _=>none
def tkD:List (D × D)→Option (List (List Key × V))
 | []=>some []
 | (.tuple l,.bool true) :: r=>(tkK l).bind fun k=>(tkD r).map ((k,.bl true) :: ·)
 | _=>none
def dh0 (kvs:List (D × D)):HO:=match kvs with
 | []=>.dK []
 | q :: r=>match tkD (q :: r) with
  | some ts=>.dT ts
  | none=>.dK (dk0 (q :: r))
theorem Gx (kvs:List (D × D)):(∃ ks,dh0 kvs = .dK ks)∨∃ ks,dh0 kvs = .dT ks:=by
 cases kvs with
 | nil=>exact .inl ⟨_,rfl⟩
 | cons q r =>
  unfold dh0
  dsimp only
  split
  ·exact .inr ⟨_,rfl⟩
  ·exact .inl ⟨_,rfl⟩
instance (kvs:List (D × D)):Chg (dh0 kvs):=⟨by
 rcases Gx kvs with ⟨ks,z⟩ | ⟨ks,z⟩
 ·exact .inr (.inl ⟨ks,z⟩)
 ·exact .inr (.inr ⟨ks,z⟩)⟩
def scV:D→V
 | .int i=>.int i
 | _=>.non
def scs:List D→Bool
 | []=>true
 | .int _ :: r=>scs r
 | .none :: r=>scs r
 | _=>false
def TV (H:Hp) (v:V) (d:D):Prop:=(v = .non∧d = .none)∨∃ b ds,v = .ref b∧d = .tuple ds∧jV H b (ds.map scV)∧scs ds=true
inductive TVs (H:Hp):List (Key × V)→List (D × D)→Prop
 | nil:TVs H [] []
 | cons {i:Int} {v:V} {d:D} {r:List (Key × V)} {r':List (D × D)}:TV H v d→TVs H r r'→TVs H ((.inl i,v) :: r) ((.int i,d) :: r')
theorem TV.imp {H H':Hp} (h:∀ b xs,jV H b xs→jV H' b xs) {v:V} {d:D} (q:TV H v d):TV H' v d:=by
 rcases q with q | ⟨b,ds,h1,h2,h3,h4⟩
 ·exact .inl q
 ·exact .inr ⟨b,ds,h1,h2,h _ _ h3,h4⟩
theorem TVs.imp {H H':Hp} (h:∀ b xs,jV H b xs→jV H' b xs) {ks:List (Key × V)} {kvs:List (D × D)} (q:TVs H ks kvs):TVs H' ks kvs:=by
 induction q with
 | nil=>exact .nil
 | cons t _ ih=>exact .cons (t.imp h) ih
def J9:List (D × D)→Bool
 | []=>true
 | (_,.int _) :: r=>J9 r
 | (_,.bool _) :: r=>J9 r
 | _=>false
def DH (H:Hp) (u:HO) (kvs:List (D × D)):Prop:=(J9 kvs=true∧u=dh0 kvs)∨∃ ks,u = .dK ks∧TVs H ks kvs
theorem DH.imp {H H':Hp} (h:∀ b xs,jV H b xs→jV H' b xs) {u:HO} {kvs:List (D × D)} (q:DH H u kvs):DH H' u kvs:=by
 rcases q with q | ⟨ks,q1,q2⟩
 ·exact .inl q
 ·exact .inr ⟨ks,q1,q2.imp h⟩
theorem DH.same {H H':Hp} {u:HO} {kvs:List (D × D)} (q:DH H u kvs) (e:Same H H'):DH H' u kvs:=q.imp fun _ _ h=>jV.same e h
theorem DH.upd {H:Hp} {a:Addr} {u o u':HO} [cu:Chg u] {kvs:List (D × D)} (q:DH H u' kvs) (h:H a=some u):DH (upd H a o) u' kvs:=q.imp fun _ _ z=>jV.upd h z
theorem DH.or {H:Hp} {u:HO} {kvs:List (D × D)} (q:DH H u kvs):(∃ ks,u = .dK ks)∨∃ ks,u = .dT ks:=by
 rcases q with ⟨_,rfl⟩ | ⟨ks,rfl,_⟩
 ·exact Gx kvs
 ·exact .inl ⟨ks,rfl⟩
theorem DH.chg {H:Hp} {u:HO} {kvs:List (D × D)} (q:DH H u kvs):Chg u:=⟨.inr q.or⟩
theorem DH.old {H:Hp} {u:HO} {kvs:List (D × D)} (q:DH H u kvs) (h:J9 kvs=true):u=dh0 kvs:=by
 rcases q with q | ⟨ks,rfl,q⟩
 ·exact q.2
 ·cases q with
  | nil=>rfl
  | cons t _ =>
   rcases t with ⟨_,rfl⟩ | ⟨_,_,_,rfl,_,_⟩ <;> cases h
mutual
inductive RA (K:PySem.W.Frag) (ok:Ok) (pl:Bool) (H:Hp):V→D→Prop
 | non:RA K ok pl H .non .none
 | bl (b:Bool):RA K ok pl H (.bl b) (.bool b)
 | int (i:Int):RA K ok pl H (.int i) (.int i)
 | str (x:Str):RA K ok pl H (.str x) (.str x)
 | lst {a:Addr} {xs:List V} {ds:List D}:H a=some (.lst xs)→ok a→RAs K ok pl H xs ds→RA K ok pl H (.ref a) (.list ds)
 | lsk {a:Addr} {xs:List V} {ds:List D}:SqK K H a xs→pl=true→RAs K ok pl H xs ds→RA K ok pl H (.ref a) (.list ds)
 | tup {a:Addr} {xs:List V} {ds:List D}:jV H a xs→RAs K ok pl H xs ds→RA K ok pl H (.ref a) (.tuple ds)
 | dic {a:Addr} {u:HO} {kvs:List (D × D)}:H a=some u→DH H u kvs→ok a→RA K ok pl H (.ref a) (.dict kvs)
 | dik {a:Addr} {u:HO} {kvs:List (D × D)} {o:Obj}:H a=some (.frz o u)→DH H u kvs→pl=true→RA K ok pl H (.ref a) (.dict kvs)
inductive RAs (K:PySem.W.Frag) (ok:Ok) (pl:Bool) (H:Hp):List V→List D→Prop
 | nil:RAs K ok pl H [] []
 | cons {v:V} {d:D} {vs:List V} {ds:List D}:RA K ok pl H v d→RAs K ok pl H vs ds→RAs K ok pl H (v :: vs) (d :: ds)
end
section
variable {K:PySem.W.Frag} {ok ok':Ok} {pl pl':Bool} {H H':Hp}
theorem RA.ind {P:V→D→Prop} {Q:List V→List D→Prop} (c1:P .non .none) (c2:∀ b,P (.bl b) (.bool b)) (c3:∀ i,P (.int i) (.int i)) (c4:∀ x,P (.str x) (.str x))
 (c5:∀ {a:Addr} {xs:List V} {ds:List D},H a=some (.lst xs)→ok a→Q xs ds→P (.ref a) (.list ds)) (c6:∀ {a:Addr} {xs:List V} {ds:List D},SqK K H a xs→pl=true→Q xs ds→P (.ref a) (.list ds)) (c7:∀ {a:Addr} {xs:List V} {ds:List D},jV H a xs→Q xs ds→P (.ref a) (.tuple ds))
 (c8:∀ {a:Addr} {u:HO} {kvs:List (D × D)},H a=some u→DH H u kvs→ok a→P (.ref a) (.dict kvs)) (c9:∀ {a:Addr} {u:HO} {kvs:List (D × D)} {o:Obj},H a=some (.frz o u)→DH H u kvs→pl=true→P (.ref a) (.dict kvs)) (c10:Q [] []) (c11:∀ {v:V} {d:D} {vs:List V} {ds:List D},P v d→Q vs ds→Q (v :: vs) (d :: ds)) :
 (∀ {v:V} {d:D},RA K ok pl H v d→P v d)∧∀ {v:List V} {d:List D},RAs K ok pl H v d→Q v d :=
 ⟨fun h=>RA.rec (motive_1:=fun v d _=>P v d) (motive_2:=fun v d _=>Q v d) c1 c2 c3 c4 (fun h o _ q=>c5 h o q) (fun h o _ q=>c6 h o q) (fun h _ q=>c7 h q) (fun h g o=>c8 h g o) (fun h g o=>c9 h g o) c10 (fun _ _ a q=>c11 a q) h,
  fun h=>RAs.rec (motive_1:=fun v d _=>P v d) (motive_2:=fun v d _=>Q v d) c1 c2 c3 c4 (fun h o _ q=>c5 h o q) (fun h o _ q=>c6 h o q) (fun h _ q=>c7 h q) (fun h g o=>c8 h g o) (fun h g o=>c9 h g o) c10 (fun _ _ a q=>c11 a q) h⟩
theorem RA.imp2 (ho:∀ a,ok a→ok' a) (hp:pl=true→pl'=true):(∀ {v:V} {d:D},RA K ok pl H v d→RA K ok' pl' H v d)∧∀ {v:List V} {d:List D},RAs K ok pl H v d→RAs K ok' pl' H v d :=
 RA.ind .non .bl .int .str (fun h o q=>.lst h (ho _ o) q) (fun h o q=>.lsk h (hp o) q) (fun h q=>.tup h q) (fun h g o=>.dic h g (ho _ o)) (fun h g o=>.dik h g (hp o)) .nil .cons
theorem RA.imp (ho:∀ a,ok a→ok' a) (hp:pl=true→pl'=true) {v:V} {d:D} (h:RA K ok pl H v d):RA K ok' pl' H v d:=(RA.imp2 ho hp).1 h
theorem RAs.imp (ho:∀ a,ok a→ok' a) (hp:pl=true→pl'=true) {v:List V} {d:List D} (h:RAs K ok pl H v d):RAs K ok' pl' H v d:=(RA.imp2 ho hp).2 h
theorem SqK.same {a:Addr} {xs:List V} (e:Same H H') (h:SqK K H a xs):SqK K H' a xs:=by
 rcases h with ⟨o,h⟩ | h
 ·exact .inl ⟨o,e _ _ h⟩
 ·exact .inr h
theorem RA.same2 (e:Same H H'):(∀ {v:V} {d:D},RA K ok pl H v d→RA K ok pl H' v d)∧∀ {v:List V} {d:List D},RAs K ok pl H v d→RAs K ok pl H' v d :=
 RA.ind .non .bl .int .str (fun h o q=>.lst (e _ _ h) o q) (fun h o q=>.lsk (h.same e) o q) (fun h q=>.tup (jV.same e h) q) (fun h g o=>.dic (e _ _ h) (g.same e) o) (fun h g o=>.dik (e _ _ h) (g.same e) o) .nil .cons
theorem RA.same (e:Same H H') {v:V} {d:D} (h:RA K ok pl H v d):RA K ok pl H' v d:=(RA.same2 e).1 h
theorem RAs.same (e:Same H H') {v:List V} {d:List D} (h:RAs K ok pl H v d):RAs K ok pl H' v d:=(RA.same2 e).2 h
theorem RA.flat2:(∀ {v:V} {d:D},RA K ok pl H v d→flat d=true→RA K ok' pl' H v d)∧∀ {v:List V} {d:List D},RAs K ok pl H v d→flats d=true→RAs K ok' pl' H v d :=
 RA.ind (fun _=>.non) (fun b _=>.bl b) (fun i _=>.int i) (fun x _=>.str x) (fun _ _ _ h=>by simp [D3.flat] at h) (fun _ _ _ h=>by simp [D3.flat] at h) (fun t q h=>.tup t (q (by simpa [D3.flat] using h))) (fun _ _ _ h=>by simp [D3.flat] at h) (fun _ _ _ h=>by simp [D3.flat] at h) (fun _=>.nil) fun a q h=>by
  rw [flats,bw] at h
  exact .cons (a h.1) (q h.2)
theorem RA.flat {v:V} {d:D} (hf:flat d=true) (h:RA K ok pl H v d):RA K ok' pl' H v d:=RA.flat2.1 h hf
theorem RAs.flat {v:List V} {d:List D} (hf:flats d=true) (h:RAs K ok pl H v d):RAs K ok' pl' H v d:=RA.flat2.2 h hf
theorem SqK.upd {a b:Addr} {xs:List V} {u o:HO} [cu:Chg u] (h:H a=some u) (q:SqK K H b xs):SqK K (upd H a o) b xs:=by
 rcases q with ⟨o',q⟩ | q
 ·refine .inl ⟨o',?_⟩
  rw [dZ (Fz q h (by intro z;subst z;first | exact cu.frz | exact cu.tup))]
  exact q
 ·exact .inr q
theorem RA.upd2 {a:Addr} {u o:HO} [cu:Chg u] (h:H a=some u) (na:¬ ok a):(∀ {v:V} {d:D},RA K ok pl H v d→RA K ok pl (upd H a o) v d)∧∀ {v:List V} {d:List D},RAs K ok pl H v d→RAs K ok pl (upd H a o) v d :=
 RA.ind .non .bl .int .str (fun e k q=>.lst (by rw [dZ (by intro z;subst z;exact na k)];exact e) k q) (fun e k q=>.lsk (e.upd h) k q) (fun e q=>.tup (jV.upd h e) q) (fun e g k=>.dic (by rw [dZ (by intro z;subst z;exact na k)];exact e) (g.upd h) k) (fun e g k=>.dik (by rw [dZ (Fz e h (by intro z;subst z;exact cu.frz))];exact e) (g.upd h) k) .nil .cons
theorem RA.upd {a:Addr} {u o:HO} [cu:Chg u] (h:H a=some u) (na:¬ ok a) {v:V} {d:D} (r:RA K ok pl H v d):RA K ok pl (upd H a o) v d:=(RA.upd2 h na).1 r
theorem RAs.upd {a:Addr} {u o:HO} [cu:Chg u] (h:H a=some u) (na:¬ ok a) {v:List V} {d:List D} (r:RAs K ok pl H v d):RAs K ok pl (upd H a o) v d:=(RA.upd2 h na).2 r
theorem RA.track2:(∀ {v:V} {d:D},RA K ok pl H v d→RA K (fun b=>ok b∧H b ≠ none) pl H v d)∧∀ {v:List V} {d:List D},RAs K ok pl H v d→RAs K (fun b=>ok b∧H b ≠ none) pl H v d :=
 RA.ind .non .bl .int .str (fun e k q=>.lst e ⟨k,by rw [e];simp⟩ q) (fun e k q=>.lsk e k q) (fun e q=>.tup e q) (fun e g k=>.dic e g ⟨k,by rw [e];simp⟩) (fun e g k=>.dik e g k) .nil .cons
theorem RA.track {v:V} {d:D} (h:RA K ok pl H v d):RA K (fun b=>ok b∧H b ≠ none) pl H v d:=RA.track2.1 h
theorem RAs.track {v:List V} {d:List D} (h:RAs K ok pl H v d):RAs K (fun b=>ok b∧H b ≠ none) pl H v d:=RA.track2.2 h
theorem RAs.length:∀ {v:List V} {d:List D},RAs K ok pl H v d→v.length=d.length
 | _,_,.nil=>rfl
 | _,_,.cons _ q=>by simp [RAs.length q]
theorem RAs.get:∀ {v:List V} {d:List D} {i:Nat} {x:D},RAs K ok pl H v d→d[i]? = some x→∃ y,v[i]? = some y∧RA K ok pl H y x
 | _,_,_,_,.nil,h=>by simp at h
 | _,_,0,_,.cons a _,h=>by simp at h;subst h;exact ⟨_,rfl,a⟩
 | _,_,i + 1,_,.cons _ q,h=>by
  obtain ⟨y,e,r⟩:=RAs.get (i:=i) q (by simpa using h)
  exact ⟨y,by simpa using e,r⟩
theorem RAs.append:∀ {v v':List V} {d d':List D},RAs K ok pl H v d→RAs K ok pl H v' d'→RAs K ok pl H (v++v') (d++d')
 | _,_,_,_,.nil,q=>q
 | _,_,_,_,.cons a r,q=>.cons a (RAs.append r q)
theorem RAs.set {x:V} {y:D} (r:RA K ok pl H x y):∀ {v:List V} {d:List D} (i:Nat),RAs K ok pl H v d→RAs K ok pl H (v.set i x) (d.set i y)
 | _,_,_,.nil=>.nil
 | _,_,0,.cons _ q=>.cons r q
 | _,_,i + 1,.cons a q=>.cons a (RAs.set r i q)
theorem RAs.take:∀ {v:List V} {d:List D} (n:Nat),RAs K ok pl H v d→RAs K ok pl H (v.take n) (d.take n)
 | _,_,0,_=>by simp;exact .nil
 | _,_,_ + 1,.nil=>.nil
 | _,_,n + 1,.cons a q=>.cons a (RAs.take n q)
theorem RAs.drop:∀ {v:List V} {d:List D} (n:Nat),RAs K ok pl H v d→RAs K ok pl H (v.drop n) (d.drop n)
 | _,_,0,q=>q
 | _,_,_ + 1,.nil=>.nil
 | _,_,n + 1,.cons _ q=>RAs.drop n q
theorem RAs.reverse:∀ {v:List V} {d:List D},RAs K ok pl H v d→RAs K ok pl H v.reverse d.reverse
 | _,_,.nil=>.nil
 | _,_,.cons a q=>by
  rw [jD,jD]
  exact (RAs.reverse q).append (.cons a .nil)
theorem RA.rd2:(∀ {v:V} {d:D},RA K ok pl H v d→d.canLay0=true→RdV K H v d)∧∀ {v:List V} {d:List D},RAs K ok pl H v d→PyData.canLayAll0 d=true→RdVs K H v d :=
 RA.ind (fun _=>.non) (fun b _=>.bl b) (fun i _=>.int i) (fun x _=>.str x) (fun e _ q h=>.lst (SqL.of e) (q (by simpa [PyData.canLay0] using h))) (fun e _ q h=>.lst e.sq (q (by simpa [PyData.canLay0] using h))) (fun e q h=>.tup e.sq (q (by simpa [PyData.canLay0] using h))) (fun _ _ _ h=>by simp [PyData.canLay0] at h) (fun _ _ _ h=>by simp [PyData.canLay0] at h) (fun _=>.nil) fun a q h=>by
  rw [PyData.canLayAll0,bw] at h
  exact .cons (a h.1) (q h.2)
theorem RA.rd {v:V} {d:D} (hf:d.canLay0=true) (h:RA K ok pl H v d):RdV K H v d:=RA.rd2.1 h hf
theorem RA.intE {v:V} {i:Int} (h:RA K ok pl H v (.int i)):v = .int i:=by cases h;rfl
theorem RA.blE {v:V} {b:Bool} (h:RA K ok pl H v (.bool b)):v = .bl b:=by cases h;rfl
theorem RA.lstE {v:V} {ds:List D} (h:RA K ok pl H v (.list ds)):∃ a xs,v = .ref a∧SqL K H a xs∧RAs K ok pl H xs ds:=by
 cases h with
 | lst e k q=>exact ⟨_,_,rfl,SqL.of e,q⟩
 | lsk e k q=>exact ⟨_,_,rfl,e.sq,q⟩
theorem RA.tupE {v:V} {ds:List D} (h:RA K ok pl H v (.tuple ds)):∃ a xs,v = .ref a∧SqT K H a xs∧RAs K ok pl H xs ds:=by
 cases h with
 | tup e q=>exact ⟨_,_,rfl,e.sq,q⟩
end
inductive Fl where
 | A
 | O
 | L
 | N
 | M
 deriving DecidableEq
def isN:Option Fl→Bool
 | some .N=>true
 | some .M=>true
 | _=>false
mutual
inductive RT (K:PySem.W.Frag) (H:Hp):V→D→List Addr→Prop
 | non:RT K H .non .none []
 | bl (b:Bool):RT K H (.bl b) (.bool b) []
 | int (i:Int):RT K H (.int i) (.int i) []
 | str (x:Str):RT K H (.str x) (.str x) []
 | lst {a:Addr} {xs:List V} {ds:List D} {as:List Addr}:H a=some (.lst xs)→RTs K H xs ds as→RT K H (.ref a) (.list ds) (a :: as)
 | tup {a:Addr} {xs:List V} {ds:List D} {as:List Addr}:jV H a xs→RTs K H xs ds as→RT K H (.ref a) (.tuple ds) as
 | dic {a:Addr} {u:HO} {kvs:List (D × D)}:H a=some u→DH H u kvs→RT K H (.ref a) (.dict kvs) [a]
inductive RTs (K:PySem.W.Frag) (H:Hp):List V→List D→List Addr→Prop
 | nil:RTs K H [] [] []
 | cons {v:V} {d:D} {vs:List V} {ds:List D} {as bs:List Addr}:RT K H v d as→RTs K H vs ds bs→RTs K H (v :: vs) (d :: ds) (as++bs)
end
section
variable {K:PySem.W.Frag} {H H':Hp}
theorem RT.ind {P:V→D→List Addr→Prop} {Q:List V→List D→List Addr→Prop} (c1:P .non .none []) (c2:∀ b,P (.bl b) (.bool b) []) (c3:∀ i,P (.int i) (.int i) []) (c4:∀ x,P (.str x) (.str x) [])
 (c5:∀ {a:Addr} {xs:List V} {ds:List D} {as:List Addr},H a=some (.lst xs)→Q xs ds as→P (.ref a) (.list ds) (a :: as)) (c7:∀ {a:Addr} {xs:List V} {ds:List D} {as:List Addr},jV H a xs→Q xs ds as→P (.ref a) (.tuple ds) as)
 (c8:∀ {a:Addr} {u:HO} {kvs:List (D × D)},H a=some u→DH H u kvs→P (.ref a) (.dict kvs) [a]) (c10:Q [] [] []) (c11:∀ {v:V} {d:D} {vs:List V} {ds:List D} {as bs:List Addr},P v d as→Q vs ds bs→Q (v :: vs) (d :: ds) (as++bs)) :
 (∀ {v:V} {d:D} {as:List Addr},RT K H v d as→P v d as)∧∀ {v:List V} {d:List D} {as:List Addr},RTs K H v d as→Q v d as :=
 ⟨fun h=>RT.rec (motive_1:=fun v d as _=>P v d as) (motive_2:=fun v d as _=>Q v d as) c1 c2 c3 c4 (fun h _ q=>c5 h q) (fun h _ q=>c7 h q) (fun h g=>c8 h g) c10 (fun _ _ a q=>c11 a q) h,
  fun h=>RTs.rec (motive_1:=fun v d as _=>P v d as) (motive_2:=fun v d as _=>Q v d as) c1 c2 c3 c4 (fun h _ q=>c5 h q) (fun h _ q=>c7 h q) (fun h g=>c8 h g) c10 (fun _ _ a q=>c11 a q) h⟩
theorem RT.ra2 {ok:Ok} {pl:Bool}:(∀ {v:V} {d:D} {as:List Addr},RT K H v d as→(∀ a ∈ as,ok a)→RA K ok pl H v d)∧∀ {v:List V} {d:List D} {as:List Addr},RTs K H v d as→(∀ a ∈ as,ok a)→RAs K ok pl H v d :=
 RT.ind (fun _=>.non) (fun b _=>.bl b) (fun i _=>.int i) (fun x _=>.str x) (fun e q h=>.lst e (h _ aJ) (q fun a ha=>h a (aH _ ha))) (fun e q h=>.tup e (q h)) (fun e g h=>.dic e g (h _ aJ)) (fun _=>.nil) fun e q h=>.cons (e fun a ha=>h a (bD _ ha)) (q fun a ha=>h a (aQ _ ha))
theorem RT.ra {ok:Ok} {pl:Bool} {v:V} {d:D} {as:List Addr} (r:RT K H v d as) (h:∀ a ∈ as,ok a):RA K ok pl H v d:=RT.ra2.1 r h
theorem RT.same2 (s:Same H H'):(∀ {v:V} {d:D} {as:List Addr},RT K H v d as→RT K H' v d as)∧∀ {v:List V} {d:List D} {as:List Addr},RTs K H v d as→RTs K H' v d as :=
 RT.ind .non .bl .int .str (fun e q=>.lst (s _ _ e) q) (fun e q=>.tup (jV.same s e) q) (fun e g=>.dic (s _ _ e) (g.same s)) .nil .cons
theorem RT.same (s:Same H H') {v:V} {d:D} {as:List Addr} (h:RT K H v d as):RT K H' v d as:=(RT.same2 s).1 h
theorem RT.upd2 {a:Addr} {u o:HO} [cu:Chg u] (h:H a=some u):(∀ {v:V} {d:D} {as:List Addr},RT K H v d as→a ∉ as→RT K (upd H a o) v d as)∧∀ {v:List V} {d:List D} {as:List Addr},RTs K H v d as→a ∉ as→RTs K (upd H a o) v d as :=
 RT.ind (fun _=>.non) (fun b _=>.bl b) (fun i _=>.int i) (fun x _=>.str x) (fun e q na=>.lst (by rw [dZ (fun z=>na (by rw [← z];exact aJ))];exact e) (q fun z=>na (aH _ z))) (fun e q na=>.tup (jV.upd h e) (q na)) (fun e g na=>.dic (by rw [dZ (fun z=>na (by rw [← z];exact aJ))];exact e) (g.upd h)) (fun _=>.nil) fun e q na=>.cons (e fun z=>na (bD _ z)) (q fun z=>na (aQ _ z))
theorem RT.upd {a:Addr} {u o:HO} [cu:Chg u] (h:H a=some u) {v:V} {d:D} {as:List Addr} (na:a ∉ as) (r:RT K H v d as):RT K (upd H a o) v d as:=(RT.upd2 h).1 r na
theorem RT.chd2:(∀ {v:V} {d:D} {as:List Addr},RT K H v d as→∀ a ∈ as,Chd (H a))∧∀ {v:List V} {d:List D} {as:List Addr},RTs K H v d as→∀ a ∈ as,Chd (H a) :=
 RT.ind (fun _ h=>by cases h) (fun _ _ h=>by cases h) (fun _ _ h=>by cases h) (fun _ _ h=>by cases h) (fun e q a h=>by
  rcases aZ.mp h with rfl | z
  ·exact ⟨_,e,inferInstance⟩
  ·exact q a z) (fun _ q=>q) (fun e g a h=>by rw [aU.mp h];exact ⟨_,e,g.chg⟩) (fun _ h=>by cases h) fun e q a h=>by
  rcases bZ.mp h with z | z
  ·exact e a z
  ·exact q a z
theorem RT.chd {v:V} {d:D} {as:List Addr} (r:RT K H v d as):∀ a ∈ as,Chd (H a):=RT.chd2.1 r
theorem RTs.chd {v:List V} {d:List D} {as:List Addr} (r:RTs K H v d as):∀ a ∈ as,Chd (H a):=RT.chd2.2 r
theorem RT.tracked {v:V} {d:D} {as:List Addr} (h:RT K H v d as) (a:Addr) (ha:a ∈ as):H a ≠ none:=(h.chd a ha).ne
theorem RA.rt2 {ok:Ok}:(∀ {v:V} {d:D},RA K ok false H v d→∃ as,RT K H v d as∧as.length=nl d∧∀ a ∈ as,ok a)∧∀ {v:List V} {d:List D},RAs K ok false H v d→∃ as,RTs K H v d as∧as.length=nls d∧∀ a ∈ as,ok a :=
 RA.ind ⟨[],.non,rfl,fun _ h=>by cases h⟩ (fun b=>⟨[],.bl b,rfl,fun _ h=>by cases h⟩) (fun i=>⟨[],.int i,rfl,fun _ h=>by cases h⟩) (fun x=>⟨[],.str x,rfl,fun _ h=>by cases h⟩) (fun e k q=>by
  obtain ⟨as,h1,h2,h3⟩:=q
  refine ⟨_ :: as,.lst e h1,by rw [cA,h2,nl],fun a ha=>?_⟩
  rcases aZ.mp ha with rfl | z
  ·exact k
  ·exact h3 a z) (fun _ k _=>by cases k) (fun e q=>by
  obtain ⟨as,h1,h2,h3⟩:=q
  exact ⟨as,.tup e h1,by rw [h2,nl],h3⟩) (fun e g k=>⟨[_],.dic e g,by simp [nl],fun a ha=>by rw [aU.mp ha];exact k⟩) (fun _ _ k=>by cases k) ⟨[],.nil,rfl,fun _ h=>by cases h⟩ fun e q=>by
  obtain ⟨as,h1,h2,h3⟩:=e
  obtain ⟨bs,g1,g2,g3⟩:=q
  refine ⟨as++bs,.cons h1 g1,by rw [bW,h2,g2,nls],fun a ha=>?_⟩
  rcases bZ.mp ha with z | z
  ·exact h3 a z
  ·exact g3 a z
theorem RA.rt {ok:Ok} {v:V} {d:D} (h:RA K ok false H v d):∃ as,RT K H v d as∧as.length=nl d∧∀ a ∈ as,ok a:=RA.rt2.1 h
end
def tabs:List (Addr × Str × Pos):=[]
def Tb (H:Hp):Prop:=∀ t ∈ tabs,H t.1=some (.tbl t.2.1 t.2.2)
theorem Tb.same {H H':Hp} (t:Tb H) (s:Same H H'):Tb H':=fun x hx=>s _ _ (t x hx)
structure Gh where
 H0:Hp
 HF:Hp
 pk:Nat→Option Addr
 pn:Nat→List Addr
 tb:Tb H0
structure Ow where
 s:Nat→Option Addr
 n:Nat→List Addr:=fun _=>[]
instance:CoeFun Ow (fun _=>Nat→Option Addr):=⟨Ow.s⟩
abbrev ow0:Ow:=⟨fun _=>none,fun _=>[]⟩
def okA (ow:Ow):Ok:=fun a=>(∀ i,ow i ≠ some a)∧∀ i,a ∉ ow.n i
structure Rel (K:PySem.W.Frag) (fl:List Fl) (G:Gh) (ow:Ow) (σ:St) (H:Hp) (δ:DS):Prop where
 s0:Same G.H0 G.HF
 s1:Same G.HF H
 len:σ.length=δ.length
 own:∀ i a,ow i=some a→G.H0 a=none∧((fl[i]? = some .O∧G.HF a=none)∨(fl[i]? = some .L∧∃ xs,G.HF a=some (.lst xs))) ∧
  ∃ xs ds,σ[i]? = some (some (.ref a))∧H a=some (.lst xs)∧RAs K (okA ow) true H xs ds∧δ[i]? = some (some (.d (.list ds)))
 inj:∀ i j a,ow i=some a→ow j=some a→i=j
 pin:∀ i,fl[i]? = some .L→ow i=G.pk i
 dat:∀ i d,δ[i]? = some (some (.d d))→isN fl[i]? = false→ow i=none→∃ v,σ[i]? = some (some v)∧RA K (okA ow) true H v d
 oo:∀ i d,δ[i]? = some (some (.d d))→isN fl[i]? = false→fl[i]? ≠ some .A→ow i=none→flat d=true
 nt:∀ i a,a ∈ ow.n i→G.H0 a=none∧Chd (H a)∧((fl[i]? = some .N∧G.HF a=none)∨fl[i]? = some .M)
 nd:∀ i j a,a ∈ ow.n i→a ∈ ow.n j→i=j
 ns:∀ i j a,a ∈ ow.n i→ow j ≠ some a
 np:∀ i,fl[i]? = some .M→ow.n i=G.pn i
 nr:∀ i d,isN fl[i]? = true→δ[i]? = some (some (.d d))→∃ v,σ[i]? = some (some v)∧RT K H v d (ow.n i)∧(ow.n i).Nodup
theorem Rel.tb {K:PySem.W.Frag} {fl:List Fl} {G:Gh} {ow:Ow} {σ:St} {H:Hp} {δ:DS} (R:Rel K fl G ow σ H δ):Tb H:=G.tb.same (R.s0.trans R.s1)
theorem Rel.same0 {K:PySem.W.Frag} {fl:List Fl} {G:Gh} {ow:Ow} {σ:St} {H:Hp} {δ:DS} (R:Rel K fl G ow σ H δ):Same G.H0 H:=R.s0.trans R.s1
theorem Rel.grow {K:PySem.W.Frag} {fl:List Fl} {G:Gh} {ow:Ow} {σ:St} {H H':Hp} {δ:DS} (R:Rel K fl G ow σ H δ) (e:Same H H'):Rel K fl G ow σ H' δ :=
 ⟨R.s0,R.s1.trans e,R.len,fun i a h=>by
  obtain ⟨h0,hf,xs,ds,h1,h2,h3,h4⟩:=R.own i a h
  exact ⟨h0,hf,xs,ds,h1,e _ _ h2,h3.same e,h4⟩,R.inj,R.pin,fun i d h1 hn h2=>by
  obtain ⟨v,h3,h4⟩:=R.dat i d h1 hn h2
  exact ⟨v,h3,h4.same e⟩,R.oo,fun i a h=>by
  obtain ⟨h1,h2,h3⟩:=R.nt i a h
  exact ⟨h1,(let ⟨u,z,c⟩:=h2;⟨u,e _ _ z,c⟩),h3⟩,R.nd,R.ns,R.np,fun i d h1 h2=>by
  obtain ⟨v,h3,h4,h5⟩:=R.nr i d h1 h2
  exact ⟨v,h3,h4.same e,h5⟩⟩
inductive Kd where
 | P
 | B (L:List Nat)
 | A
 | R
 | F
 | C
 | FC
 | T
def ok1:Ok:=fun _=>True
def ok0:Ok:=fun _=>False
def okN (H:Hp):Ok:=fun a=>H a=none
def Rs (K:PySem.W.Frag) (H0:Hp) (ow:Ow) (Hb H:Hp):Kd→V→D→Prop
 | .P,v,d=>RA K ok1 true H v d
 | .B L,v,d=>RA K (okA ow) true H v d∨∃ i ∈ L,∃ a xs ds,ow i=some a∧v = .ref a∧d = .list ds∧H a=some (.lst xs)∧RAs K (okA ow) true H xs ds
 | .A,v,d=>RA K (okA ow) true H v d
 | .R,v,d=>RA K (okN H0) false H v d
 | .F,v,d=>(flat d=true∧RA K ok0 false H v d)∨∃ a xs ds,v = .ref a∧d = .list ds∧Hb a=none∧H a=some (.lst xs)∧RAs K (fun b=>okA ow b∧b ≠ a) true H xs ds
 | .C,v,d=>RA K (okN Hb) false H v d
 | .T,v,d=>∃ as,RT K H v d as∧as.Nodup∧∀ a ∈ as,Hb a=none
 | .FC,v,d=>(flat d=true∧RA K ok0 false H v d)∨∃ a xs ds,v = .ref a∧d = .list ds∧Hb a=none∧H a=some (.lst xs)∧RAs K (fun b=>okN Hb b∧b ≠ a) false H xs ds
section
variable {K:PySem.W.Frag} {Hb H H':Hp} {fl:List Fl} {G:Gh} {ow:Ow} {σ:St} {δ:DS} {v:V} {d:D}
theorem xG (R:Rel K fl G ow σ Hb δ) {a:Addr} (h:Hb a=none):okA ow a:=⟨fun i e=>(by
 obtain ⟨_,_,xs,_,_,h2,_⟩:=R.own i a e
 rw [h] at h2
 cases h2),fun i e=>(R.nt i a e).2.1.ne h⟩
theorem RM (R:Rel K fl G ow σ Hb δ) {a:Addr} (h:Hb a=none):okN G.H0 a:=R.same0.free h
theorem Rs.FC_F (R:Rel K fl G ow σ Hb δ) (h:Rs K G.H0 ow Hb H .FC v d):Rs K G.H0 ow Hb H .F v d:=by
 rcases h with h | ⟨a,xs,ds,h1,h2,h3,h4,h5⟩
 ·exact .inl h
 ·exact .inr ⟨a,xs,ds,h1,h2,h3,h4,h5.imp (fun b z=>⟨xG R z.1,z.2⟩) (fun _=>rfl)⟩
theorem Rs.FC_C (h:Rs K G.H0 ow Hb H .FC v d):Rs K G.H0 ow Hb H .C v d:=by
 rcases h with h | ⟨a,xs,ds,rfl,rfl,h3,h4,h5⟩
 ·exact RA.flat h.1 h.2
 ·exact .lst h4 h3 (h5.imp (fun b z=>z.1) (fun z=>z))
theorem Rs.F_A (R:Rel K fl G ow σ Hb δ) (h:Rs K G.H0 ow Hb H .F v d):Rs K G.H0 ow Hb H .A v d:=by
 rcases h with h | ⟨a,xs,ds,rfl,rfl,h3,h4,h5⟩
 ·exact RA.flat h.1 h.2
 ·exact .lst h4 (xG R h3) (h5.imp (fun b z=>z.1) (fun z=>z))
theorem Rs.C_A (R:Rel K fl G ow σ Hb δ) (h:Rs K G.H0 ow Hb H .C v d):Rs K G.H0 ow Hb H .A v d:=RA.imp (fun _ z=>xG R z) (fun _=>rfl) h
theorem Rs.C_R (R:Rel K fl G ow σ Hb δ) (h:Rs K G.H0 ow Hb H .C v d):Rs K G.H0 ow Hb H .R v d:=RA.imp (fun _ z=>RM R z) (fun z=>z) h
theorem Rs.A_B (L:List Nat) (h:Rs K G.H0 ow Hb H .A v d):Rs K G.H0 ow Hb H (.B L) v d:=.inl h
theorem Rs.B_P {L:List Nat} (h:Rs K G.H0 ow Hb H (.B L) v d):Rs K G.H0 ow Hb H .P v d:=by
 rcases h with h | ⟨i,_,a,xs,ds,_,rfl,rfl,h4,h5⟩
 ·exact RA.imp (fun _ _=>trivial) (fun z=>z) h
 ·exact .lst h4 trivial (h5.imp (fun _ _=>trivial) (fun z=>z))
theorem Rs.P_flat (hf:flat d=true) (h:Rs K G.H0 ow Hb H .P v d):Rs K G.H0 ow Hb H .FC v d:=.inl ⟨hf,RA.flat hf h⟩
theorem Rs.F_fl1 (hf:fl1 d=true) (h:Rs K G.H0 ow Hb H .F v d):Rs K G.H0 ow Hb H .FC v d:=by
 rcases h with h | ⟨a,xs,ds,h1,h2,h3,h4,h5⟩
 ·exact .inl h
 ·subst h2
  exact .inr ⟨a,xs,ds,h1,rfl,h3,h4,RAs.flat hf h5⟩
end
def tD (K:PySem.W.Frag) (fl:List Fl) (k:Kd) (f:FE):TE:=fun σ H Q=>∃ G ow δ d,Rel K fl G ow σ H δ∧f δ=some d∧∀ v H',Same H H'→Rs K G.H0 ow H H' k v d→Q v H'
abbrev DE (X:Cx) (fl:List Fl) (k:Kd) (e:Expr) (f:FE):Prop:=PE X e (tD X.K fl k f)
def tDA (K:PySem.W.Frag) (fl:List Fl) (f:FA):TA:=fun σ H Q=>∃ G ow δ ds,Rel K fl G ow σ H δ∧f δ=some ds∧∀ vs H',Same H H'→RAs K ok1 true H' vs ds→Q vs H'
abbrev DA (X:Cx) (fl:List Fl) (es:List Expr) (f:FA):Prop:=PA X es (tDA X.K fl f)
def tDT (K:PySem.W.Frag) (fl:List Fl) (f:FT):TT:=fun σ H Q=>∃ G ow δ b,Rel K fl G ow σ H δ∧f δ=some b∧∀ H',Same H H'→Q b H'
abbrev DT (X:Cx) (fl:List Fl) (e:Expr) (f:FT):Prop:=PT X e (tDT X.K fl f)
abbrev DW (X:Cx) (fl:List Fl) (e:Expr) (f:FT):Prop:=PW X e (tDT X.K fl f)
def uI (K:PySem.W.Frag) (fl:List Fl) (G:Gh) (Dn:Ends):Oc→Prop
 | .nx δ'=>∀ ow' σ' H',Rel K fl G ow' σ' H' δ'→Dn.nx σ' H'
 | .rt d=>∀ v H',Same G.H0 H'→RA K (okN G.H0) false H' v d→Dn.rt v H'
 | .bk δ'=>∀ ow' σ' H',Rel K fl G ow' σ' H' δ'→Dn.bk σ' H'
 | .ct δ'=>∀ ow' σ' H',Rel K fl G ow' σ' H' δ'→Dn.ct σ' H'
 | .ex _ _ d=>∀ v H',Same G.H0 H'→RA K ok1 true H' v d→Dn.rt v H'
def tDS (K:PySem.W.Frag) (fl:List Fl) (f:FS):TS:=fun Dn σ H=>∃ G ow δ o,Rel K fl G ow σ H δ∧f δ=some o∧uI K fl G Dn o
abbrev DS1 (X:Cx) (fl:List Fl) (s:Stmt) (f:FS):Prop:=PS X s (tDS X.K fl f)
abbrev DSs (X:Cx) (fl:List Fl) (s:List Stmt) (f:FS):Prop:=PSs X s (tDS X.K fl f)
def tDG (K:PySem.W.Frag) (fl:List Fl) (tg:List Nat) (g:FG):TG:=fun v σ H Q=>∃ G ow δ d δ',Rel K fl G ow σ H δ∧RA K (okA ow) true H v d∧g d δ=some δ'∧∀ σ',Rel K fl G ow σ' H δ'→(∀ j,j ∉ tg→σ'[j]? = σ[j]?)→Q σ' H
abbrev DG (X:Cx) (fl:List Fl) (tg:List Nat) (e:Expr) (g:FG):Prop:=PG X e (tDG X.K fl tg g)
section
variable {X:Cx} {e:Expr} {es:List Expr} {st:Stmt} {sts:List Stmt}
theorem PE.imp {t t':TE} (h:PE X e t) (i:∀ σ H Q,t' σ H Q→t σ H Q):PE X e t':=fun pins s σ H Q I q=>h pins s σ H Q I (i σ H Q q)
theorem PT.imp {t t':TT} (h:PT X e t) (i:∀ σ H Q,t' σ H Q→t σ H Q):PT X e t':=fun pins s σ H Q I q=>h pins s σ H Q I (i σ H Q q)
theorem PW.imp {t t':TT} (h:PW X e t) (i:∀ σ H Q,t' σ H Q→t σ H Q):PW X e t':=fun w pins s σ H Q I q=>h w pins s σ H Q I (i σ H Q q)
theorem PA.imp {t t':TA} (h:PA X es t) (i:∀ σ H Q,t' σ H Q→t σ H Q):PA X es t':=fun p pins s σ H Q I q=>h p pins s σ H Q I (i σ H Q q)
theorem PS.imp {t t':TS} (h:PS X st t) (i:∀ D σ H,t' D σ H→t D σ H):PS X st t':=fun pins s σ H D I q=>h pins s σ H D I (i D σ H q)
theorem PSs.imp {t t':TS} (h:PSs X sts t) (i:∀ D σ H,t' D σ H→t D σ H):PSs X sts t':=fun pins s σ H D I q=>h pins s σ H D I (i D σ H q)
theorem PG.imp {t t':TG} (h:PG X e t) (i:∀ v σ H Q,t' v σ H Q→t v σ H Q):PG X e t':=fun pins s σ H v u Q I r q=>h pins s σ H v u Q I r (i v σ H Q q)
end
end D3
namespace D3
open PySem PySem.Spec PyProof.Rows L2 My
section
variable {X:Cx} {fl:List Fl} {e a b c:Expr} {es:List Expr} {k:Kd} {f fa fb fc:FE} {pos:Pos}
theorem tM {i:Nat} {δ:DS} {d:D} (h:ao i δ=some d):δ[i]? = some (some (.d d)):=by
 unfold ao at h
 split at h
 ·next x e=>rw [e];cases h;rfl
 ·cases h
theorem j4 (i:Nat) {x:Str} (hN:X.N[i]? = some x:=by rfl) (hv:Vis X.env.scope x:=by first | exact Or.inl rfl | exact Or.inr (Or.inl rfl) | exact Or.inr (Or.inr rfl)) (hd:(x == ("__debug__" : Str))=false:=by decide)
 (hcd:(x == ("__classdict__" : Str))=false:=by decide) (hn:isN fl[i]? = false:=by rfl):DE X fl (.B [i]) (.Name x pos) (ao i):=by
 refine PE.imp (lg hN hv hd hcd) fun σ H Q h=>?_
 obtain ⟨G,ow,δ,d,R,hf,q⟩:=h
 have e:=tM hf
 cases ho:ow i with
 | none =>
  obtain ⟨v,h1,h2⟩:=R.dat i d e hn ho
  exact ⟨v,h1,q v H (Same.refl H) (.inl h2)⟩
 | some a =>
  obtain ⟨h0,_,xs,ds,h1,h2,h3,h4⟩:=R.own i a ho
  rw [e] at h4
  cases h4
  exact ⟨_,h1,q _ H (Same.refl H) (.inr ⟨i,aU.mpr rfl,a,xs,ds,ho,rfl,rfl,h2,h3⟩)⟩
theorem xH (i:Nat) (hfl:fl[i]? = some .A) {x:Str} (hN:X.N[i]? = some x:=by rfl) (hv:Vis X.env.scope x:=by first | exact Or.inl rfl | exact Or.inr (Or.inl rfl) | exact Or.inr (Or.inr rfl)) (hd:(x == ("__debug__" : Str))=false:=by decide)
 (hcd:(x == ("__classdict__" : Str))=false:=by decide):DE X fl .A (.Name x pos) (ao i):=by
 refine PE.imp (lg hN hv hd hcd) fun σ H Q h=>?_
 obtain ⟨G,ow,δ,d,R,hf,q⟩:=h
 have e:=tM hf
 cases ho:ow i with
 | none =>
  obtain ⟨v,h1,h2⟩:=R.dat i d e (by rw [hfl];rfl) ho
  exact ⟨v,h1,q v H (Same.refl H) h2⟩
 | some a =>
  obtain ⟨h0,hz,_⟩:=R.own i a ho
  rw [hfl] at hz
  rcases hz with ⟨z,_⟩ | ⟨z,_⟩ <;> cases z
theorem qt (i:Nat) (hfl:fl[i]? ≠ some .A) {x:Str} (hN:X.N[i]? = some x:=by rfl) (hv:Vis X.env.scope x:=by first | exact Or.inl rfl | exact Or.inr (Or.inl rfl) | exact Or.inr (Or.inr rfl)) (hd:(x == ("__debug__" : Str))=false:=by decide)
 (hcd:(x == ("__classdict__" : Str))=false:=by decide) (hn:isN fl[i]? = false:=by rfl):DE X fl .R (.Name x pos) (ql (ao i)):=by
 refine PE.imp (lg hN hv hd hcd) fun σ H Q h=>?_
 obtain ⟨G,ow,δ,d,R,hf,q⟩:=h
 unfold ql at hf
 cases hv':ao i δ with
 | none=>rw [hv'] at hf;cases hf
 | some d' =>
  rw [hv',aK] at hf
  by_cases hc:fl1 d'=true
  ·rw [if_pos hc] at hf
   cases hf
   have e:=tM hv'
   cases ho:ow i with
   | none =>
    obtain ⟨v,h1,h2⟩:=R.dat i d e hn ho
    exact ⟨v,h1,q v H (Same.refl H) (RA.flat (R.oo i d e hn hfl ho) h2)⟩
   | some a =>
    obtain ⟨h0,_,xs,ds,h1,h2,h3,h4⟩:=R.own i a ho
    rw [e] at h4
    cases h4
    exact ⟨_,h1,q _ H (Same.refl H) (.lst h2 h0 (RAs.flat hc h3))⟩
  ·rw [if_neg hc] at hf
   cases hf
theorem lQ {k k':Kd} (h:DE X fl k e f) (hc:∀ (Hb H:Hp) (G:Gh) (ow:Ow) (σ:St) (δ:DS) (v:V) (d:D),Rel X.K fl G ow σ Hb δ→Rs X.K G.H0 ow Hb H k v d→Rs X.K G.H0 ow Hb H k' v d):DE X fl k' e f:=by
 refine PE.imp h fun σ H Q h=>?_
 obtain ⟨G,ow,δ,d,R,hf,q⟩:=h
 exact ⟨G,ow,δ,d,R,hf,fun v H' s r=>q v H' s (hc _ _ G ow σ δ v d R r)⟩
theorem yR {k k':Kd} {p:D→Bool} (h:DE X fl k e f) (hc:∀ (Hb H:Hp) (G:Gh) (ow:Ow) (σ:St) (δ:DS) (v:V) (d:D),p d=true→Rel X.K fl G ow σ Hb δ→Rs X.K G.H0 ow Hb H k v d→Rs X.K G.H0 ow Hb H k' v d) :
 DE X fl k' e (fun δ=>(f δ).bind fun d=>if p d=true then some d else none):=by
 refine PE.imp h fun σ H Q h=>?_
 obtain ⟨G,ow,δ,d,R,hf,q⟩:=h
 dsimp only at hf
 cases hv:f δ with
 | none=>rw [hv] at hf;cases hf
 | some d' =>
  rw [hv,aK] at hf
  by_cases hp:p d'=true
  ·rw [if_pos hp] at hf
   cases hf
   exact ⟨G,ow,δ,d,R,hv,fun v H' s r=>q v H' s (hc _ _ G ow σ δ v d hp R r)⟩
  ·rw [if_neg hp] at hf
   cases hf
theorem mz (h:DE X fl .FC e f):DE X fl .F e f:=lQ h fun _ _ _ _ _ _ _ _ R r=>r.FC_F R
theorem dw (h:DE X fl .FC e f):DE X fl .C e f:=lQ h fun _ _ _ _ _ _ _ _ R r=>r.FC_C
theorem mL (h:DE X fl .F e f):DE X fl .A e f:=lQ h fun _ _ _ _ _ _ _ _ R r=>r.F_A R
theorem oF (h:DE X fl .C e f):DE X fl .A e f:=lQ h fun _ _ _ _ _ _ _ _ R r=>r.C_A R
theorem sV (h:DE X fl .C e f):DE X fl .R e f:=lQ h fun _ _ _ _ _ _ _ _ R r=>r.C_R R
theorem j_ (h:DE X fl .A e f):DE X fl (.B []) e f:=lQ h fun _ _ _ _ _ _ _ _ R r=>Rs.A_B [] r
theorem qu {L:List Nat} (h:DE X fl (.B L) e f):DE X fl .P e f:=lQ h fun _ _ _ _ _ _ _ _ R r=>r.B_P
theorem cX (h:DE X fl .P e f):DE X fl .FC e (cQ f):=yR h fun _ _ _ _ _ _ _ _ hf R r=>r.P_flat hf
theorem Ak (h:DE X fl .F e f):DE X fl .FC e (ql f):=yR h fun _ _ _ _ _ _ _ _ hf R r=>r.F_fl1 hf
theorem dh (h:DE X fl .FC e f):DE X fl .A e f:=mL (mz h)
theorem bJ (h:DE X fl .FC e f):DE X fl .R e f:=sV (dw h)
theorem bN (h:DE X fl .A e f):DE X fl .P e f:=qu (j_ h)
theorem gO (h:DE X fl .C e f):DE X fl .P e f:=bN (oF h)
theorem aM (h:DE X fl .FC e f):DE X fl .P e f:=bN (dh h)
theorem Gy (h:DE X fl .F e f):DE X fl .P e f:=bN (mL h)
theorem xJ {v:V} {d:D} (h:PE X e (tC v)) (hf:flat d=true) (hr:∀ H,RA X.K ok0 false H v d):DE X fl .FC e (dC d):=by
 refine PE.imp h fun σ H Q h=>?_
 obtain ⟨G,ow,δ,d',R,hd,q⟩:=h
 cases hd
 exact q v H (Same.refl H) (.inl ⟨hf,hr H⟩)
theorem rH {i j pos}:DE X fl .FC (.Constant (.int i) j pos) (dC (.int i)):=xJ Nx rfl fun _=>.int _
theorem nM {b j pos}:DE X fl .FC (.Constant (.bool b) j pos) (dC (.bool b)):=xJ Ra rfl fun _=>.bl _
theorem rJ {j pos}:DE X fl .FC (.Constant .none j pos) (dC .none):=xJ Ny rfl fun _=>.non
theorem J_ {x:Str} {i:Int} {pos:Pos} (h:∃ t,X.mg x=some (.int i t)) (hg:Gl X x:=by rfl) (hd:(x == ("__debug__" : Str))=false:=by decide):DE X fl .FC (.Name x pos) (dC (.int i)):=by
 obtain ⟨t,h⟩:=h
 exact xJ (wW (v:=.int i) hg h ⟨t,rfl⟩ hd) rfl fun _=>.int _
def BrO (K:PySem.W.Frag) (r:R2) (g:D→D→Option D):Prop:=∀ (H:Hp) (x y:V) (dx dy d:D) (Q:VK),RA K ok1 true H x dx→RA K ok1 true H y dy→g dx dy=some d→(∀ v,flat d=true→RA K ok0 false H v d→Q v H)→r x y H Q
theorem Ci {fa fb:FE} {g:D→D→Option D} {δ:DS} {d:D} (h:dOp g fa fb δ=some d):∃ x y,fa δ=some x∧fb δ=some y∧g x y=some d:=by
 unfold dOp at h
 cases ha:fa δ with
 | none=>rw [ha] at h;cases h
 | some x =>
  rw [ha,aK] at h
  cases hb:fb δ with
  | none=>rw [hb] at h;cases h
  | some y =>
   rw [hb,aK] at h
   exact ⟨x,y,rfl,rfl,h⟩
theorem bind1 {α β:Type} {x:Option α} {g:α→Option β} {d:β} (h:x.bind g=some d):∃ y,x=some y∧g y=some d:=by
 cases x with
 | none=>cases h
 | some y=>exact ⟨y,rfl,h⟩
theorem rK {r:R2} {g:D→D→Option D} {σ:St} {H:Hp} {Q:VK} (hb:BrO X.K r g) (h:tD X.K fl .FC (dOp g fa fb) σ H Q):tOp r (tD X.K fl .P fa) (tD X.K fl .P fb) σ H Q:=by
 obtain ⟨G,ow,δ,d,R,hf,q⟩:=h
 obtain ⟨x,y,e1,e2,e3⟩:=Ci hf
 refine ⟨G,ow,δ,x,R,e1,fun v H1 s1 r1=>⟨G,ow,δ,y,R.grow s1,e2,fun u H2 s2 r2=>?_⟩⟩
 exact hb H2 v u x y d Q (RA.same s2 r1) r2 e3 fun z hz rz=>q z H2 (s1.trans s2) (.inl ⟨hz,rz⟩)
theorem bH {op:Operator} {r:R2} {g:D→D→Option D} (ho:OpR X (binaryOp op) r) (hb:BrO X.K r g) (h1:DE X fl .P a fa) (h2:DE X fl .P b fb):DE X fl .FC (.BinOp a op b pos) (dOp g fa fb) :=
 PE.imp (Gj ho h1 h2) fun _ _ _ h=>rK hb h
theorem mC {op:CmpOp} {r:R2} {g:D→D→Option D} (ho:OpR X (compareOp op) r) (hb:BrO X.K r g) (h1:DE X fl .P a fa) (h2:DE X fl .P b fb) (hm:behindInMarks op b=false):DE X fl .FC (.Compare a [op] [b] pos) (dOp g fa fb) :=
 PE.imp (JH ho h1 h2 hm) fun _ _ _ h=>rK hb h
theorem cW {op:CmpOp} {r:R2} {g:D→D→Option D} (ho:OpR X (compareOp op) r) (hb:BrO X.K r g) (h1:DE X fl .P a fa) (h2:DE X fl .P b fb) (hm:behindInMarks op b=false):DT X fl (.Compare a [op] [b] pos) (bf (dOp g fa fb)):=by
 refine PT.imp (JK ho h1 h2 hm) fun σ H Q h=>?_
 obtain ⟨G,ow,δ,c,R,hf,q⟩:=h
 obtain ⟨d,e1,e2⟩:=bind1 hf
 cases d <;> first | (cases e2;done) | skip
 cases e2
 refine rK (fl:=fl) (fa:=fa) (fb:=fb) hb ⟨G,ow,δ,_,R,e1,fun v H' s r=>?_⟩
 obtain rfl:=(Rs.FC_C r).blE
 exact ⟨_,rfl,q H' s⟩
theorem oG (h:DE X fl .P e f) (he:∀ whole,isTrue e X.env whole=(do let v ← whole;standAt e.pos;holding [v] (truthy v)):=by intro _;rfl):DT X fl e (bf f):=by
 refine PT.imp (ug h he) fun σ H Q h=>?_
 obtain ⟨G,ow,δ,c,R,hf,q⟩:=h
 obtain ⟨d,e1,e2⟩:=bind1 hf
 cases d <;> first | (cases e2;done) | skip
 cases e2
 refine ⟨G,ow,δ,_,R,e1,fun v H' s r=>?_⟩
 obtain rfl:=RA.blE r
 exact ⟨_,rfl,q H' s⟩
theorem wu {K:PySem.W.Frag} {h:Int→Int→V} {g:Int→Int→D} (hf:∀ i j,flat (g i j)=true) (hr:∀ H i j,RA K ok0 false H (h i j) (g i j)):BrO K (rI0 h) (gI fun i j=>some (g i j)):=by
 intro H x y dx dy d Q rx ry e q
 unfold gI at e
 split at e
 ·next i j =>
  cases e
  exact ⟨i,j,rx.intE,ry.intE,q _ (hf i j) (hr H i j)⟩
 ·cases e
theorem Ka {K:PySem.W.Frag} {C:Int→Int→Prop} {h:Int→Int→V} {g:Int→Int→D} {c:Int→Int→Bool} (hc:∀ i j,c i j=true→C i j) (hf:∀ i j,flat (g i j)=true) (hr:∀ H i j,RA K ok0 false H (h i j) (g i j)) :
 BrO K (rI C h) (gI fun i j=>if c i j=true then some (g i j) else none):=by
 intro H x y dx dy d Q rx ry e q
 unfold gI at e
 split at e
 ·next i j =>
  dsimp only at e
  by_cases z:c i j=true
  ·rw [if_pos z] at e
   cases e
   exact ⟨i,j,rx.intE,ry.intE,hc i j z,q _ (hf i j) (hr H i j)⟩
  ·rw [if_neg z] at e
   cases e
 ·cases e
end
section
variable {X:Cx} {K:PySem.W.Frag}
theorem Kc {i j:Int} (h:uy i j=true):IntMulOk i j:=by
 unfold uy at h
 rw [Bool.or_eq_true,Bool.or_eq_true,bw] at h
 rcases h with (h | h) | ⟨h1,h2⟩
 ·exact IntMulOk.of_left (PySem.intBits_le_iff.mpr (of_decide_eq_true h))
 ·exact IntMulOk.of_right (PySem.intBits_le_iff.mpr (of_decide_eq_true h))
 ·exact PySem.IntMulOk.of_le (PySem.intBits_le_iff.mpr (of_decide_eq_true h1)) (PySem.intBits_le_iff.mpr (of_decide_eq_true h2)) (by decide)
theorem iV:OpR X (binaryOp .Mult) (rI (fun i j=>uy i j=true) fun i j=>.int (i * j)):=opI fun _ _ _ _ _ _ _ hc q=>mul_int q (Kc hc)
theorem Cj:OpR X (binaryOp .FloorDiv) (rI (fun i j=>Aj i j=true) fun i j=>.int (i.fdiv j)):=opI fun i j _ _ _ _ _ hc q=>by
 unfold Aj at hc
 rw [bw] at hc
 have h1:=of_decide_eq_true hc.1
 have h2:=of_decide_eq_true hc.2
 refine floordiv_int h1 q (.inl (PyProof.noPylong_of_log2 ?_))
 exact (Nat.log2_lt (by omega)).mpr h2
theorem Ke {i j:Int} (h:Ol i j=true):N_ i j:=by
 unfold Ol at h
 rw [bw,bw] at h
 have h1:=of_decide_eq_true h.1.1
 have h2:=of_decide_eq_true h.1.2
 exact ⟨h1,by omega,of_decide_eq_true h.2⟩
theorem f9:BrO K (rI0 fun i j=>.int (i + j)) dH:=wu (fun _ _=>rfl) fun _ _ _=>.int _
theorem uJ:BrO K (rI0 fun i j=>.int (i - j)) pI:=wu (fun _ _=>rfl) fun _ _ _=>.int _
theorem lR:BrO K (rI (fun i j=>uy i j=true) fun i j=>.int (i * j)) iY:=Ka (fun _ _ h=>h) (fun _ _=>rfl) fun _ _ _=>.int _
theorem M8:BrO K (rI (fun i j=>Aj i j=true) fun i j=>.int (i.fdiv j)) yQ:=Ka (fun _ _ h=>h) (fun _ _=>rfl) fun _ _ _=>.int _
theorem eU:BrO K (rI (fun _ j=>j ≠ 0) fun i j=>.int (i.fmod j)) cU:=Ka (fun _ _ h=>of_decide_eq_true h) (fun _ _=>rfl) fun _ _ _=>.int _
theorem uK:BrO K (rI N_ fun i j=>.int (i ^ j.toNat)) mK:=Ka (fun _ _ h=>Ke h) (fun _ _=>rfl) fun _ _ _=>.int _
theorem b_lt:BrO K (rI0 fun i j=>.bl (decide (i < j))) gLt:=wu (fun _ _=>rfl) fun _ _ _=>.bl _
theorem xK:BrO K (rI0 fun i j=>.bl (decide (i ≤ j))) gLe:=wu (fun _ _=>rfl) fun _ _ _=>.bl _
theorem Kf:BrO K (rI0 fun i j=>.bl (decide (j < i))) gGt:=wu (fun _ _=>rfl) fun _ _ _=>.bl _
theorem Oo:BrO K (rI0 fun i j=>.bl (decide (j ≤ i))) gGe:=wu (fun _ _=>rfl) fun _ _ _=>.bl _
theorem oH:BrO K (RB K) gEq:=by
 intro H x y dx dy d Q rx ry e q
 unfold gEq at e
 by_cases z:(SeqAt.shaped dx && SeqAt.shaped dy)=true
 ·rw [if_pos z] at e
  cases e
  rw [bw] at z
  exact ⟨dx,dy,rx.rd (SeqAt.canLay_of_shaped z.1),ry.rd (SeqAt.canLay_of_shaped z.2),z.1,z.2,q _ rfl (.bl _)⟩
 ·rw [if_neg z] at e
  cases e
theorem vJ:BrO K (RD K) gNe:=by
 intro H x y dx dy d Q rx ry e q
 unfold gNe at e
 by_cases z:(SeqAt.shaped dx && SeqAt.shaped dy)=true
 ·rw [if_pos z] at e
  cases e
  rw [bw] at z
  exact ⟨dx,dy,rx.rd (SeqAt.canLay_of_shaped z.1),ry.rd (SeqAt.canLay_of_shaped z.2),z.1,z.2,q _ rfl (.bl _)⟩
 ·rw [if_neg z] at e
  cases e
end
end D3
namespace D3
open PySem PySem.Spec PyProof.Rows L2 My
section
variable {X:Cx} {fl:List Fl} {e a b c:Expr} {es:List Expr} {st:Stmt} {sts body orelse:List Stmt} {k:Kd} {f fa fb fc:FE} {fs gs:FS} {ft gt:FT} {pos:Pos}
theorem uI.nx_imp {K:PySem.W.Frag} {G:Gh} {Dn:Ends} {N:St→Hp→Prop} {o:Oc} (h:uI K fl G Dn o) (hn:∀ δ',o ≠ .nx δ'):uI K fl G { Dn with nx:=N } o:=by
 cases o with
 | nx δ'=>exact absurd rfl (hn δ')
 | rt d=>exact h
 | bk δ'=>exact h
 | ct δ'=>exact h
 | ex c f v=>exact h
theorem dB:DSs X fl [] eH:=PSs.imp BW fun Dn σ H h=>by
 obtain ⟨G,ow,δ,o,R,hf,q⟩:=h
 cases hf
 exact q ow σ H R
theorem aR (h1:DS1 X fl st fs) (h2:DSs X fl sts gs):DSs X fl (st :: sts) (bF fs gs):=PSs.imp (uh h1 h2) fun Dn σ H h=>by
 obtain ⟨G,ow,δ,o,R,hf,q⟩:=h
 obtain ⟨o1,e1,e2⟩:=bind1 hf
 refine ⟨G,ow,δ,o1,R,e1,?_⟩
 cases o1 with
 | nx δ'=>exact fun ow' σ' H' R'=>⟨G,ow',δ',o,R',e2,q⟩
 | rt d=>cases e2;exact uI.nx_imp q (fun _ z=>by cases z)
 | bk d=>cases e2;exact uI.nx_imp q (fun _ z=>by cases z)
 | ct d=>cases e2;exact uI.nx_imp q (fun _ z=>by cases z)
 | ex c f v=>cases e2;exact q
theorem bh (h1:DS1 X fl st fs):DSs X fl [st] fs:=PSs.imp (wX h1) fun _ _ _ h=>h
theorem bT (h:DE X fl .R e f):DS1 X fl (.Return (some e) pos) (cP f):=PS.imp (z9 h) fun Dn σ H h=>by
 obtain ⟨G,ow,δ,o,R,hf,q⟩:=h
 obtain ⟨d,e1,e2⟩:=bind1 hf
 cases e2
 exact ⟨G,ow,δ,d,R,e1,fun v H' s r=>q v H' (R.same0.trans s) r⟩
theorem g_ (hc:DT X fl c ft) (h1:DSs X fl body fs) (h2:DSs X fl orelse gs):DS1 X fl (.If c body orelse pos) (sIf ft fs gs):=PS.imp (BZ hc h1 h2) fun Dn σ H h=>by
 obtain ⟨G,ow,δ,o,R,hf,q⟩:=h
 obtain ⟨t,e1,e2⟩:=bind1 hf
 refine ⟨G,ow,δ,t,R,e1,fun H' s=>?_⟩
 cases t with
 | true=>exact pL ⟨G,ow,δ,o,R.grow s,e2,q⟩
 | false=>exact qg ⟨G,ow,δ,o,R.grow s,e2,q⟩
theorem jH {α:Type} {l:List (Option α)} {i j:Nat} {x y:α} (h:(l.set i (some x))[j]? = some (some y)):(j=i∧x=y)∨(j ≠ i∧l[j]? = some (some y)):=by
 rw [iU] at h
 by_cases e:i=j
 ·subst e
  rw [if_pos rfl] at h
  by_cases z:i < l.length
  ·rw [if_pos z] at h
   cases h
   exact .inl ⟨rfl,rfl⟩
  ·rw [if_neg z] at h
   cases h
 ·rw [if_neg e] at h
  exact .inr ⟨fun z=>e z.symm,h⟩
theorem Rel.setA {K:PySem.W.Frag} {G:Gh} {ow:Ow} {σ:St} {H:Hp} {δ:DS} {i:Nat} {v:V} {d:D} (R:Rel K fl G ow σ H δ) (hfl:fl[i]? = some .A) (hi:i < σ.length) (r:RA K (okA ow) true H v d) :
 Rel K fl G ow (σ.set i (some v)) H (δ.set i (some (.d d))):=by
 have no:∀ a,ow i ≠ some a:=fun a z=>by
  obtain ⟨_,hz,_⟩:=R.own i a z
  rw [hfl] at hz
  rcases hz with ⟨z,_⟩ | ⟨z,_⟩ <;> cases z
 refine ⟨R.s0,R.s1,by rw [bK,bK];exact R.len,fun j a h=>?_,R.inj,R.pin,fun j d' h1 hn h2=>?_,fun j d' h1 hn h2 h3=>?_,R.nt,R.nd,R.ns,R.np,fun j d' hn h1=>?_⟩
 ·have hj:j ≠ i:=fun z=>no a (z ▸ h)
  obtain ⟨h0,hf,xs,ds,h1,h2,h3,h4⟩:=R.own j a h
  exact ⟨h0,hf,xs,ds,by rw [aY (Ne.symm hj)];exact h1,h2,h3,by rw [aY (Ne.symm hj)];exact h4⟩
 ·rcases jH h1 with ⟨rfl,e⟩ | ⟨hj,e⟩
  ·cases e
   exact ⟨v,by rw [cj hi],r⟩
  ·obtain ⟨v',h3,h4⟩:=R.dat j d' e hn h2
   exact ⟨v',by rw [aY (Ne.symm hj)];exact h3,h4⟩
 ·rcases jH h1 with ⟨rfl,e⟩ | ⟨hj,e⟩
  ·exact absurd hfl h2
  ·exact R.oo j d' e hn h2 h3
 ·rcases jH h1 with ⟨rfl,e⟩ | ⟨hj,e⟩
  ·rw [hfl] at hn;cases hn
  ·obtain ⟨v',h3,h4⟩:=R.nr j d' hn e
   exact ⟨v',by rw [aY (Ne.symm hj)];exact h3,h4⟩
def sW (ow:Ow) (i:Nat) (a:Option Addr):Ow:=⟨fun j=>if j=i then a else ow j,ow.n⟩
theorem iJ {ow:Ow} {i:Nat} {a:Option Addr}:sW ow i a i=a:=if_pos rfl
theorem fB {ow:Ow} {i j:Nat} {a:Option Addr} (h:j ≠ i):sW ow i a j=ow j:=if_neg h
theorem Rel.setO {K:PySem.W.Frag} {G:Gh} {ow:Ow} {σ:St} {H H':Hp} {δ:DS} {i:Nat} {v:V} {d:D} (R:Rel K fl G ow σ H δ) (s:Same H H') (hfl:fl[i]? = some .O) (hi:i < σ.length) (r:Rs K G.H0 ow H H' .F v d) :
 ∃ ow',Rel K fl G ow' (σ.set i (some v)) H' (δ.set i (some (.d d))):=by
 have R':=R.grow s
 have sub0:∀ b,okA ow b→okA (sW ow i none) b:=fun b z=>⟨fun j e=>by
  by_cases hj:j=i
  ·subst hj;rw [iJ] at e;cases e
  ·rw [fB hj] at e;exact z.1 j e,z.2⟩
 have nrs:∀ j d',isN fl[j]? = true→(δ.set i (some (.d d)))[j]? = some (some (.d d'))→∃ v',(σ.set i (some v))[j]? = some (some v')∧RT K H' v' d' (ow.n j)∧(ow.n j).Nodup:=fun j d' hn h1=>by
  rcases jH h1 with ⟨rfl,e⟩ | ⟨hj,e⟩
  ·rw [hfl] at hn;cases hn
  ·obtain ⟨v',h3,h4⟩:=R'.nr j d' hn e
   exact ⟨v',by rw [aY (Ne.symm hj)];exact h3,h4⟩
 rcases r with ⟨hfd,r⟩ | ⟨a,xs,ds,rfl,rfl,ha,hx,hr⟩
 ·refine ⟨sW ow i none,R'.s0,R'.s1,by rw [bK,bK];exact R.len,fun j a h=>?_,fun j j' a h h'=>?_,fun j h=>?_,fun j d' h1 hn h2=>?_,fun j d' h1 hn h2 h3=>?_,R'.nt,R'.nd,fun j j' a h h'=>?_,R'.np,nrs⟩
  ·have hj:j ≠ i:=fun z=>by subst z;rw [iJ] at h;cases h
   rw [fB hj] at h
   obtain ⟨h0,hf,xs,ds,h1,h2,h3,h4⟩:=R'.own j a h
   exact ⟨h0,hf,xs,ds,by rw [aY (Ne.symm hj)];exact h1,h2,h3.imp sub0 (fun z=>z),by rw [aY (Ne.symm hj)];exact h4⟩
  ·have hj:j ≠ i:=fun z=>by subst z;rw [iJ] at h;cases h
   have hj':j' ≠ i:=fun z=>by subst z;rw [iJ] at h';cases h'
   rw [fB hj] at h
   rw [fB hj'] at h'
   exact R.inj j j' a h h'
  ·have hj:j ≠ i:=fun z=>by subst z;rw [hfl] at h;cases h
   rw [fB hj]
   exact R.pin j h
  ·rcases jH h1 with ⟨rfl,e⟩ | ⟨hj,e⟩
   ·cases e
    exact ⟨v,by rw [cj hi],RA.flat hfd r⟩
   ·rw [fB hj] at h2
    obtain ⟨v',h3,h4⟩:=R'.dat j d' e hn h2
    exact ⟨v',by rw [aY (Ne.symm hj)];exact h3,h4.imp sub0 (fun z=>z)⟩
  ·rcases jH h1 with ⟨rfl,e⟩ | ⟨hj,e⟩
   ·cases e
    exact hfd
   ·rw [fB hj] at h3
    exact R.oo j d' e hn h2 h3
  ·by_cases hj:j'=i
   ·subst hj;rw [iJ] at h';cases h'
   ·rw [fB hj] at h';exact R.ns j j' a h h'
 ·have sub:∀ b,okA ow b∧b ≠ a→okA (sW ow i (some a)) b:=fun b z=>⟨fun j e=>by
   by_cases hj:j=i
   ·subst hj;rw [iJ] at e;exact z.2 (dM.inj e).symm
   ·rw [fB hj] at e;exact z.1.1 j e,z.1.2⟩
  have old:∀ {v:V} {d:D},RA K (okA ow) true H v d→RA K (okA (sW ow i (some a))) true H' v d:=fun r=>(r.track.imp (fun b z=>sub b ⟨z.1,fun e=>z.2 (e ▸ ha)⟩) (fun z=>z)).same s
  have olds:∀ {v:List V} {d:List D},RAs K (okA ow) true H v d→RAs K (okA (sW ow i (some a))) true H' v d:=fun r=>(r.track.imp (fun b z=>sub b ⟨z.1,fun e=>z.2 (e ▸ ha)⟩) (fun z=>z)).same s
  have nota:∀ j,ow j ≠ some a:=fun j z=>by
   obtain ⟨_,_,_,_,_,h2,_⟩:=R.own j a z
   rw [ha] at h2
   cases h2
  have hF:G.HF a=none:=R.s1.free ha
  refine ⟨sW ow i (some a),R'.s0,R'.s1,by rw [bK,bK];exact R.len,fun j b h=>?_,fun j j' b h h'=>?_,fun j h=>?_,fun j d' h1 hn h2=>?_,fun j d' h1 hn h2 h3=>?_,R'.nt,R'.nd,fun j j' b h h'=>?_,R'.np,nrs⟩
  ·by_cases hj:j=i
   ·subst hj
    rw [iJ] at h
    cases h
    exact ⟨R.same0.free ha,.inl ⟨hfl,hF⟩,xs,ds,by rw [cj hi],hx,hr.imp sub (fun z=>z),by rw [cj (by rw [← R.len];exact hi)]⟩
   ·rw [fB hj] at h
    obtain ⟨h0,hf,ys,ds',h1,h2,h3,h4⟩:=R.own j b h
    exact ⟨h0,hf,ys,ds',by rw [aY (Ne.symm hj)];exact h1,s _ _ h2,olds h3,by rw [aY (Ne.symm hj)];exact h4⟩
  ·by_cases hj:j=i
   ·by_cases hj':j'=i
    ·rw [hj,hj']
    ·subst hj
     rw [iJ] at h
     cases h
     rw [fB hj'] at h'
     exact absurd h' (nota j')
   ·rw [fB hj] at h
    by_cases hj':j'=i
    ·subst hj'
     rw [iJ] at h'
     cases h'
     exact absurd h (nota j)
    ·rw [fB hj'] at h'
     exact R.inj j j' b h h'
  ·have hj:j ≠ i:=fun z=>by subst z;rw [hfl] at h;cases h
   rw [fB hj]
   exact R.pin j h
  ·rcases jH h1 with ⟨rfl,e⟩ | ⟨hj,e⟩
   ·rw [iJ] at h2;cases h2
   ·rw [fB hj] at h2
    obtain ⟨v',h3,h4⟩:=R.dat j d' e hn h2
    exact ⟨v',by rw [aY (Ne.symm hj)];exact h3,old h4⟩
  ·rcases jH h1 with ⟨rfl,e⟩ | ⟨hj,e⟩
   ·rw [iJ] at h3;cases h3
   ·rw [fB hj] at h3
    exact R.oo j d' e hn h2 h3
  ·by_cases hj:j'=i
   ·subst hj
    rw [iJ] at h'
    cases h'
    exact (R.nt j a h).2.1.ne ha
   ·rw [fB hj] at h';exact R.ns j j' b h h'
theorem Rel.mut {K:PySem.W.Frag} {G:Gh} {ow:Ow} {σ:St} {H:Hp} {δ:DS} {i:Nat} {a:Addr} {ys:List V} {ds:List D} (R:Rel K fl G ow σ H δ) (hfl:fl[i]? = some .O) (ho:ow i=some a) (r:RAs K (okA ow) true H ys ds) :
 Rel K fl G ow σ (upd H a (.lst ys)) (δ.set i (some (.d (.list ds)))):=by
 obtain ⟨h0,hz,xs,ds0,e1,e2,e3,e4⟩:=R.own i a ho
 have na:¬ okA ow a:=fun z=>z.1 i ho
 have hF:G.HF a=none:=by
  rcases hz with ⟨_,z⟩ | ⟨z,_⟩
  ·exact z
  ·rw [hfl] at z;cases z
 have hi:i < δ.length:=by
  rcases mX i δ.length with z | z
  ·exact z
  ·rw [bI z] at e4;cases e4
 refine ⟨R.s0,fun b o hb=>?_,by rw [bK];exact R.len,fun j b h=>?_,R.inj,R.pin,fun j d' h1 hn h2=>?_,fun j d' h1 hn h2 h3=>?_,fun j b h=>?_,R.nd,R.ns,R.np,fun j d' hn h1=>?_⟩
 ·rw [dZ (fun z=>by subst z;rw [hF] at hb;cases hb)]
  exact R.s1 b o hb
 ·by_cases hj:j=i
  ·subst hj
   rw [ho] at h
   cases h
   exact ⟨h0,hz,ys,ds,e1,gk,r.upd e2 na,by rw [cj hi]⟩
  ·obtain ⟨h0',hf',zs,ds',h1,h2,h3,h4⟩:=R.own j b h
   have hb:b ≠ a:=fun z=>hj (R.inj j i a (z ▸ h) ho)
   exact ⟨h0',hf',zs,ds',h1,by rw [dZ hb];exact h2,h3.upd e2 na,by rw [aY (Ne.symm hj)];exact h4⟩
 ·rcases jH h1 with ⟨rfl,e⟩ | ⟨hj,e⟩
  ·rw [ho] at h2;cases h2
  ·obtain ⟨v',h3,h4⟩:=R.dat j d' e hn h2
   exact ⟨v',h3,h4.upd e2 na⟩
 ·rcases jH h1 with ⟨rfl,e⟩ | ⟨hj,e⟩
  ·rw [ho] at h3;cases h3
  ·exact R.oo j d' e hn h2 h3
 ·obtain ⟨g1,g2,g3⟩:=R.nt j b h
  refine ⟨g1,?_,g3⟩
  by_cases hb:b=a
  ·rw [hb,gk];exact ⟨_,rfl,inferInstance⟩
  ·rw [dZ hb];exact g2
 ·rcases jH h1 with ⟨rfl,e⟩ | ⟨hj,e⟩
  ·rw [hfl] at hn;cases hn
  ·obtain ⟨v',h3,h4,h5⟩:=R.nr j d' hn e
   exact ⟨v',h3,h4.upd e2 (fun z=>R.ns j i a z ho),h5⟩
theorem oZ {K:PySem.W.Frag} {G:Gh} {ow:Ow} {σ:St} {H:Hp} {δ:DS} {i:Nat} (R:Rel K fl G ow σ H δ) (h:i < δ.length):i < σ.length:=by rw [R.len];exact h
theorem Kg {i:Nat} {x:Str} {pos':Pos} (hfl:fl[i]? = some .A) (hN:X.N.Nodup) (hi:X.N[i]? = some x) (hv:X.env.scope.names.lookup x=some .local∨X.env.scope.names.lookup x=some .cell) (h:DE X fl .A e f)
 (hs:swapsWith e (some (.Name x pos')) pos.line X.env=pure false:=by rfl) (hfn:X.fn x=true∨X.env.scope.names.lookup x=some .local:=by first | exact .inl rfl | exact .inr rfl) :
 DS1 X fl (.Assign [.Name x pos'] e pos) (bx i f):=PS.imp (wY (i:=i) hN hi hv h hs hfn) fun Dn σ H h=>by
 obtain ⟨G,ow,δ,o,R,hf,q⟩:=h
 unfold bx at hf
 by_cases hl:i < δ.length
 ·rw [if_pos hl] at hf
  obtain ⟨d,e1,e2⟩:=bind1 hf
  cases e2
  exact ⟨G,ow,δ,d,R,e1,fun v H' s r=>q ow _ H' ((R.grow s).setA hfl (oZ R hl) r)⟩
 ·rw [if_neg hl] at hf
  cases hf
theorem nj {i:Nat} {x:Str} {pos':Pos} (hfl:fl[i]? = some .O) (hN:X.N.Nodup) (hi:X.N[i]? = some x) (hv:X.env.scope.names.lookup x=some .local∨X.env.scope.names.lookup x=some .cell) (h:DE X fl .F e f)
 (hs:swapsWith e (some (.Name x pos')) pos.line X.env=pure false:=by rfl) (hfn:X.fn x=true∨X.env.scope.names.lookup x=some .local:=by first | exact .inl rfl | exact .inr rfl) :
 DS1 X fl (.Assign [.Name x pos'] e pos) (bx i f):=PS.imp (wY (i:=i) hN hi hv h hs hfn) fun Dn σ H h=>by
 obtain ⟨G,ow,δ,o,R,hf,q⟩:=h
 unfold bx at hf
 by_cases hl:i < δ.length
 ·rw [if_pos hl] at hf
  obtain ⟨d,e1,e2⟩:=bind1 hf
  cases e2
  refine ⟨G,ow,δ,d,R,e1,fun v H' s r=>?_⟩
  obtain ⟨ow',R'⟩:=R.setO s hfl (oZ R hl) r
  exact q ow' _ H' R'
 ·rw [if_neg hl] at hf
  cases hf
theorem Kh {i:Nat} {x:Str} {pos:Pos} (hfl:fl[i]? = some .A) (hN:X.N.Nodup) (hi:X.N[i]? = some x) (hv:X.env.scope.names.lookup x=some .local∨X.env.scope.names.lookup x=some .cell)
 (hfn:X.fn x=true∨X.env.scope.names.lookup x=some .local:=by first | exact .inl rfl | exact .inr rfl):DG X fl [i] (.Name x pos) (gNl i) :=
 PG.imp (JD (i:=i) hN hi hv hfn) fun v σ H Q h=>by
 obtain ⟨G,ow,δ,d,δ',R,r,hf,q⟩:=h
 unfold gNl at hf
 by_cases hl:i < δ.length
 ·rw [if_pos hl] at hf
  cases hf
  exact q _ (R.setA hfl (oZ R hl) r) fun j hj=>aY (fun z=>hj (by rw [z];exact aU.mpr rfl))
 ·rw [if_neg hl] at hf
  cases hf
def U4 (K:PySem.W.Frag) (fl:List Fl) (tg:List Nat) (g:List D→DS→Option DS):TGs:=fun vs σ H Q=>∃ G ow δ ds δ',Rel K fl G ow σ H δ∧RAs K (okA ow) true H vs ds∧g ds δ=some δ'∧∀ σ',Rel K fl G ow σ' H δ'→(∀ j,j ∉ tg→σ'[j]? = σ[j]?)→Q σ' H
theorem PGs.imp {t t':TGs} (h:PGs X es t) (i:∀ v σ H Q,t' v σ H Q→t v σ H Q):PGs X es t':=fun pins s σ H v u Q I r q=>h pins s σ H v u Q I r (i v σ H Q q)
abbrev DGs (X:Cx) (fl:List Fl) (tg:List Nat) (es:List Expr) (g:List D→DS→Option DS):Prop:=PGs X es (U4 X.K fl tg g)
theorem iW:DGs X fl [] [] fZ:=PGs.imp JF fun vs σ H Q h=>by
 obtain ⟨G,ow,δ,ds,δ',R,r,hf,q⟩:=h
 cases r with
 | nil=>cases hf;exact ⟨rfl,q σ R fun _ _=>rfl⟩
 | cons _ _=>cases hf
theorem cJ {tg tg':List Nat} {g:FG} {gs:List D→DS→Option DS} (h1:DG X fl tg e g) (h2:DGs X fl tg' es gs) (hs:(assignEach (e :: es) X.env).map (·.2)=assign e X.env :: (assignEach es X.env).map (·.2):=by rfl) :
 DGs X fl (tg++tg') (e :: es) (bM g gs):=PGs.imp (Gd h1 h2 hs) fun vs σ H Q h=>by
 obtain ⟨G,ow,δ,ds,δ',R,r,hf,q⟩:=h
 cases r with
 | nil=>cases hf
 | cons r1 r2 =>
  obtain ⟨δ1,e1,e2⟩:=bind1 hf
  refine ⟨_,_,rfl,G,ow,δ,_,δ1,R,r1,e1,fun σ' R' k1=>⟨G,ow,δ1,_,δ',R',r2,e2,fun σ'' R'' k2=>q σ'' R'' fun j hj=>?_⟩⟩
  rw [k2 j fun z=>hj (aQ _ z),k1 j fun z=>hj (bD _ z)]
theorem jJ {tg:List Nat} {gs:List D→DS→Option DS} {k n:Nat} (hc:X.calm=true) (h:DGs X fl tg es gs) (hn:(assignEach es X.env).length=n:=by rfl) (hst:(assignEach es X.env).findIdx? (·.1)=none:=by rfl) :
 DG X fl tg (.Tuple es k pos) (gTn n gs):=PG.imp (NT (n:=n) hc h hn hst) fun v σ H Q h=>by
 obtain ⟨G,ow,δ,d,δ',R,r,hf,q⟩:=h
 unfold gTn at hf
 split at hf
 ·next l =>
  by_cases z:l.length=n
  ·rw [if_pos z] at hf
   obtain ⟨a,xs,rfl,hx,hr⟩:=r.tupE
   exact ⟨a,xs,rfl,hx,by rw [hr.length];exact z,G,ow,δ,l,δ',R,hr,hf,q⟩
  ·rw [if_neg z] at hf
   cases hf
 ·cases hf
theorem Oq {tg:List Nat} {g:FG} {t:Expr} (h:DE X fl .A e f) (hg:DG X fl tg t g) (hs:swapsWithSole [t] e pos.line X.env=pure false:=by rfl) (hw:swappedStores [t] e X.env=pure none:=by rfl)
 (h1:(assignEach [t] X.env).map (·.2)=[assign t X.env]:=by rfl):DS1 X fl (.Assign [t] e pos) (J7 f g):=PS.imp (Ge h hg hs hw h1) fun Dn σ H h=>by
 obtain ⟨G,ow,δ,o,R,hf,q⟩:=h
 obtain ⟨d,e1,e2⟩:=bind1 hf
 obtain ⟨δ',e3,e4⟩:=bind1 e2
 cases e4
 exact ⟨G,ow,δ,d,R,e1,fun v H' s r=>⟨G,ow,δ,d,δ',R.grow s,r,e3,fun σ' R' _=>q ow σ' H' R'⟩⟩
end
end D3
namespace D3
open PySem PySem.Spec PyProof.Rows L2 My
section
variable {X:Cx} {fl:List Fl} {e a b c:Expr} {es:List Expr} {st:Stmt} {sts body orelse:List Stmt} {k:Kd} {f fa fb fc:FE} {fs gs:FS} {ft gt:FT} {pos:Pos}
theorem Al {K:PySem.W.Frag} {G:Gh} {ow:Ow} {σ:St} {H:Hp} {δ:DS} {i:Nat} {l:List D} (R:Rel K fl G ow σ H δ) (hfl:fl[i]? = some .O) (h:ao i δ=some (.list l)) :
 ∃ a xs,ow i=some a∧σ[i]? = some (some (.ref a))∧H a=some (.lst xs)∧RAs K (okA ow) true H xs l:=by
 have e:=tM h
 cases ho:ow i with
 | none =>
  have z:=R.oo i _ e (by rw [hfl];rfl) (by rw [hfl];simp) ho
  simp [flat] at z
 | some a =>
  obtain ⟨h0,_,xs,ds,h1,h2,h3,h4⟩:=R.own i a ho
  rw [e] at h4
  cases h4
  exact ⟨a,xs,rfl,h1,h2,h3⟩
theorem o7 {i:Nat} {x:Str} {vpos apos cpos:Pos} (hfl:fl[i]? = some .O) (h:DE X fl .A e f) (hN:X.N[i]? = some x) (hv:Vis X.env.scope x:=by first | exact Or.inl rfl | exact Or.inr (Or.inl rfl) | exact Or.inr (Or.inr rfl)) (hd:(x == ("__debug__" : Str))=false:=by decide)
 (hcd:(x == ("__classdict__" : Str))=false:=by decide)
 (hs:swapsWith (.Call (.Attribute (.Name x vpos) "append" apos) [e] [] cpos) none pos.line X.env=pure false:=by rfl)
 (hbase:attributeBase (.Name x vpos) "append" X.env (eval (.Name x vpos) X.env)=eval (.Name x vpos) X.env:=by rfl)
 (hfew:((backTo cpos (starEach [e] X.env)).all (fun x=>!x.1) && (backToKw cpos (keywordEach [] X.env)).all (fun x=>x.1.isSome)
  && decide (([e]:List Expr).length + ([]:List Keyword).length + (if ([]:List Keyword).isEmpty then 0 else 1) < 30))=true:=by rfl)
 (hline:(apos.endLine == cpos.line)=true:=by rfl) (hst:starEach [e] X.env=(false,eval e X.env) :: starEach [] X.env:=by rfl) (hplain:(backTo cpos (starEach [] X.env)).any (·.1)=false:=by rfl) :
 DS1 X fl (.Expr (.Call (.Attribute (.Name x vpos) "append" apos) [e] [] cpos) pos) (pq i f) :=
 PS.imp (BX (M6 PySem.F.plainAttrs_list PySem.F.slot_list_append PySem.F.type_list_append rE (lg hN hv hd hcd) (eV h jo hst) hbase hfew hline hst hplain) hs) fun Dn σ H h=>by
 obtain ⟨G,ow,δ,o,R,hf,q⟩:=h
 obtain ⟨x,e1,hf1⟩:=bind1 hf
 obtain ⟨d,e2,hf2⟩:=bind1 hf1
 clear hf hf1
 have hf:=hf2
 clear hf2
 split at hf
 case h_2=>cases hf
 next l =>
 by_cases hl:l.length < 1000000
 ·rw [if_pos hl] at hf
  cases hf
  obtain ⟨a,xs,ho,h1,h2,h3⟩:=Al R hfl e1
  refine ⟨_,h1,.inl ⟨rfl,_,SqL.of h2⟩,G,ow,δ,d,R,e2,fun v H' s r=>?_⟩
  have R':=R.grow s
  refine ⟨a,xs,v,rfl,rfl,s _ _ h2,by rw [h3.length];exact Nat.lt_trans hl (by decide),?_⟩
  exact q ow σ _ (R'.mut hfl ho ((h3.same s).append (.cons r .nil)))
 ·rw [if_neg hl] at hf
  cases hf
theorem xM {i:Nat} {x:Str} {vpos spos:Pos} {ke:Expr} {fk:FE} (hfl:fl[i]? = some .O) (h:DE X fl .A e f) (hk:DE X fl .P ke fk) (hN:X.N[i]? = some x) (hv:Vis X.env.scope x:=by first | exact Or.inl rfl | exact Or.inr (Or.inl rfl) | exact Or.inr (Or.inr rfl)) (hd:(x == ("__debug__" : Str))=false:=by decide)
 (hcd:(x == ("__classdict__" : Str))=false:=by decide) (ha:∀ v,assign (.Subscript (.Name x vpos) ke spos) X.env v=(do
  let ov ← holding [v] (eval (.Name x vpos) X.env)
  let iv ← holding [v,ov] (eval ke X.env)
  standAt spos
  holding [v,ov,iv] (setItem ov iv v)
  release [v,ov,iv] []):=by intro _;rfl)
 (hs:swapsWithSole [.Subscript (.Name x vpos) ke spos] e pos.line X.env=pure false:=by rfl) (hw:swappedStores [.Subscript (.Name x vpos) ke spos] e X.env=pure none:=by rfl)
 (h1:(assignEach [.Subscript (.Name x vpos) ke spos] X.env).map (·.2)=[assign (.Subscript (.Name x vpos) ke spos) X.env]:=by rfl) :
 DS1 X fl (.Assign [.Subscript (.Name x vpos) ke spos] e pos) (nU i fk f) :=
 PS.imp (Ge h (NZ (lg hN hv hd hcd) hk set_list ha) hs hw h1) fun Dn σ H h=>by
 obtain ⟨G,ow,δ,o,R,hf,q⟩:=h
 obtain ⟨d,e2,hf1⟩:=bind1 hf
 obtain ⟨x,e1,hf2⟩:=bind1 hf1
 obtain ⟨k,e3,hf3⟩:=bind1 hf2
 clear hf hf1 hf2
 have hf:=hf3
 clear hf3
 split at hf
 case h_2=>cases hf
 next l j =>
 obtain ⟨n,e4,e5⟩:=bind1 hf
 cases e5
 obtain ⟨a,xs,ho,h1,h2,h3⟩:=Al R hfl e1
 refine ⟨G,ow,δ,d,R,e2,fun v H' s r=>⟨_,h1,G,ow,δ,_,R.grow s,e3,fun u H2 s2 r2=>?_⟩⟩
 obtain rfl:=RA.intE r2
 have R2:=R.grow (s.trans s2)
 refine ⟨a,xs,j,n,rfl,rfl,(s.trans s2) _ _ h2,by rw [h3.length];exact e4,?_⟩
 exact q ow σ _ (R2.mut hfl ho (RAs.set (RA.same s2 r) n (h3.same (s.trans s2))))
def M9 (K:PySem.W.Frag) (ow:Ow) (L:List Nat) (H1:Hp) (J:It) (l:List D):Prop:=∀ H2:Hp,(∀ b o,H1 b=some o→(∀ i,ow i=some b→i ∈ L)→(∀ i,b ∉ ow.n i)→H2 b=some o)→∀ i:Nat,
 (∀ d,l[i]? = some d→J.go i H2∧∀ x H3,J.yld i H2 x H3→Same H2 H3∧RA K (fun b=>okA ow b∧H1 b ≠ none) true H3 x d)∧(l.length ≤ i→J.stop i H2)
def tDI (K:PySem.W.Frag) (fl:List Fl) (L:List Nat) (fi:FA):TI:=fun σ H R'=>∃ G ow δ l,Rel K fl G ow σ H δ∧fi δ=some l∧∀ J H1,Same H H1→M9 K ow L H1 J l→R' J H1
abbrev DI (X:Cx) (fl:List Fl) (L:List Nat) (tg iter:Expr) (fi:FA):Prop:=PI X tg iter (tDI X.K fl L fi)
theorem PI.imp {tg iter:Expr} {t t':TI} (h:PI X tg iter t) (i:∀ σ H R',t' σ H R'→t σ H R'):PI X tg iter t':=fun pins s σ H R' I q=>h pins s σ H R' I (i σ H R' q)
section
variable {K:PySem.W.Frag} {ok:Ok} {pl:Bool} {H1 H2:Hp} {ow:Ow} {L:List Nat}
theorem nm {b:Addr} {o:HO} (hl:∀ i b,ow i=some b→∃ xs,H1 b=some (.lst xs)) (h:H1 b=some o) (hn:∀ xs,o ≠ .lst xs):∀ i,ow i=some b→i ∈ L:=fun i e=>by
 obtain ⟨xs,z⟩:=hl i b e
 rw [h] at z
 exact absurd (dM.inj z) (hn xs)
theorem nm2 {b:Addr} {o:HO} (hl:∀ i b,b ∈ ow.n i→Chd (H1 b)) (h:H1 b=some o) (hn:Chg o→False):∀ i,b ∉ ow.n i:=fun i e=>by
 obtain ⟨u,z,c⟩:=hl i b e
 rw [h] at z
 cases z
 exact hn c
mutual
theorem RA.keep (hk:∀ b o,H1 b=some o→(∀ i,ow i=some b→i ∈ L)→(∀ i,b ∉ ow.n i)→H2 b=some o) (hl:∀ i b,ow i=some b→∃ xs,H1 b=some (.lst xs)) (hm:∀ i b,b ∈ ow.n i→Chd (H1 b)) (ho:∀ b,ok b→okA ow b):∀ {v:V} {d:D},RA K ok pl H1 v d→RA K ok pl H2 v d
 | _,_,.non=>.non
 | _,_,.bl b=>.bl b
 | _,_,.int i=>.int i
 | _,_,.str x=>.str x
 | _,_,.lst e k q=>.lst (hk _ _ e (fun i z=>absurd z ((ho _ k).1 i)) (ho _ k).2) k (RAs.keep hk hl hm ho q)
 | _,_,.lsk e k q=>.lsk (by
  rcases e with ⟨o,e⟩ | e
  ·exact .inl ⟨o,hk _ _ e (nm hl e (by intro xs z;cases z)) (nm2 hm e Chg.frz)⟩
  ·exact .inr e) k (RAs.keep hk hl hm ho q)
 | _,_,.tup e q=>.tup (hk _ _ e (nm hl e (by intro xs z;cases z)) (nm2 hm e Chg.tup)) (RAs.keep hk hl hm ho q)
 | _,_,.dic e g k=>.dic (hk _ _ e (fun i z=>absurd z ((ho _ k).1 i)) (ho _ k).2) (g.imp fun _ _ t=>hk _ _ t (nm hl t (by intro xs z;cases z)) (nm2 hm t Chg.tup)) k
 | _,_,.dik e g k=>.dik (hk _ _ e (nm hl e (by intro xs z;cases z)) (nm2 hm e Chg.frz)) (g.imp fun _ _ t=>hk _ _ t (nm hl t (by intro xs z;cases z)) (nm2 hm t Chg.tup)) k
theorem RAs.keep (hk:∀ b o,H1 b=some o→(∀ i,ow i=some b→i ∈ L)→(∀ i,b ∉ ow.n i)→H2 b=some o) (hl:∀ i b,ow i=some b→∃ xs,H1 b=some (.lst xs)) (hm:∀ i b,b ∈ ow.n i→Chd (H1 b)) (ho:∀ b,ok b→okA ow b):∀ {v:List V} {d:List D},RAs K ok pl H1 v d→RAs K ok pl H2 v d
 | _,_,.nil=>.nil
 | _,_,.cons e q=>.cons (RA.keep hk hl hm ho e) (RAs.keep hk hl hm ho q)
end
end
theorem Rel.ownL {K:PySem.W.Frag} {G:Gh} {ow:Ow} {σ:St} {H:Hp} {δ:DS} (R:Rel K fl G ow σ H δ):∀ i b,ow i=some b→∃ xs,H b=some (.lst xs):=fun i b e=>by
 obtain ⟨_,_,xs,_,_,h2,_⟩:=R.own i b e
 exact ⟨xs,h2⟩
theorem Rel.ownC {K:PySem.W.Frag} {G:Gh} {ow:Ow} {σ:St} {H:Hp} {δ:DS} (R:Rel K fl G ow σ H δ):∀ i b,b ∈ ow.n i→Chd (H b):=fun i b e=>(R.nt i b e).2.1
theorem rM {K:PySem.W.Frag} {G:Gh} {ow:Ow} {σ:St} {H Hb:Hp} {δ:DS} {L:List Nat} {v:V} {l:List D} (R:Rel K fl G ow σ H δ) (r:Rs K G.H0 ow Hb H (.B L) v (.list l)):∃ a xs,v = .ref a∧SqL K H a xs ∧
 ∀ H2:Hp,(∀ b o,H b=some o→(∀ i,ow i=some b→i ∈ L)→(∀ i,b ∉ ow.n i)→H2 b=some o)→SqL K H2 a xs∧RAs K (fun b=>okA ow b∧H b ≠ none) true H2 xs l:=by
 rcases r with r | ⟨i,hi,a,xs,ds,ho,rfl,e,hx,hr⟩
 ·cases r with
  | lst e k q=>exact ⟨_,_,rfl,SqL.of e,fun H2 hk=>⟨SqL.of (hk _ _ e (fun i z=>absurd z (k.1 i)) k.2),RAs.keep hk R.ownL R.ownC (fun b z=>z.1) q.track⟩⟩
  | lsk e k q=>exact ⟨_,_,rfl,e.sq,fun H2 hk=>⟨SqK.sq (by
   rcases e with ⟨o,e⟩ | e
   ·exact .inl ⟨o,hk _ _ e (nm R.ownL e (by intro xs z;cases z)) (nm2 R.ownC e Chg.frz)⟩
   ·exact .inr e),RAs.keep hk R.ownL R.ownC (fun b z=>z.1) q.track⟩⟩
 ·cases e
  exact ⟨a,xs,rfl,SqL.of hx,fun H2 hk=>⟨SqL.of (hk _ _ hx (fun j z=>by rw [R.inj j i a z ho];exact hi) (fun j z=>R.ns j i a z ho)),RAs.keep hk R.ownL R.ownC (fun b z=>z.1) hr.track⟩⟩
theorem jj {tg:Expr} {L:List Nat} (h:DE X fl (.B L) e f):DI X fl L tg e (lG f):=PI.imp (Ca h) fun σ H R' h=>by
 obtain ⟨G,ow,δ,l,R,hf,q⟩:=h
 obtain ⟨d,e1,e2⟩:=bind1 hf
 cases d <;> first | (cases e2;done) | skip
 cases e2
 refine ⟨G,ow,δ,_,R,e1,fun v H1 s r=>?_⟩
 obtain ⟨a,xs,rfl,hx,keep⟩:=rM (R.grow s) r
 refine ⟨a,rfl,⟨xs,hx⟩,q _ _ s fun H2 k2 i=>?_⟩
 obtain ⟨k3,k4⟩:=keep H2 k2
 refine ⟨fun d hd=>?_,fun hl=>⟨xs,k3,by rw [k4.length];exact hl⟩⟩
 obtain ⟨y,hy,ry⟩:=k4.get hd
 refine ⟨⟨xs,y,k3,hy⟩,fun x H3 hyl=>?_⟩
 obtain ⟨e,hz⟩:=hyl
 subst e
 have:some y=some x:=hy.symm.trans (hz xs k3)
 cases this
 exact ⟨Same.refl _,ry⟩
theorem Gz (lo hi:Int):(gB lo hi).length=(hi - lo).toNat:=by simp [gB]
theorem GC {K:PySem.W.Frag} {ow:Ow} {L:List Nat} {H1:Hp} (lo hi:Int):M9 K ow L H1 (Itr lo (hi - lo).toNat) (gB lo hi):=by
 intro H2 _ i
 refine ⟨fun d hd=>?_,fun hl=>by rw [Gz] at hl;exact hl⟩
 unfold gB at hd
 rw [bG] at hd
 by_cases hi':i < (hi - lo).toNat
 ·rw [gQ hi'] at hd
  cases hd
  refine ⟨hi',fun x H3 hy=>?_⟩
  obtain ⟨e,e2⟩:=hy
  subst e e2
  exact ⟨Same.refl _,.int _⟩
 ·rw [bI (by simpa using hi')] at hd
  cases hd
theorem Ck {i:Int} (h:uz i=true) : -(2 ^ 62) ≤ i∧i < 2 ^ 62:=by
 unfold uz at h
 rw [bw] at h
 exact ⟨of_decide_eq_true h.1,of_decide_eq_true h.2⟩
theorem gW {tg:Expr} {L:List Nat} {p:Pos} {fa:FA} (hg:Gl X "range") (hm:X.mg "range" = none) (h:DA X fl [a] fa) (hs:starEach [a] X.env=[(false,eval a X.env)]:=by rfl):DI X fl L tg (.Call (.Name "range" p) [a] [] pos) (j9 fa) :=
 PI.imp (Dt hg hm h hs) fun σ H R' h=>by
 obtain ⟨G,ow,δ,l,R,hf,q⟩:=h
 obtain ⟨ds,e1,e2⟩:=bind1 hf
 split at e2
 ·next j =>
  by_cases z:uz j=true
  ·rw [if_pos z] at e2
   cases e2
   refine ⟨G,ow,δ,_,R,e1,fun vs H1 s r=>?_⟩
   cases r with
   | cons r1 r2 =>
    cases r2
    obtain rfl:=r1.intE
    refine ⟨j,rfl,(Ck z).1,(Ck z).2,?_⟩
    have w:=GC (K:=X.K) (ow:=ow) (L:=L) (H1:=H1) 0 j
    rw [qd] at w
    exact q _ _ s w
  ·rw [if_neg z] at e2
   cases e2
 ·cases e2
def lock (L:List Nat) (fl:List Fl):List Fl:=fl.mapIdx fun i x=>if x = .O∧i ∈ L then .L else x
theorem jW {L:List Nat} {i:Nat}:(lock L fl)[i]? = (fl[i]?).map fun x=>if x = .O∧i ∈ L then .L else x:=by
 unfold lock
 rw [fj]
theorem GD {L:List Nat} {i:Nat}:(lock L fl)[i]? = some .A↔fl[i]? = some .A:=by
 rw [jW]
 cases h:fl[i]? with
 | none=>simp
 | some x =>
  cases x <;> simp
  by_cases z:i ∈ L <;> simp [z]
theorem xO {L:List Nat} {i:Nat} (h:(lock L fl)[i]? = some .O):fl[i]? = some .O∧i ∉ L:=by
 rw [jW] at h
 cases e:fl[i]? with
 | none=>rw [e] at h;simp at h
 | some x =>
  rw [e] at h
  cases x <;> simp at h
  by_cases z:i ∈ L
  ·simp [z] at h
  ·exact ⟨rfl,z⟩
theorem Am {L:List Nat} {i:Nat} (h:fl[i]? = some .L):(lock L fl)[i]? = some .L:=by
 rw [jW,h]
 simp
theorem Cp {L:List Nat} {i:Nat} (h:fl[i]? = some .O) (hi:i ∈ L):(lock L fl)[i]? = some .L:=by
 rw [jW,h]
 simp [hi]
theorem Cq {L:List Nat} {i:Nat} (h:fl[i]? = some .O) (hi:i ∉ L):(lock L fl)[i]? = some .O:=by
 rw [jW,h]
 simp [hi]
theorem xP {L:List Nat} {i:Nat}:(lock L fl)[i]? = some .N↔fl[i]? = some .N:=by
 rw [jW]
 cases h:fl[i]? with
 | none=>simp
 | some x =>
  cases x <;> simp
  by_cases z:i ∈ L <;> simp [z]
theorem Ao {L:List Nat} {i:Nat}:(lock L fl)[i]? = some .M↔fl[i]? = some .M:=by
 rw [jW]
 cases h:fl[i]? with
 | none=>simp
 | some x =>
  cases x <;> simp
  by_cases z:i ∈ L <;> simp [z]
theorem mO {L:List Nat} {i:Nat}:isN (lock L fl)[i]? = isN fl[i]?:=by
 rw [jW]
 cases h:fl[i]? with
 | none=>rfl
 | some x =>
  cases x <;> simp [isN]
  by_cases z:i ∈ L <;> simp [z]
def Let (fl':List Fl) (ow:Ow) (b:Addr):Prop:=(∃ j,ow j=some b∧fl'[j]? = some .O)∨∃ j,b ∈ ow.n j∧fl'[j]? = some .N
open Classical in
noncomputable def ghL (fl':List Fl) (G:Gh) (ow:Ow) (H:Hp):Gh:=⟨G.H0,fun b=>if Let fl' ow b then none else H b,ow,ow.n,G.tb⟩
open Classical in
theorem jT {fl':List Fl} {G:Gh} {ow:Ow} {H:Hp} {b:Addr} (h:¬ Let fl' ow b):(ghL fl' G ow H).HF b=H b:=by
 unfold ghL
 dsimp only
 rw [if_neg h]
open Classical in
theorem Aq {fl':List Fl} {G:Gh} {ow:Ow} {H:Hp} {b:Addr} (h:Let fl' ow b):(ghL fl' G ow H).HF b=none:=by
 unfold ghL
 dsimp only
 rw [if_pos h]
theorem Rel.lock {K:PySem.W.Frag} {G:Gh} {ow:Ow} {σ:St} {H:Hp} {δ:DS} (L:List Nat) (R:Rel K fl G ow σ H δ):Rel K (lock L fl) (ghL (lock L fl) G ow H) ow σ H δ:=by
 refine ⟨fun b o hb=>?_,fun b o hb=>?_,R.len,fun i a h=>?_,R.inj,fun i h=>rfl,fun i d h1 hn h2=>R.dat i d h1 (by rw [mO] at hn;exact hn) h2,fun i d h1 hn h2 h3=>R.oo i d h1 (by rw [mO] at hn;exact hn) (fun z=>h2 (GD.mpr z)) h3,fun i a h=>?_,R.nd,R.ns,fun i h=>rfl,fun i d hn h1=>R.nr i d (by rw [mO] at hn;exact hn) h1⟩
 ·have hb':G.H0 b=some o:=hb
  rw [jT]
  ·exact R.same0 b o hb'
  ·rintro (⟨j,e,_⟩ | ⟨j,e,_⟩)
   ·have:=(R.own j b e).1
    rw [hb'] at this
    cases this
   ·have:=(R.nt j b e).1
    rw [hb'] at this
    cases this
 ·by_cases z:Let (D3.lock L fl) ow b
  ·rw [Aq z] at hb;cases hb
  ·rw [jT z] at hb;exact hb
 ·obtain ⟨h0,hf,xs,ds,h1,h2,h3,h4⟩:=R.own i a h
  refine ⟨h0,?_,xs,ds,h1,h2,h3,h4⟩
  have out:(D3.lock L fl)[i]? = some .L→(ghL (D3.lock L fl) G ow H).HF a=H a:=fun hl=>jT (by
   rintro (⟨j,e,hj⟩ | ⟨j,e,hj⟩)
   ·rw [R.inj j i a e h,hl] at hj
    cases hj
   ·exact R.ns j i a e h)
  rcases hf with ⟨hf,_⟩ | ⟨hf,_⟩
  ·by_cases hi:i ∈ L
   ·exact .inr ⟨Cp hf hi,xs,by rw [out (Cp hf hi)];exact h2⟩
   ·exact .inl ⟨Cq hf hi,Aq (.inl ⟨i,h,Cq hf hi⟩)⟩
  ·exact .inr ⟨Am hf,xs,by rw [out (Am hf)];exact h2⟩
 ·obtain ⟨g1,g2,g3⟩:=R.nt i a h
  refine ⟨g1,g2,?_⟩
  rcases g3 with ⟨z,_⟩ | z
  ·exact .inl ⟨xP.mpr z,Aq (.inr ⟨i,h,xP.mpr z⟩)⟩
  ·exact .inr (Ao.mpr z)
theorem Rel.unlock {K:PySem.W.Frag} {G:Gh} {ow ow':Ow} {σ σ':St} {H H':Hp} {δ δ':DS} {L:List Nat} (R:Rel K fl G ow σ H δ) (R':Rel K (D3.lock L fl) (ghL (D3.lock L fl) G ow H) ow' σ' H' δ'):Rel K fl G ow' σ' H' δ':=by
 have sub:Same G.HF (ghL (D3.lock L fl) G ow H).HF:=fun b o hb=>by
  rw [jT]
  ·exact R.s1 b o hb
  ·rintro (⟨j,e,hj⟩ | ⟨j,e,hj⟩)
   ·rcases (R.own j b e).2.1 with ⟨_,z⟩ | ⟨z,_⟩
    ·rw [hb] at z;cases z
    ·have:=(xO hj).1
     rw [z] at this
     cases this
   ·rcases (R.nt j b e).2.2 with ⟨_,z⟩ | z
    ·rw [hb] at z;cases z
    ·have:=xP.mp hj
     rw [z] at this
     cases this
 refine ⟨R.s0,sub.trans R'.s1,R'.len,fun i a h=>?_,R'.inj,fun i h=>?_,fun i d h1 hn h2=>R'.dat i d h1 (by rw [mO];exact hn) h2,fun i d h1 hn h2 h3=>R'.oo i d h1 (by rw [mO];exact hn) (fun z=>h2 (GD.mp z)) h3,fun i a h=>?_,R'.nd,R'.ns,fun i h=>?_,fun i d hn h1=>R'.nr i d (by rw [mO];exact hn) h1⟩
 ·obtain ⟨h0,hf,rest⟩:=R'.own i a h
  refine ⟨h0,?_,rest⟩
  rcases hf with ⟨hf,hz⟩ | ⟨hf,_⟩
  ·exact .inl ⟨(xO hf).1,sub.free hz⟩
  ·have e:ow' i=ow i:=R'.pin i hf
   rw [e] at h
   exact (R.own i a h).2.1
 ·have e:ow' i=ow i:=R'.pin i (Am h)
  rw [e]
  exact R.pin i h
 ·obtain ⟨g1,g2,g3⟩:=R'.nt i a h
  rcases g3 with ⟨z,hz⟩ | z
  ·exact ⟨g1,g2,.inl ⟨xP.mp z,sub.free hz⟩⟩
  ·exact ⟨g1,g2,.inr (Ao.mp z)⟩
 ·have e:ow'.n i=ow.n i:=R'.np i (Ao.mpr h)
  rw [e]
  exact R.np i h
theorem oJ {tg iter:Expr} {L:List Nat} {T:List Nat} {fi:FA} {g:FG} (hp:PassesOwn (model X.prog X.w) X.A X.env X.xe) (hc:X.calm=true) (hi:DI X fl L tg iter fi) (hg:DG X (lock L fl) T tg g) (hb:DSs X (lock L fl) body fs)
 (hs:∀ x,foldedSetIterable iter X.env x=pure x:=by intro _;rfl):DS1 X fl (.For tg iter body [] pos) (nR fi g fs):=PS.imp (Gi hp hc hi hg hb hs) fun Dn σ H h=>by
 obtain ⟨G,ow,δ,o,R0,hf,q⟩:=h
 obtain ⟨l,e1,e2⟩:=bind1 hf
 refine ⟨G,ow,δ,l,R0,e1,fun J H1 s wk=>?_⟩
 have R1:=R0.grow s
 have RL:=R1.lock L
 refine ⟨fun i m σ' H'=>m=l.length - i∧∃ ow' δ',Rel X.K (lock L fl) (ghL (lock L fl) G ow H1) ow' σ' H' δ'∧mJ g fs (l.drop i) δ'=some o,⟨_,rfl,ow,δ,RL,by simpa using e2⟩,?_⟩
 rintro i m σ' H' ⟨rfl,ow',δ',R',hd⟩
 have kept:∀ b o,H1 b=some o→(∀ i,ow i=some b→i ∈ L)→(∀ i,b ∉ ow.n i)→H' b=some o:=fun b o hb hl hn=>R'.s1 b o (by
  rw [jT]
  ·exact hb
  ·rintro (⟨j,e,hj⟩ | ⟨j,e,_⟩)
   ·exact (xO hj).2 (hl j e)
   ·exact hn j e)
 obtain ⟨w1,w2⟩:=wk H' kept i
 by_cases hlt:i < l.length
 ·have hdrop:l.drop i=l[i] :: l.drop (i + 1):=jk hlt
  rw [hdrop,mJ] at hd
  obtain ⟨δ1,e3,hd⟩:=bind1 hd
  obtain ⟨o1,e4,hd⟩:=bind1 hd
  obtain ⟨go,yl⟩:=w1 l[i] (aV hlt)
  refine .inr ⟨go,fun σ' H'=>∃ ow' δ',Rel X.K (lock L fl) (ghL (lock L fl) G ow H1) ow' σ' H' δ'∧mJ g fs (l.drop (i + 1)) δ'=some o,fun σ2 H2 ⟨ow2,δ2,R2,h2⟩=>⟨l.length - (i + 1),by omega,rfl,ow2,δ2,R2,h2⟩,fun x H3 hy=>?_⟩
  obtain ⟨s3,r3⟩:=yl x H3 hy
  have sub:∀ b,okA ow b∧H1 b ≠ none→okA ow' b:=fun b z=>by
   obtain ⟨z1,z2⟩:=z
   refine ⟨fun j e=>?_,fun j e=>?_⟩
   ·rcases (R'.own j b e).2.1 with ⟨_,hz⟩ | ⟨hz,_⟩
    ·have:(ghL (lock L fl) G ow H1).HF b=H1 b:=jT (by rintro (⟨j',e',_⟩ | ⟨j',e',_⟩);exact z1.1 j' e';exact z1.2 j' e')
     rw [this] at hz
     exact z2 hz
    ·have e':ow' j=ow j:=R'.pin j hz
     rw [e'] at e
     exact z1.1 j e
   ·rcases (R'.nt j b e).2.2 with ⟨_,hz⟩ | w
    ·have:(ghL (lock L fl) G ow H1).HF b=H1 b:=jT (by rintro (⟨j',e',_⟩ | ⟨j',e',_⟩);exact z1.1 j' e';exact z1.2 j' e')
     rw [this] at hz
     exact z2 hz
    ·have e':ow'.n j=ow.n j:=R'.np j w
     rw [e'] at e
     exact z1.2 j e
  refine ⟨_,ow',δ',_,δ1,R'.grow s3,r3.imp sub (fun z=>z),e3,fun σ4 R4 _=>⟨_,ow',δ1,o1,R4,e4,?_⟩⟩
  ·cases o1 with
   | nx δ2=>exact fun ow2 σ2 H2 R2=>⟨ow2,δ2,R2,hd⟩
   | ct δ2=>exact fun ow2 σ2 H2 R2=>⟨ow2,δ2,R2,hd⟩
   | bk δ2=>cases hd;exact fun ow2 σ2 H2 R2=>q ow2 σ2 H2 (R1.unlock R2)
   | rt d=>cases hd;exact q
   | ex c f v=>cases hd;exact q
 ·have e:l.drop i=[]:=jE (by omega)
  rw [e,mJ] at hd
  cases hd
  exact .inl ⟨w2 (by omega),q ow' σ' H' (R1.unlock R')⟩
theorem yS (hp:PassesOwn (model X.prog X.w) X.A X.env X.xe) (hc:DT X fl c ft) (hb:DSs X fl body fs):DS1 X fl (.While c body [] pos) (pO ft fs):=PS.imp (Gf hp hc hb) fun Dn σ H h=>by
 obtain ⟨G,ow,δ,o,R0,hf,q⟩:=h
 obtain ⟨n,hn⟩:=Ai hf
 refine ⟨fun m σ' H'=>∃ ow' δ',Rel X.K fl G ow' σ' H' δ'∧fu ft fs m δ'=some o,⟨n,ow,δ,R0,hn⟩,?_⟩
 rintro m σ' H' ⟨ow',δ',R',hw⟩
 cases m with
 | zero=>simp [fu] at hw
 | succ m =>
  rw [fu] at hw
  obtain ⟨t,e1,hw⟩:=bind1 hw
  refine ⟨G,ow',δ',t,R',e1,fun H1 s=>?_⟩
  cases t with
  | false =>
   rw [if_neg eO] at hw ⊢
   cases hw
   exact q ow' σ' H1 (R'.grow s)
  | true =>
   rw [if_pos rfl] at hw ⊢
   obtain ⟨o1,e2,hw⟩:=bind1 hw
   refine ⟨fun σ2 H2=>∃ ow2 δ2,Rel X.K fl G ow2 σ2 H2 δ2∧fu ft fs m δ2=some o,fun σ2 H2 ⟨ow2,δ2,R2,h2⟩=>⟨m,jP m,ow2,δ2,R2,h2⟩,G,ow',δ',o1,R'.grow s,e2,?_⟩
   cases o1 with
   | nx δ2=>exact fun ow2 σ2 H2 R2=>⟨ow2,δ2,R2,hw⟩
   | ct δ2=>exact fun ow2 σ2 H2 R2=>⟨ow2,δ2,R2,hw⟩
   | bk δ2=>cases hw;exact q
   | rt d=>cases hw;exact q
   | ex c f v=>cases hw;exact q
end
end D3
namespace D3
open PySem PySem.Spec PyProof.Rows L2 My
def notStar:Expr→Bool
 | .Starred _ _=>false
 | _=>true
theorem dD {e:Expr} {es:List Expr} {env:Env} (h:notStar e=true):starEach (e :: es) env=(false,eval e env) :: starEach es env:=by
 cases e <;> first | rfl | cases h
theorem nO {es:List Expr} {env:Env} {pos:Pos} (h:es.all notStar=true):(backTo pos (starEach es env)).any (·.1)=false:=by
 induction es with
 | nil=>rfl
 | cons e es ih =>
  rw [List.all_cons,bw] at h
  rw [dD h.1]
  have:=ih h.2
  unfold backTo at this ⊢
  rw [bC,List.any_cons,this]
  rfl
def isR:Kd→Bool
 | .P=>true
 | .A=>true
 | .R=>true
 | .C=>true
 | _=>false
def DY (H0:Hp) (ow:Ow) (Hb:Hp):Kd→Ok
 | .P=>ok1
 | .A=>okA ow
 | .R=>okN H0
 | _=>okN Hb
def Kl:Kd→Bool
 | .P=>true
 | .A=>true
 | _=>false
section
variable {K:PySem.W.Frag} {H0 Hb Hc H:Hp} {ow:Ow} {v:V} {d:D} {k:Kd}
theorem Rs.ra (hk:isR k=true) (h:Rs K H0 ow Hb H k v d):RA K (DY H0 ow Hb k) (Kl k) H v d:=by
 cases k <;> first | exact h | cases hk
theorem Rs.of_ra (hk:isR k=true) (h:RA K (DY H0 ow Hb k) (Kl k) H v d):Rs K H0 ow Hb H k v d:=by
 cases k <;> first | exact h | cases hk
theorem wA (s:Same Hb Hc) (hk:isR k=true):∀ a,DY H0 ow Hc k a→DY H0 ow Hb k a:=fun a z=>by
 cases k <;> first | exact z | exact s.free z | cases hk
theorem Rs.of_flat (hf:flat d=true) (h:RA K ok0 false H v d):Rs K H0 ow Hb H k v d:=by
 cases k with
 | P=>exact RA.flat hf h
 | B L=>exact .inl (RA.flat hf h)
 | A=>exact RA.flat hf h
 | R=>exact RA.flat hf h
 | F=>exact .inl ⟨hf,h⟩
 | C=>exact RA.flat hf h
 | FC=>exact .inl ⟨hf,h⟩
 | T =>
  obtain ⟨as,h1,_,h3⟩:=RA.rt h
  cases as with
  | nil=>exact ⟨[],h1,.nil,fun _ z=>by cases z⟩
  | cons a r=>exact (h3 a aJ).elim
theorem Rs.back (s:Same Hb Hc) (h:Rs K H0 ow Hc H k v d):Rs K H0 ow Hb H k v d:=by
 cases k with
 | P=>exact h
 | B L=>exact h
 | A=>exact h
 | R=>exact h
 | F =>
  rcases h with h | ⟨a,xs,ds,h1,h2,h3,h4⟩
  ·exact .inl h
  ·exact .inr ⟨a,xs,ds,h1,h2,s.free h3,h4⟩
 | C=>exact RA.imp (fun a z=>s.free z) (fun z=>z) h
 | FC =>
  rcases h with h | ⟨a,xs,ds,h1,h2,h3,h4,h5⟩
  ·exact .inl h
  ·exact .inr ⟨a,xs,ds,h1,h2,s.free h3,h4,h5.imp (fun b z=>⟨s.free z.1,z.2⟩) (fun z=>z)⟩
 | T =>
  obtain ⟨as,h1,h2,h3⟩:=h
  exact ⟨as,h1,h2,fun a z=>s.free (h3 a z)⟩
end
def tDB (K:PySem.W.Frag) (fl:List Fl) (k:Kd) (f:FA):TA:=fun σ H Q=>∃ G ow δ ds,Rel K fl G ow σ H δ∧f δ=some ds∧∀ vs H',Same H H'→RAs K (DY G.H0 ow H k) (Kl k) H' vs ds→Q vs H'
abbrev DB (X:Cx) (fl:List Fl) (k:Kd) (es:List Expr) (f:FA):Prop:=PA X es (tDB X.K fl k f)
section
variable {X:Cx} {fl:List Fl} {e a b c:Expr} {es rest:List Expr} {k:Kd} {f fa fb fc:FE} {ft gt:FT} {pos:Pos}
theorem Ot:DB X fl k [] aP:=PA.imp jo fun σ H Q h=>by
 obtain ⟨G,ow,δ,ds,R,hf,q⟩:=h
 cases hf
 exact q [] H (Same.refl H) .nil
theorem Km {fr:FA} (hk:isR k=true) (h:DE X fl k e f) (hr:DB X fl k es fr) (hs:starEach (e :: es) X.env=(false,eval e X.env) :: starEach es X.env:=by exact dD rfl):DB X fl k (e :: es) (aA f fr):=PA.imp (eV h hr hs) fun σ H Q h=>by
 obtain ⟨G,ow,δ,ds,R,hf,q⟩:=h
 obtain ⟨d,e1,hf⟩:=bind1 hf
 obtain ⟨r,e2,hf⟩:=bind1 hf
 cases hf
 refine ⟨G,ow,δ,d,R,e1,fun v H1 s1 r1=>⟨G,ow,δ,r,R.grow s1,e2,fun vs H2 s2 r2=>?_⟩⟩
 exact q _ H2 (s1.trans s2) (.cons ((r1.ra hk).same s2) (r2.imp (wA s1 hk) (fun z=>z)))
theorem oK (h:DB X fl .P es fa'):DA X fl es fa':=PA.imp h fun σ H Q h=>by
 obtain ⟨G,ow,δ,ds,R,hf,q⟩:=h
 exact ⟨G,ow,δ,ds,R,hf,fun vs H' s r=>q vs H' s r⟩
theorem iR {x1} {fa:FA} (hk:isR k=true) (h:DB X fl k es fa):DE X fl k (.Tuple es x1 pos) (dTup fa):=PE.imp (Gq h) fun σ H Q h=>by
 obtain ⟨G,ow,δ,d,R,hf,q⟩:=h
 obtain ⟨l,e1,e2⟩:=bind1 hf
 by_cases z:l.length ≤ sizeLine
 ·rw [if_pos z] at e2
  cases e2
  refine ⟨G,ow,δ,l,R,e1,fun vs H' s r=>⟨by rw [r.length];exact z,fun p hp=>?_⟩⟩
  have g:=gn hp (.tup vs)
  exact q _ _ (s.trans g) (Rs.of_ra hk (.tup gk (r.same g)))
 ·rw [if_neg z] at e2
  cases e2
theorem Cr {fa:FA} (h:DB X fl .A es fa):DE X fl .F (.List es pos) (gC fa):=PE.imp (Ad h) fun σ H Q h=>by
 obtain ⟨G,ow,δ,d,R,hf,q⟩:=h
 obtain ⟨l,e1,e2⟩:=bind1 hf
 by_cases z:l.length ≤ sizeLine
 ·rw [if_pos z] at e2
  cases e2
  refine ⟨G,ow,δ,l,R,e1,fun vs H' s r=>⟨by rw [r.length];exact z,fun p hp=>?_⟩⟩
  have g:=gn hp (.lst vs)
  exact q _ _ (s.trans g) (.inr ⟨p,vs,l,rfl,rfl,s.free hp,gk,(r.track.imp (fun b w=>⟨w.1,fun e=>w.2 (e ▸ hp)⟩) (fun z=>z)).same g⟩)
 ·rw [if_neg z] at e2
  cases e2
theorem eX {fa:FA} (h:DB X fl .C es fa):DE X fl .FC (.List es pos) (gC fa):=PE.imp (Ad h) fun σ H Q h=>by
 obtain ⟨G,ow,δ,d,R,hf,q⟩:=h
 obtain ⟨l,e1,e2⟩:=bind1 hf
 by_cases z:l.length ≤ sizeLine
 ·rw [if_pos z] at e2
  cases e2
  refine ⟨G,ow,δ,l,R,e1,fun vs H' s r=>⟨by rw [r.length];exact z,fun p hp=>?_⟩⟩
  have g:=gn hp (.lst vs)
  exact q _ _ (s.trans g) (.inr ⟨p,vs,l,rfl,rfl,s.free hp,gk,(r.track.imp (fun b w=>⟨w.1,fun e=>w.2 (e ▸ hp)⟩) (fun z=>z)).same g⟩)
 ·rw [if_neg z] at e2
  cases e2
theorem RAs.at {K:PySem.W.Frag} {ok:Ok} {pl:Bool} {H:Hp} {vs:List V} {l:List D} {i:Int} {d:D} (r:RAs K ok pl H vs l) (h:pAt l i=some d):∃ v,atI vs i=some v∧RA K ok pl H v d:=by
 unfold pAt at h
 unfold atI
 obtain ⟨j,e1,e2⟩:=bind1 h
 obtain ⟨y,e3,ry⟩:=r.get e2
 exact ⟨y,by rw [r.length,show ixN l.length i=some j from e1];exact e3,ry⟩
theorem RN {L:List Nat} (ha:DE X fl (.B L) a fa) (hb:DE X fl .P b fb) (hs:xg b):DE X fl .A (.Subscript a b pos) (dOp gIx fa fb):=PE.imp (Ru Og ha hb hs) fun σ H Q h=>by
 obtain ⟨G,ow,δ,d,R,hf,q⟩:=h
 obtain ⟨x,y,e1,e2,e3⟩:=Ci hf
 refine ⟨G,ow,δ,x,R,e1,fun v H1 s1 r1=>⟨G,ow,δ,y,R.grow s1,e2,fun u H2 s2 r2=>?_⟩⟩
 unfold gIx at e3
 split at e3
 ·next l i =>
  obtain rfl:=RA.intE r2
  rcases r1 with r1 | ⟨i',_,p,xs,ds,ho,rfl,ez,hx,hr⟩
  ·obtain ⟨p,xs,rfl,hx,hr⟩:=RA.lstE (RA.same s2 r1)
   obtain ⟨z,ez,rz⟩:=hr.at e3
   exact .inl ⟨p,xs,i,z,rfl,rfl,hx,ez,q z H2 (s1.trans s2) rz⟩
  ·cases ez
   obtain ⟨z,ez,rz⟩:=(hr.same s2).at e3
   exact .inl ⟨p,xs,i,z,rfl,rfl,SqL.of (s2 _ _ hx),ez,q z H2 (s1.trans s2) rz⟩
 ·next l i =>
  obtain rfl:=RA.intE r2
  rcases r1 with r1 | ⟨i',_,p,xs,ds,ho,rfl,ez,hx,hr⟩
  ·obtain ⟨p,xs,rfl,hx,hr⟩:=RA.tupE (RA.same s2 r1)
   obtain ⟨z,ez,rz⟩:=hr.at e3
   exact .inr (.inl ⟨p,xs,i,z,rfl,rfl,hx,ez,q z H2 (s1.trans s2) rz⟩)
  ·cases ez
 ·cases e3
theorem nA {op:BoolOp} (h:DE X fl k a f):DE X fl k (.BoolOp op [a] pos) f:=FZ h
theorem j6 (h1:DE X fl .P a fa) (h2:DE X fl k (.BoolOp .And (b :: rest) pos) fb):DE X fl k (.BoolOp .And (a :: b :: rest) pos) (qm fa fb):=PE.imp (NP h1 h2) fun σ H Q h=>by
 obtain ⟨G,ow,δ,d,R,hf,q⟩:=h
 obtain ⟨x,e1,e2⟩:=bind1 hf
 refine ⟨G,ow,δ,x,R,e1,fun v H1 s1 r1=>?_⟩
 split at e2
 ·obtain rfl:=RA.blE r1
  exact ⟨true,rfl,pL ⟨G,ow,δ,d,R.grow s1,e2,fun u H2 s2 r2=>q u H2 (s1.trans s2) (r2.back s1)⟩⟩
 ·obtain rfl:=RA.blE r1
  cases e2
  exact ⟨false,rfl,qg (q _ H1 s1 (Rs.of_flat rfl (.bl _)))⟩
 ·cases e2
theorem Ar (h1:DE X fl .P a fa):DE X fl .FC (.UnaryOp .Not a pos) (Ag fa):=PE.imp (Ga h1) fun σ H Q h=>by
 obtain ⟨G,ow,δ,d,R,hf,q⟩:=h
 obtain ⟨x,e1,e2⟩:=bind1 hf
 refine ⟨G,ow,δ,x,R,e1,fun v H1 s1 r1=>?_⟩
 split at e2
 ·next c =>
  obtain rfl:=RA.blE r1
  cases e2
  exact ⟨c,rfl,q _ H1 s1 (Rs.of_flat rfl (.bl _))⟩
 ·cases e2
theorem xQ (h:DT X fl a ft):DT X fl (.UnaryOp .Not a pos) (jN ft):=PT.imp (zZ h) fun σ H Q h=>by
 obtain ⟨G,ow,δ,t,R,hf,q⟩:=h
 unfold jN at hf
 cases e:ft δ with
 | none=>rw [e] at hf;cases hf
 | some x =>
  rw [e] at hf
  cases hf
  exact ⟨G,ow,δ,x,R,e,fun H' s=>q H' s⟩
theorem qw (h:DT X fl a ft):DW X fl (.BoolOp .And [a] pos) ft:=JC h
theorem rN (h:DT X fl a ft):DW X fl (.BoolOp .Or [a] pos) ft:=FQ h
theorem uL (h1:DT X fl a ft) (h2:DW X fl (.BoolOp .And (b :: rest) pos) gt):DW X fl (.BoolOp .And (a :: b :: rest) pos) (n_ ft gt):=PW.imp (NK h1 h2) fun σ H Q h=>by
 obtain ⟨G,ow,δ,t,R,hf,q⟩:=h
 obtain ⟨x,e1,e2⟩:=bind1 hf
 refine ⟨G,ow,δ,x,R,e1,fun H1 s1=>?_⟩
 cases x with
 | true=>exact pL ⟨G,ow,δ,t,R.grow s1,e2,fun H2 s2=>q H2 (s1.trans s2)⟩
 | false=>cases e2;exact qg (q H1 s1)
theorem yU (h1:DT X fl a ft) (h2:DW X fl (.BoolOp .Or (b :: rest) pos) gt):DW X fl (.BoolOp .Or (a :: b :: rest) pos) (tOr ft gt):=PW.imp (FW h1 h2) fun σ H Q h=>by
 obtain ⟨G,ow,δ,t,R,hf,q⟩:=h
 obtain ⟨x,e1,e2⟩:=bind1 hf
 refine ⟨G,ow,δ,x,R,e1,fun H1 s1=>?_⟩
 cases x with
 | true=>cases e2;exact pL (q H1 s1)
 | false=>exact qg ⟨G,ow,δ,t,R.grow s1,e2,fun H2 s2=>q H2 (s1.trans s2)⟩
theorem vK (h:DW X fl a ft):DT X fl a ft:=PW.pt h
theorem qx {op op':CmpOp} {r r':R2} {g g':D→D→Option D} (ho:OpR X (compareOp op) r) (ho':OpR X (compareOp op') r') (hb:BrO X.K r g) (hb':BrO X.K r' g') (h1:DE X fl .P a fa) (h2:DE X fl .P b fb) (h3:DE X fl .P c fc)
 (hm:lastMarks [op,op'] [b,c]=false:=by with_unfolding_all rfl):DE X fl .FC (.Compare a [op,op'] [b,c] pos) (jG g g' fa fb fc):=PE.imp (Gn ho ho' h1 h2 h3 hm) fun σ H Q h=>by
 obtain ⟨G,ow,δ,d,R,hf,q⟩:=h
 obtain ⟨x,e1,hf⟩:=bind1 hf
 obtain ⟨y,e2,hf⟩:=bind1 hf
 obtain ⟨z,e3,hf⟩:=bind1 hf
 refine ⟨G,ow,δ,x,R,e1,fun v H1 s1 r1=>⟨G,ow,δ,y,R.grow s1,e2,fun u H2 s2 r2=>?_⟩⟩
 refine hb H2 v u x y z _ (RA.same s2 r1) r2 e3 fun zv hz rz=>?_
 split at hf
 ·obtain rfl:=rz.blE
  obtain ⟨w,e4,e5⟩:=bind1 hf
  refine ⟨true,rfl,pL ⟨G,ow,δ,w,R.grow (s1.trans s2),e4,fun wv H3 s3 r3=>?_⟩⟩
  exact hb' H3 u wv y w d Q (RA.same s3 r2) r3 e5 fun z hz rz=>q z H3 (s1.trans (s2.trans s3)) (.inl ⟨hz,rz⟩)
 ·obtain rfl:=rz.blE
  cases hf
  exact ⟨false,rfl,qg (q _ H2 (s1.trans s2) (.inl ⟨rfl,.bl _⟩))⟩
 ·cases hf
theorem D_ {op op' op'':CmpOp} {r r' r'':R2} {g g' g'':D→D→Option D} {d:Expr} {fd:FE} (ho:OpR X (compareOp op) r) (ho':OpR X (compareOp op') r') (ho'':OpR X (compareOp op'') r'') (hb:BrO X.K r g) (hb':BrO X.K r' g') (hb'':BrO X.K r'' g'') (h1:DE X fl .P a fa) (h2:DE X fl .P b fb) (h3:DE X fl .P c fc) (h4:DE X fl .P d fd)
 (hm:lastMarks [op,op',op''] [b,c,d]=false:=by with_unfolding_all rfl):DE X fl .FC (.Compare a [op,op',op''] [b,c,d] pos) (tL g g' g'' fa fb fc fd):=PE.imp (DQ ho ho' ho'' h1 h2 h3 h4 hm) fun σ H Q h=>by
 obtain ⟨G,ow,δ,dd,R,hf,q⟩:=h
 obtain ⟨x,e1,hf⟩:=bind1 hf
 obtain ⟨y,e2,hf⟩:=bind1 hf
 obtain ⟨z,e3,hf⟩:=bind1 hf
 refine ⟨G,ow,δ,x,R,e1,fun v H1 s1 r1=>⟨G,ow,δ,y,R.grow s1,e2,fun u H2 s2 r2=>?_⟩⟩
 refine hb H2 v u x y z _ (RA.same s2 r1) r2 e3 fun zv hz rz=>?_
 split at hf
 ·obtain rfl:=rz.blE
  obtain ⟨w,e4,hf⟩:=bind1 hf
  obtain ⟨z',e5,hf⟩:=bind1 hf
  refine ⟨true,rfl,pL ⟨G,ow,δ,w,R.grow (s1.trans s2),e4,fun wv H3 s3 r3=>?_⟩⟩
  refine hb' H3 u wv y w z' _ (RA.same s3 r2) r3 e5 fun zv' hz' rz'=>?_
  split at hf
  ·obtain rfl:=rz'.blE
   obtain ⟨t,e6,e7⟩:=bind1 hf
   refine ⟨true,rfl,pL ⟨G,ow,δ,t,R.grow (s1.trans (s2.trans s3)),e6,fun tv H4 s4 r4=>?_⟩⟩
   exact hb'' H4 wv tv w t dd Q (RA.same s4 r3) r4 e7 fun z hz rz=>q z H4 (s1.trans (s2.trans (s3.trans s4))) (.inl ⟨hz,rz⟩)
  ·obtain rfl:=rz'.blE
   cases hf
   exact ⟨false,rfl,qg (q _ H3 (s1.trans (s2.trans s3)) (.inl ⟨rfl,.bl _⟩))⟩
  ·cases hf
 ·obtain rfl:=rz.blE
  cases hf
  exact ⟨false,rfl,qg (q _ H2 (s1.trans s2) (.inl ⟨rfl,.bl _⟩))⟩
 ·cases hf
theorem GF {K:PySem.W.Frag} {ok:Ok} {pl:Bool} {H:Hp} {v:V} {d:D} (r:RA K ok pl H v d):decide (v = .non)=isNone d:=by
 cases r <;> rfl
def BrC (K:PySem.W.Frag) (r:List V→Hp→VK→Prop) (g:List D→Option D):Prop:=∀ (H:Hp) (xs:List V) (ds:List D) (d:D) (Q:VK),RAs K ok1 true H xs ds→g ds=some d→(∀ v,flat d=true→RA K ok0 false H v d→Q v H)→r xs H Q
theorem cY {id:String} {r:List V→Hp→VK→Prop} {g:List D→Option D} {x:Str} {p:Pos} {fa:FA} (hc:lq X (.builtin id) r) (hb:BrC X.K r g) (hg:Gl X x) (hm:X.mg x=none) (hv:bootBuiltins x=some (.builtin id)) (ha:DB X fl .P (e :: es) fa) (hn:x ≠ "__name__" := by decide) (hdb:(x == ("__debug__" : Str))=false:=by decide)
 (he:starEach (e :: es) X.env=(false,eval e X.env) :: starEach es X.env:=by exact dD rfl) (hpl:(backTo pos (starEach es X.env)).any (·.1)=false:=by exact nO rfl):DE X fl .FC (.Call (.Name x p) (e :: es) [] pos) (dCall g fa) :=
 PE.imp (ou hc hg hm hv ha hn hdb he hpl) fun σ H Q h=>by
 obtain ⟨G,ow,δ,d,R,hf,q⟩:=h
 obtain ⟨ds,e1,e2⟩:=bind1 hf
 exact ⟨G,ow,δ,ds,R,e1,fun vs H' s r'=>hb H' vs ds d Q r' e2 fun v hv rv=>q v H' s (.inl ⟨hv,rv⟩)⟩
theorem jc {K:PySem.W.Frag}:BrC K (fun xs H Q=>∃ p ys,xs=[.ref p]∧(SqL K H p ys∨SqT K H p ys)∧Q (.int ys.length) H) jx:=by
 intro H xs ds d Q r e q
 unfold jx at e
 split at e
 ·next l =>
  cases e
  cases r with
  | cons r1 r2 =>
   cases r2
   obtain ⟨a,ys,rfl,hx,hr⟩:=r1.lstE
   refine ⟨a,ys,rfl,.inl hx,?_⟩
   rw [hr.length]
   exact q _ rfl (.int _)
 ·next l =>
  cases e
  cases r with
  | cons r1 r2 =>
   cases r2
   obtain ⟨a,ys,rfl,hx,hr⟩:=r1.tupE
   refine ⟨a,ys,rfl,.inr hx,?_⟩
   rw [hr.length]
   exact q _ rfl (.int _)
 ·cases e
theorem Ou {K:PySem.W.Frag}:BrC K (fun xs H Q=>∃ i j,xs=[.int i,.int j]∧Q (.int (if j > i then j else i)) H) wj:=by
 intro H xs ds d Q r e q
 unfold wj at e
 split at e
 ·cases e
  cases r with
  | cons r1 r2 =>
   cases r2 with
   | cons r2 r3 =>
    cases r3
    obtain rfl:=r1.intE
    obtain rfl:=r2.intE
    exact ⟨_,_,rfl,q _ rfl (.int _)⟩
 ·cases e
theorem Ov {K:PySem.W.Frag}:BrC K (fun xs H Q=>∃ i j,xs=[.int i,.int j]∧Q (.int (if j < i then j else i)) H) uE:=by
 intro H xs ds d Q r e q
 unfold uE at e
 split at e
 ·cases e
  cases r with
  | cons r1 r2 =>
   cases r2 with
   | cons r2 r3 =>
    cases r3
    obtain rfl:=r1.intE
    obtain rfl:=r2.intE
    exact ⟨_,_,rfl,q _ rfl (.int _)⟩
 ·cases e
theorem Ko (d:D):tyD d = "NoneType" ∨ tyD d = "bool" ∨ tyD d = "int" ∨ tyD d = "str" ∨ tyD d = "list" ∨ tyD d = "tuple" ∨ tyD d = "dict" := by
 cases d <;> simp [tyD]
def U5 (K:PySem.W.Frag):List V→Hp→VK→Prop:=fun xs H Q=>∃ x c d,xs=[x,.ty c]∧(c = "int" ∨ c = "bool" ∨ c = "tuple" ∨ c = "list" ∨ c = "str")∧RA K ok1 true H x d∧Q (.bl (isT c (tyD d))) H
theorem GJ:lq X (.builtin "isinstance") (U5 X.K):=by
 intro pins s σ H xs us Q I r h
 obtain ⟨x,c,d,rfl,hc,ra,q⟩:=h
 obtain ⟨u,w',rfl,rx,rc⟩:=vals2 r
 cases rc
 have kn:=Oj (K:=X.K) hc (Ko d)
 have fin:∀ tk,EP X pins σ Q (.bool (isT c (tyD d))) { s with toks:=tk }:=fun tk=>⟨.bl _,H,I.tok _,rfl,q⟩
 cases ra with
 | non=>cases (show u=Value.none from rx);exact PySem.W.kia_one PySem.W.kitx_none I.kIn True.intro kn (fun z=>nomatch z) fin
 | bl b=>cases (show u=Value.bool b from rx);exact PySem.W.kia_one PySem.W.kitx_bool I.kIn True.intro kn (fun z=>nomatch z) fin
 | int i=>obtain ⟨t,z⟩:=(show ∃ t,u=Value.int i t from rx);cases z;exact PySem.W.kia_one PySem.W.kitx_int I.kIn True.intro kn (fun z=>nomatch z) fin
 | str y=>obtain ⟨t,z⟩:=(show ∃ t,u=Value.str y t from rx);cases z;exact PySem.W.kia_one PySem.W.kitx_str I.kIn True.intro kn (fun z=>nomatch z) fin
 | @lst a xs ds e k q' =>
  cases (show u=Value.ref a from rx)
  obtain ⟨its,_,⟨o,n,e1,e2,_⟩,_⟩:=I.list (SqL.of e)
  exact PySem.W.kia_one PySem.W.kitx_list I.kIn ⟨_,e1,e2⟩ kn (fun z=>nomatch z) fin
 | @lsk a xs ds e k q' =>
  cases (show u=Value.ref a from rx)
  obtain ⟨its,_,⟨o,n,e1,e2,_⟩,_⟩:=I.list e.sq
  exact PySem.W.kia_one PySem.W.kitx_list I.kIn ⟨_,e1,e2⟩ kn (fun z=>nomatch z) fin
 | @tup a xs ds e q' =>
  cases (show u=Value.ref a from rx)
  obtain ⟨its,_,⟨o,e1,e2,_⟩,_⟩:=I.tuple e.sq
  exact PySem.W.kia_one PySem.W.kitx_tuple I.kIn ⟨_,e1,e2⟩ kn (fun z=>nomatch z) fin
 | @dic a u0 kvs e g k =>
  rcases g.or with ⟨ks,z⟩ | ⟨ks,z⟩
  ·rw [z] at e;exact vW I rx (TyOf.dK e) kn fin
  ·rw [z] at e;exact vW I rx (TyOf.dT e) kn fin
 | @dik a u0 kvs ob e g k =>
  cases (show u=Value.ref a from rx)
  have ob:=(show jw X.prog X.w H s.heap a u0 from (show L2.Rd H a u0 from .inr ⟨_,e⟩).ok I.hok)
  rcases g.or with ⟨ks,z⟩ | ⟨ks,z⟩
  ·rw [z] at ob
   obtain ⟨_,_,vs,_,dd⟩:=ob
   obtain ⟨o1,_,_,h1,h2,_⟩:=dd
   exact PySem.W.kia_one PySem.W.kitx_dict I.kIn ⟨_,h1,h2.1⟩ kn (fun z=>nomatch z) fin
  ·rw [z] at ob
   obtain ⟨_,_,xs,_,o1,_,_,h1,h2,_⟩:=ob
   exact PySem.W.kia_one PySem.W.kitx_dict I.kIn ⟨_,h1,h2.1⟩ kn (fun z=>nomatch z) fin
theorem nC {T:String} {x:Str} {p p':Pos} (hc:T = "int" ∨ T = "bool" ∨ T = "tuple" ∨ T = "list" ∨ T = "str") (h:DE X fl .P a f) (hg:Gl X "isinstance") (hm:X.mg "isinstance" = none) (hg':Gl X x) (hm':X.mg x=none) (hv':bootBuiltins x=some (.type T))
 (hn':x ≠ "__name__" := by decide) (hd':(x == ("__debug__" : Str))=false:=by decide)
 (he:starEach [a,.Name x p'] X.env=(false,eval a X.env) :: starEach [.Name x p'] X.env:=by rfl) (he2:starEach [.Name x p'] X.env=(false,eval (.Name x p') X.env) :: starEach [] X.env:=by rfl) (hpl:(backTo pos (starEach [.Name x p'] X.env)).any (·.1)=false:=by rfl) :
 DE X fl .FC (.Call (.Name "isinstance" p) [a,.Name x p'] [] pos) (dUn (gIs T) f) :=
 PE.imp (ou GJ hg hm boot_isinstance (eV h (eV (BR (v:=.ty T) hg' hm' hv' rfl hn' hd') jo he2) he) (by decide) (by decide) he hpl) fun σ H Q h=>by
 obtain ⟨G,ow,δ,d,R,hf,q⟩:=h
 obtain ⟨x,e1,e2⟩:=bind1 hf
 cases e2
 exact ⟨G,ow,δ,x,R,e1,fun v H1 s1 r1=>⟨v,T,x,rfl,hc,r1,q _ H1 s1 (.inl ⟨rfl,.bl _⟩)⟩⟩
theorem nD (h:DE X fl .P a f):DE X fl .FC (.UnaryOp .USub a pos) (dUn jR f):=PE.imp (Rp Oa h) fun σ H Q h=>by
 obtain ⟨G,ow,δ,d,R,hf,q⟩:=h
 obtain ⟨x,e1,e2⟩:=bind1 hf
 refine ⟨G,ow,δ,x,R,e1,fun v H1 s1 r1=>?_⟩
 unfold jR at e2
 split at e2
 ·cases e2
  obtain rfl:=RA.intE r1
  exact ⟨_,rfl,q _ H1 s1 (.inl ⟨rfl,.int _⟩)⟩
 ·cases e2
end
def spD (K:PySem.W.Frag) (F:List D→Option D):Sp:=fun vs H Q _=>∃ ds d,(Tb H∧RAs K ok1 true H vs ds)∧F ds=some d∧∀ v H',Same H H'→RA K (okN H) false H' v d→Q v H'
section
variable {P:Program} {w:World} {K:PySem.W.Frag} {mg:Str→Option Value} {base:Heap} {x:Str} {ps N:List Str} {st:Stmt} {k n:Nat} {fs:FS} {fl:List Fl}
theorem gY {vs:List V} {ds:List D} {H:Hp} (p:Nat) (hp:∀ i,i < p→fl[i]? = some .A) (hl:ds.length=p) (hN:p ≤ N.length) (r':Tb H∧RAs K ok1 true H vs ds) :
 Rel K fl ⟨H,H,fun _=>none,fun _=>[],r'.1⟩ ow0 (L2.start N vs) H (ds.map (fun d=>some (.d d))++aG (N.length - p) none):=by
 have r:=r'.2
 have hv:vs.length=p:=by rw [r.length];exact hl
 have get:∀ i d,(ds.map (fun d=>some (U.d d))++aG (N.length - p) none)[i]? = some (some (.d d))→i < p∧ds[i]? = some d:=fun i d h=>by
  by_cases hi:i < p
  ·rw [dG (by rw [aW,hl];exact hi),bG] at h
   cases e:ds[i]? with
   | none=>rw [e] at h;cases h
   | some z=>rw [e] at h;cases h;exact ⟨hi,rfl⟩
  ·rw [dg (by rw [aW,hl];omega),cH] at h
   split at h <;> cases h
 refine ⟨Same.refl H,Same.refl H,?_,fun i a h=>(by cases h),fun i j a h=>(by cases h),fun i h=>rfl,fun i d h _ _=>?_,fun i d h _ h2 _=>?_,fun i a h=>(by cases h),fun i j a h=>(by cases h),fun i j a h=>(by cases h),fun i h=>rfl,fun i d hn h=>?_⟩
 ·unfold L2.start
  simp only [bW,aW,aL,hv,hl]
 ·obtain ⟨hi,e⟩:=get i d h
  obtain ⟨v,e1,e2⟩:=r.get e
  refine ⟨v,?_,e2.imp (fun _ _=>⟨fun i z=>(by cases z),fun i z=>(by cases z)⟩) (fun z=>z)⟩
  unfold L2.start
  rw [dG (by rw [aW,hv];exact hi),bG,e1]
  rfl
 ·exact absurd (hp i (get i d h).1) h2
 ·rw [hp i (get i d h).1] at hn
  cases hn
end
section
variable {X:Cx} {fl:List Fl} {e:Expr} {es:List Expr} {pos p:Pos} {x:Str} {ps:List Str} {n:Nat} {F:List D→Option D} {fa:FA}
theorem bO (h:Has X.prog X.w X.K X.mg X.base n x ps (spD X.K F)) (hr:Room n X.A) (ha:DB X fl .P (e :: es) fa) (hg:Gl X x:=by rfl) (hdb:(x == ("__debug__" : Str))=false:=by decide)
 (he:starEach (e :: es) X.env=(false,eval e X.env) :: starEach es X.env:=by exact dD rfl) (hpl:(backTo pos (starEach es X.env)).any (·.1)=false:=by exact nO rfl) :
 DE X fl .C (.Call (.Name x p) (e :: es) [] pos) (dCall F fa):=PE.imp (yO h hr ha hg hdb he hpl) fun σ H Q h=>by
 obtain ⟨G,ow,δ,d,R,hf,q⟩:=h
 obtain ⟨ds,e1,e2⟩:=bind1 hf
 refine ⟨G,ow,δ,ds,R,e1,fun vs H' s r=>?_⟩
 show spD X.K F (vs++[]) H' Q E0
 rw [dR]
 exact ⟨ds,d,⟨R.tb.same s,r⟩,e2,fun v H2 s2 r2=>q v H2 (s.trans s2) (RA.imp (fun a z=>s.free z) (fun z=>z) r2)⟩
end
end D3
namespace D3
open PySem PySem.Spec PyProof.Rows L2 My
section
variable {X:Cx} {fl fl':List Fl} {e a b c elt tg iter:Expr} {es ifs:List Expr} {k:Kd} {f fa fb fc:FE} {ft gt:FT} {pos:Pos} {scope:Scope} {ix L TT:List Nat} {fi:FA} {g:FG}
theorem fW:PTs X [] (tDT X.K fl D3.gH):=fun pins s σ H Q I h=>by
 obtain ⟨G,ow,δ,b,R,hf,q⟩:=h
 cases hf
 exact J4 pins s σ H Q I (q H (Same.refl H))
theorem Kp {K:PySem.W.Frag} {G:Gh} {ow:Ow} {σ:St} {H H1:Hp} {δ:DS} (t:Nat) (ix:List Nat) (hfl:∀ i,i < t + ix.length→fl'[i]? = some .A) (R:Rel K fl G ow σ H δ) (s:Same H H1) :
 Rel K fl' ⟨H,H,fun _=>none,fun _=>[],R.tb⟩ ow0 (vH t ix σ) H1 (jO t ix δ):=by
 have get:∀ i d,(jO t ix δ)[i]? = some (some (.d d))→i < t + ix.length∧∃ j,ix[i - t]? = some j∧t ≤ i∧δ[j]? = some (some (.d d)):=fun i d h=>by
  unfold jO at h
  by_cases hi:i < t
  ·rw [dG (by rw [aL];exact hi),cH,if_pos hi] at h
   cases h
  ·rw [dg (by rw [aL];omega),aL,bG] at h
   cases e:ix[i - t]? with
   | none=>rw [e] at h;cases h
   | some j =>
    rw [e] at h
    have hl:i - t < ix.length:=by
     rcases mX (i - t) ix.length with z | z
     ·exact z
     ·rw [bI z] at e;cases e
    refine ⟨by omega,j,rfl,by omega,?_⟩
    have h':(δ[j]?).getD none=some (.d d):=by simpa using h
    cases q:δ[j]? with
    | none=>rw [q] at h';cases h'
    | some o=>rw [q] at h';simp at h';rw [h']
 refine ⟨Same.refl H,s,?_,fun i a h=>(by cases h),fun i j a h=>(by cases h),fun i h=>rfl,fun i d h _ _=>?_,fun i d h _ h2 _=>absurd (hfl i (get i d h).1) h2,fun i a h=>(by cases h),fun i j a h=>(by cases h),fun i j a h=>(by cases h),fun i h=>rfl,fun i d hn h=>(by rw [hfl i (get i d h).1] at hn;cases hn)⟩
 ·unfold vH jO
  simp
 ·obtain ⟨hi,j,ej,ht,ed⟩:=get i d h
  have key:∃ v,σ[j]? = some (some v)∧RA K ok1 true H v d:=by
   cases hN:isN fl[j]? with
   | true =>
    obtain ⟨v,h1,h2,_⟩:=R.nr j d hN ed
    exact ⟨v,h1,h2.ra fun _ _=>trivial⟩
   | false =>
   cases ho:ow j with
   | none =>
    obtain ⟨v,h1,h2⟩:=R.dat j d ed hN ho
    exact ⟨v,h1,h2.imp (fun _ _=>trivial) (fun z=>z)⟩
   | some a =>
    obtain ⟨_,_,xs,ds,h1,h2,h3,h4⟩:=R.own j a ho
    rw [ed] at h4
    cases h4
    exact ⟨_,h1,.lst h2 trivial (h3.imp (fun _ _=>trivial) (fun z=>z))⟩
  obtain ⟨v,h1,h2⟩:=key
  refine ⟨v,?_,(h2.imp (fun _ _=>⟨fun i z=>(by cases z),fun i z=>(by cases z)⟩) (fun z=>z)).same s⟩
  unfold vH
  rw [dg (by rw [aL];omega),aL,bG,ej]
  show some ((σ[j]?).getD none)=_
  rw [h1]
  rfl
theorem sX {σ:St} {H:Hp} {Q:VK} {t:Nat} (hfl:∀ i,i < t + ix.length→fl'[i]? = some .A) (htg:∀ j ∈ TT,j < t)
 (h:tD X.K fl .FC (fQ fi g ft f t ix) σ H Q):Cg (tDI X.K fl L fi) (tDG X.K fl' TT g) (tDT X.K fl' ft) (tD X.K fl' .C f) t (vH t ix) σ H Q:=by
 obtain ⟨G,ow,δ,d,R,hf,q⟩:=h
 obtain ⟨l,e1,e2⟩:=bind1 hf
 by_cases hl:l.length ≤ 100000
 case neg=>rw [if_neg hl] at e2;cases e2
 rw [if_pos hl] at e2
 obtain ⟨r,e3,e4⟩:=bind1 e2
 cases e4
 refine ⟨G,ow,δ,l,R,e1,fun J H1 s1 wk Dl hD=>?_⟩
 have R1:=R.grow s1
 let okD:Ok:=fun b=>okN H b∧b ≠ Dl
 refine ⟨fun i m xs H2=>m=l.length - i∧H2 Dl=some (.lst xs)∧Same H1 H2∧xs.length ≤ i∧i ≤ l.length∧∃ ds rest,RAs X.K okD false H2 xs ds∧jF g ft f (jO t ix δ) (l.drop i)=some rest∧r=ds++rest,
  ⟨_,rfl,gk,gn hD _,bA _,eZ _,[],r,.nil,by simpa using e3,rfl⟩,?_⟩
 rintro i m xs H2 ⟨rfl,hDl,s2,hxl,hil,ds,rest,hr,hc,rfl⟩
 refine ⟨hDl,?_⟩
 obtain ⟨w1,w2⟩:=wk H2 (fun b o hb _ _=>s2 b o hb) i
 by_cases hlt:i < l.length
 ·have hdrop:l.drop i=l[i] :: l.drop (i + 1):=jk hlt
  rw [hdrop,jF] at hc
  obtain ⟨δ1,e5,hc⟩:=bind1 hc
  obtain ⟨bb,e6,hc⟩:=bind1 hc
  obtain ⟨go,yl⟩:=w1 l[i] (aV hlt)
  refine .inr ⟨go,Nat.lt_of_le_of_lt (bV hxl (bV hil hl)) (by decide),fun x H3 hy=>?_⟩
  obtain ⟨s3,r3⟩:=yl x H3 hy
  have s13:=s2.trans s3
  have Rb:=(Kp t ix hfl R1 (Same.refl H1)).grow s13
  refine ⟨_,_,_,_,δ1,Rb,r3.imp (fun _ _=>⟨fun i z=>(by cases z),fun i z=>(by cases z)⟩) (fun z=>z),e5,fun σ4 R4 keep4=>⟨?_,?_⟩⟩
  ·apply lH
   intro n
   rw [kY,kY]
   exact keep4 (t + n) fun z=>absurd (htg _ z) (by omega)
  ·refine ⟨_,_,δ1,bb,R4,e6,fun H5 s5=>?_⟩
   cases bb with
   | false =>
    rw [if_neg eO] at hc ⊢
    have s35:=s3.trans s5
    exact ⟨l.length - (i + 1),by omega,rfl,s35 _ _ hDl,s2.trans s35,by omega,hlt,ds,rest,hr.same s35,hc,rfl⟩
   | true =>
    rw [if_pos rfl] at hc ⊢
    obtain ⟨y,e7,hc⟩:=bind1 hc
    obtain ⟨l',e8,hc⟩:=bind1 hc
    cases hc
    refine ⟨_,_,δ1,y,R4.grow s5,e7,fun v H6 s6 r6=>?_⟩
    have s35:=s3.trans s5
    have s36:=s35.trans s6
    refine ⟨s36 _ _ hDl,l.length - (i + 1),by omega,rfl,gk,?_,by rw [bW,nQ];omega,hlt,ds++[y],l',?_,e8,by simp⟩
    ·intro b o hb
     rw [dZ (fun z=>by subst z;rw [hD] at hb;cases hb)]
     exact (s2.trans s36) b o hb
    ·have nd:¬ okD Dl:=fun z=>z.2 rfl
     have s05:Same H H5:=s1.trans (s2.trans s35)
     have ry:RA X.K okD false H6 v y:=RA.imp (fun b z=>⟨s05.free z,fun e=>by subst e;rw [okN,s35 _ _ hDl] at z;cases z⟩) (fun z=>z) r6
     exact ((hr.same s36).append (.cons ry .nil)).upd (s36 _ _ hDl) nd
 ·have ed:l.drop i=[]:=jE (by omega)
  rw [ed,jF] at hc
  cases hc
  refine .inl ⟨w2 (by omega),?_⟩
  rw [dR] at q
  exact q (.ref Dl) H2 (s1.trans s2) (.inr ⟨Dl,xs,ds,rfl,rfl,s1.free hD,hDl,hr⟩)
theorem fH (hc:X.calm=true) (T Vn:List Str) (ix:List Nat) (hi:DI X fl L tg iter fi)
 (hg:∀ cl C s3 H3 fp,DG (blk X (T++Vn) scope cl C s3 H3 fp) fl' TT tg g) (ht:∀ cl C s3 H3 fp,PTs (blk X (T++Vn) scope cl C s3 H3 fp) ifs (tDT X.K fl' ft)) (he:∀ cl C s3 H3 fp,DE (blk X (T++Vn) scope cl C s3 H3 fp) fl' .C elt f)
 (hfl:∀ i,i < T.length + ix.length→fl'[i]? = some .A:=by decide) (htg:∀ j ∈ TT,j < T.length:=by decide)
 (hB:uw X.N X.env.scope.names scope.names Vn ix=true:=by rfl) (hk:scope.kind = .function:=by rfl) (hcell:∀ y ∈ scope.names,y.2 ≠ .cell:=by decide +kernel)
 (hnames:∀ x ∈ scope.names,x.2 = .local→scope.names.lookup x.1=some .local:=by decide +kernel)
 (hfr:∀ x ∈ scope.names,x.2 = .free→x.1 ∈ Vn:=by decide +kernel) (hs:∀ x,foldedSetIterable iter X.env x=pure x:=by intro _;rfl) :
 DE X fl .FC (.ListComp elt [⟨tg,iter,ifs,0⟩] scope pos) (fQ fi g ft f T.length ix) :=
 PE.imp (J5 hc T Vn ix hi hg ht he hB hk hcell hnames hfr hs) fun _ _ _ h=>sX hfl htg h
theorem oM {i:Nat} {x:Str} {pos' spos:Pos} (hfx:fl[i]? = some .A) (hN:X.N.Nodup) (hi':X.N[i]? = some x) (hx:X.env.scope.names.lookup x=some .local) (hc:X.calm=true) (T Vn:List Str) (ix:List Nat) (hi:DI X fl L tg iter fi)
 (hg:∀ cl C s3 H3 fp,DG (blk X (T++Vn) scope cl C s3 H3 fp) fl' TT tg g) (ht:∀ cl C s3 H3 fp,PTs (blk X (T++Vn) scope cl C s3 H3 fp) ifs (tDT X.K fl' ft)) (he:∀ cl C s3 H3 fp,DE (blk X (T++Vn) scope cl C s3 H3 fp) fl' .C elt f)
 (hfl:∀ i,i < T.length + ix.length→fl'[i]? = some .A:=by decide) (htg:∀ j ∈ TT,j < T.length:=by decide)
 (hsw:swapsWith (.ListComp elt [⟨tg,iter,ifs,0⟩] scope pos) (some (.Name x pos')) spos.line X.env=pure true:=by rfl)
 (hB:uw X.N X.env.scope.names scope.names Vn ix=true:=by rfl) (hk:scope.kind = .function:=by rfl) (hcell:∀ y ∈ scope.names,y.2 ≠ .cell:=by decide +kernel)
 (hnames:∀ x ∈ scope.names,x.2 = .local→scope.names.lookup x.1=some .local:=by decide +kernel)
 (hfr:∀ x ∈ scope.names,x.2 = .free→x.1 ∈ Vn:=by decide +kernel) (hs:∀ x,foldedSetIterable iter X.env x=pure x:=by intro _;rfl) :
 DS1 X fl (.Assign [.Name x pos'] (.ListComp elt [⟨tg,iter,ifs,0⟩] scope pos) spos) (bx i (fQ fi g ft f T.length ix)) :=
 PS.imp (J6 hN hi' hx hc T Vn ix hi hg ht he hsw hB hk hcell hnames hfr hs) fun Dn σ H h=>by
 obtain ⟨G,ow,δ,o,R,hf,q⟩:=h
 unfold bx at hf
 by_cases hl:i < δ.length
 ·rw [if_pos hl] at hf
  obtain ⟨d,e1,e2⟩:=bind1 hf
  cases e2
  exact sX (fl:=fl) hfl htg ⟨G,ow,δ,d,R,e1,fun v H' s r=>q ow _ H' ((R.grow s).setA hfx (oZ R hl) ((r.FC_F R).F_A R))⟩
 ·rw [if_neg hl] at hf
  cases hf
theorem yV {K:PySem.W.Frag} {G:Gh} {ow:Ow} {H H1:Hp} {p:Addr} {vs:List V} {l:List D} (s:Same H H1) (hp:H1 p=none) (r:RAs K (okA ow) true H1 vs l):Rs K G.H0 ow H (upd H1 p (.lst vs)) .F (.ref p) (.list l) :=
 .inr ⟨p,vs,l,rfl,rfl,s.free hp,gk,(r.track.imp (fun b w=>⟨w.1,fun e=>w.2 (e ▸ hp)⟩) (fun z=>z)).same (gn hp _)⟩
theorem xR {K:PySem.W.Frag} {H0:Hp} {ow:Ow} {Hb H:Hp} {L:List Nat} {v:V} {l:List D} (r:Rs K H0 ow Hb H (.B L) v (.list l)):∃ a xs,v = .ref a∧SqL K H a xs∧RAs K (okA ow) true H xs l:=by
 rcases r with r | ⟨i,hi,a,xs,ds,ho,rfl,e,hx,hr⟩
 ·exact r.lstE
 ·cases e
  exact ⟨a,xs,rfl,SqL.of hx,hr⟩
def RP (K:PySem.W.Frag):R2:=fun x y H Q=>∃ l b xs zs,x = .ref l∧y = .ref b∧SqL K H l xs∧SqL K H b zs∧xs.length + zs.length ≤ sizeLine∧∀ p,H p=none→Q (.ref p) (upd H p (.lst (xs++zs)))
theorem Kq:OpR X (binaryOp .Add) (RP X.K):=by
 intro pins s σ H x y v u Q I rx ry h
 obtain ⟨l,b,xs,zs,rfl,rfl,hH,hB,hz,q⟩:=h
 cases rx
 cases ry
 obtain ⟨its,r,p,_⟩:=I.list hH
 obtain ⟨its2,r2,p2,_⟩:=I.list hB
 obtain ⟨⟨cls,dd,data,sl⟩,ho,hc,n,hd⟩:=p.isList
 obtain ⟨⟨cls2,dd2,data2,sl2⟩,ho2,hc2,n2,hd2⟩:=p2.isList
 simp only at hc hd hc2 hd2
 subst hc hd hc2 hd2
 have e1:=r.length
 have e2:=r2.length
 have e:its.toArray++its2.toArray=(its++its2).toArray:=by simp
 refine concat_meets ⟨_,ho,rfl⟩ ⟨_,ho2,rfl⟩ noFill_list_add seq_list_add PySem.F.slot_list_add PySem.F.entry_list_add (PySem.F.args_list_add_2 _ _) (list_addW l b its.toArray its2.toArray n n2 dd dd2 sl sl2 (by simp;omega)) ⟨ho,ho2,?_⟩
 rw [e]
 exact ⟨.ref _,_,I.lnew (t':=s.toks) (r.append r2) (by rw [bW];omega),rfl,q _ I.fresh⟩
theorem uM {L L':List Nat} (h1:DE X fl (.B L) a fa) (h2:DE X fl (.B L') b fb):DE X fl .F (.BinOp a .Add b pos) (dOp qp fa fb):=PE.imp (Gj Kq h1 h2) fun σ H Q h=>by
 obtain ⟨G,ow,δ,d,R,hf,q⟩:=h
 obtain ⟨x,y,e1,e2,e3⟩:=Ci hf
 refine ⟨G,ow,δ,x,R,e1,fun v H1 s1 r1=>⟨G,ow,δ,y,R.grow s1,e2,fun u H2 s2 r2=>?_⟩⟩
 unfold qp at e3
 split at e3
 ·next l m =>
  by_cases z:l.length + m.length ≤ 1000000
  ·rw [if_pos z] at e3
   cases e3
   obtain ⟨p,xs,rfl,hx,hr⟩:=xR r1
   obtain ⟨p',ys,rfl,hy,hr'⟩:=xR r2
   refine ⟨p,p',xs,ys,rfl,rfl,s2.seq hx,hy,?_,fun pn hp=>q _ _ ((s1.trans s2).trans (gn hp _)) (yV (G:=G) (s1.trans s2) hp ((hr.same s2).append hr'))⟩
   rw [hr.length,hr'.length]
   exact bV z (by decide)
  ·rw [if_neg z] at e3
   cases e3
 ·cases e3
theorem RAs.rep {K:PySem.W.Frag} {ok:Ok} {pl:Bool} {H:Hp} {vs:List V} {l:List D} (r:RAs K ok pl H vs l):∀ n:Nat,RAs K ok pl H (aG n vs).flatten (aG n l).flatten
 | 0=>.nil
 | n + 1=>by
  rw [b_,b_,d9,d9]
  exact r.append (RAs.rep r n)
theorem rO (h1:DE X fl .F a fa) (h2:DE X fl .P b fb):DE X fl .F (.BinOp a .Mult b pos) (dOp rF fa fb):=PE.imp (Gj Oi h1 h2) fun σ H Q h=>by
 obtain ⟨G,ow,δ,d,R,hf,q⟩:=h
 obtain ⟨x,y,e1,e2,e3⟩:=Ci hf
 refine ⟨G,ow,δ,x,R,e1,fun v H1 s1 r1=>⟨G,ow,δ,y,R.grow s1,e2,fun u H2 s2 r2=>?_⟩⟩
 unfold rF at e3
 split at e3
 ·next l k =>
  by_cases z:l.length * k.toNat ≤ 1000000∧-(2 ^ 63) ≤ k∧k < 2 ^ 63
  ·rw [if_pos z] at e3
   cases e3
   obtain rfl:=RA.intE r2
   rcases r1 with ⟨hz,_⟩ | ⟨p,xs,ds,rfl,ez,h3,h4,h5⟩
   ·simp [flat] at hz
   ·cases ez
    refine ⟨p,k,xs,rfl,rfl,s2 _ _ h4,z.2.1,z.2.2,?_,fun pn hp=>q _ _ ((s1.trans s2).trans (gn hp _)) (yV (G:=G) (s1.trans s2) hp (((h5.imp (fun b w=>w.1) (fun z=>z)).same s2).rep _))⟩
    rw [h5.length]
    exact bV z.1 (by decide)
  ·rw [if_neg z] at e3
   cases e3
 ·cases e3
theorem tO {L:List Nat} {p:Pos} (h:DE X fl (.B L) a f) (hg:Gl X "list") (hm:X.mg "list" = none)
 (he:starEach [a] X.env=(false,eval a X.env) :: starEach [] X.env:=by rfl) (hpl:(backTo pos (starEach [] X.env)).any (·.1)=false:=by rfl):DE X fl .F (.Call (.Name "list" p) [a] [] pos) (dUn pC f) :=
 PE.imp (v7 xr hg hm boot_list (eV h jo he) (by decide) (by decide) he hpl) fun σ H Q h=>by
 obtain ⟨G,ow,δ,d,R,hf,q⟩:=h
 obtain ⟨x,e1,e2⟩:=bind1 hf
 refine ⟨G,ow,δ,x,R,e1,fun v H1 s1 r1=>?_⟩
 unfold pC at e2
 split at e2
 ·cases e2
  obtain ⟨p,xs,rfl,hx,hr⟩:=xR r1
  exact ⟨p,xs,rfl,.inl hx,fun pn hp=>q _ _ (s1.trans (gn hp _)) (yV (G:=G) s1 hp hr)⟩
 ·cases e2
  rcases r1 with r1 | ⟨i,hi,a,xs,ds,ho,rfl,e,hx,hr⟩
  ·obtain ⟨p,xs,rfl,hx,hr⟩:=r1.tupE
   exact ⟨p,xs,rfl,.inr hx,fun pn hp=>q _ _ (s1.trans (gn hp _)) (yV (G:=G) s1 hp hr)⟩
  ·cases e
 ·cases e2
def tDO (K:PySem.W.Frag) (fl:List Fl) (f:FO):TO:=fun σ H Q=>∃ G ow δ o,Rel K fl G ow σ H δ∧f δ=some o∧∀ H',Same H H'→Q o H'
theorem PO.imp {o:Option Expr} {t t':TO} (h:PO X o t) (i:∀ σ H Q,t' σ H Q→t σ H Q):PO X o t':=fun pins s σ H Q I q=>h pins s σ H Q I (i σ H Q q)
theorem tQ:PO X none (tDO X.K fl uF):=PO.imp JR fun σ H Q h=>by
 obtain ⟨G,ow,δ,o,R,hf,q⟩:=h
 cases hf
 exact q H (Same.refl H)
theorem tR (h:DE X fl .P e f):PO X (some e) (tDO X.K fl (sU f)):=PO.imp (JT h) fun σ H Q h=>by
 obtain ⟨G,ow,δ,o,R,hf,q⟩:=h
 obtain ⟨d,e1,e2⟩:=bind1 hf
 split at e2
 ·cases e2
  refine ⟨G,ow,δ,_,R,e1,fun v H1 s1 r1=>?_⟩
  obtain rfl:=RA.intE r1
  exact ⟨_,rfl,q H1 s1⟩
 ·cases e2
theorem GK (n d:Nat) (o:Option Int):HT.sIx n d o=pSx n d o:=by
 cases o <;> rfl
theorem RAs.cut {K:PySem.W.Frag} {ok:Ok} {pl:Bool} {H:Hp} {vs:List V} {l:List D} (r:RAs K ok pl H vs l) (lo hi:Option Int):RAs K ok pl H (DK vs lo hi) (cutD l lo hi):=by
 unfold DK cutD
 rw [r.length,GK,GK]
 exact (r.drop _).take _
theorem Cu {L:List Nat} {lo hi:Option Expr} {p2:Pos} {fl1 fh:FO} (h:DE X fl (.B L) a f) (h1:PO X lo (tDO X.K fl fl1)) (h2:PO X hi (tDO X.K fl fh)):DE X fl .F (.Subscript a (.Slice lo hi none p2) pos) (dSl f fl1 fh):=PE.imp (Gr JW h h1 h2) fun σ H Q h=>by
 obtain ⟨G,ow,δ,d,R,hf,q⟩:=h
 obtain ⟨x,e1,hf⟩:=bind1 hf
 obtain ⟨o1,e2,hf⟩:=bind1 hf
 obtain ⟨o2,e3,e4⟩:=bind1 hf
 refine ⟨G,ow,δ,x,R,e1,fun v H1 s1 r1=>⟨G,ow,δ,o1,R.grow s1,e2,fun H2 s2=>⟨G,ow,δ,o2,R.grow (s1.trans s2),e3,fun H3 s3=>?_⟩⟩⟩
 split at e4
 ·cases e4
  obtain ⟨p,xs,rfl,hx,hr⟩:=xR r1
  have s13:=s2.trans s3
  exact ⟨p,xs,rfl,s13.seq hx,fun pn hp=>q _ _ ((s1.trans s13).trans (gn hp _)) (yV (G:=G) (s1.trans s13) hp ((hr.same s13).cut o1 o2))⟩
 ·cases e4
end
end D3
namespace D3
open PySem PySem.Spec PyProof.Rows L2 My
section
variable {X:Cx} {pins:List (Addr × Obj)} {σ:St} {H:Hp} {s:Shared} {h':Heap}
theorem Inv.turnedL {t':Nat} {ch:List Addr} (I:Inv X pins σ H s) (k:∀ b o,b ∉ ch→s.heap.get? b=some o→h'.get? b=some o) (hf:∀ b ∈ ch,rD X pins H b):Inv X pins σ H { s with heap:=h',toks:=t' }:=by
 have nit:∀ b u,H b=some u→b ∉ ch:=fun b u e z=>by rw [(hf b z).1] at e;cases e
 refine I.step (g':=s.gens) (d':=s.drawn) (ch:=ch) (fun b hb=>?_) (fun b o _ _ hc e _=>k b o hc e) (fun b o _ _ hc e _=>⟨o.slots,k b o hc e⟩) (fun _ _ _ _ n=>n)
  (fun b o hc e=>⟨o,k b o hc e⟩) (fun _ _ e=>e) (fun _ _ _ e=>e) (fun _ _ _ e=>e) (fun m hm=>?_) (fun b u e=>?_) I.bare
 ·obtain ⟨f0,f1,f2,f3,f4,f5⟩:=hf b hb
  exact ⟨f3,f1,f4,f5⟩
 ·obtain ⟨o,es,ep,ho,r⟩:=hm
  exact ⟨o,es,ep,k _ o (fun z=>(hf _ z).2.1 rfl) ho,r⟩
 ·refine (I.hok b u e).stay (fun c v hc q=>k c v ?_ q) (fun _ q=>q) fun _ _ q=>q
  rcases hc with z | z
  ·rw [z];exact nit b u e
  ·exact nit c _ z
end
def Ite (K:PySem.W.Frag) (a:Addr):It :=
 ⟨fun i H=>∃ xs x,SqL K H a xs∧xs[i]? = some x,fun i H x H'=>∃ p y,H p=none∧H'=upd H p (.tup [.int i,y])∧x = .ref p∧∀ xs,SqL K H a xs→xs[i]? = some y,fun i H=>∃ xs,SqL K H a xs∧xs.length ≤ i⟩
theorem Ea {P:Program} {w:World} {K:PySem.W.Frag} {elts:List Expr} {x1} {tpos:Pos} (a it:Addr) :
 Turn P w K (.Tuple elts x1 tpos) (Ite K a) [it + 1,it] (it + 1) (fun i h=>∃ old,IsEnum h (it + 1) it (i:Int) old∧h.IsListIter it a i) where
 mem:=by simp
 obj:=fun i h st b hb=>by
  obtain ⟨old,he,o,e,c,d⟩:=st
  rcases aZ.mp hb with z | z
  ·subst z
   exact ⟨_,he,fun v z=>by cases z⟩
  ·have z:b=it:=by simpa using z
   subst z
   exact ⟨o,e,fun v z=>by rw [d] at z;cases z⟩
 keep:=fun i h h' st k=>by
  obtain ⟨old,he,hi⟩:=st
  exact ⟨old,k _ (by simp) _ he,hi.at fun o e=>k it (by simp) o e⟩
 item:=by
  intro X hP hw hK hc i pins s σ H E I hf st hg
  subst hP hw hK
  obtain ⟨xs,x,hq,hx⟩:=hg
  obtain ⟨its,rv,p,hz⟩:=I.list hq
  obtain ⟨u,hu,ru⟩:=rv.get hx
  obtain ⟨old,he,hi⟩:=st
  have fe:=hf (it + 1) (by simp)
  have fi:=hf it (by simp)
  have hlt:it + 1 < s.heap.objs.size:=Heap.lt_size he
  refine wpAny_pyNext_enum_item he hi p.isList (x:=u) (by simpa using hu) (Nat.succ_ne_self it) fun h1 ho hi1 ht hsz hk=>?_
  refine ⟨_,rfl,wpAny_letOwnedTupleGo_enum ho fun h2 he2 hs2=>?_⟩
  replace hs2:Heap.SameBut (it + 1) h1 h2:=hs2
  have hn:H s.heap.objs.size=none:=I.hok.fresh (bA _)
  have I0:Inv X pins σ (upd H s.heap.objs.size (.tup [.int (i:Int),x])) { s with heap:=s.heap.push { cls:=.type "tuple", data:=.seq #[.int (i:Int) s.toks,u] } } :=
   I.laid (t':=s.toks) (fun b o e=>Heap.get?_push_of_some _ e) (bA _) ⟨show 2 ≤ sizeLine by decide,[.int (i:Int) s.toks,u],.cons ⟨_,rfl⟩ (.cons ru .nil),⟨_,Heap.get?_push_size _ rfl,rfl,_,rfl⟩⟩
  have ne:∀ b,b ∈ [it + 1,it]→b ≠ s.heap.objs.size:=fun b hb=>by
   rcases aZ.mp hb with w' | w'
   ·rw [w'];exact bR hlt
   ·rw [show b=it by simpa using w'];exact bR (Nat.lt_of_succ_lt hlt)
  have I1:Inv X pins σ (upd H s.heap.objs.size (.tup [.int (i:Int),x])) { s with heap:=h2,toks:=s.toks + 1 }:=by
   refine Inv.turnedL (s:={ s with heap:=s.heap.push { cls:=.type "tuple", data:=.seq #[.int (i:Int) s.toks,u] } }) (ch:=[it + 1,it]) I0 (fun b o hb e=>?_) fun b hb=>⟨by rw [dZ (ne b hb)];exact (hf b hb).1,(hf b hb).2⟩
   have b1:b ≠ it + 1:=fun z=>hb (by simp [z])
   have b2:b ≠ it:=fun z=>hb (by simp [z])
   rcases Heap.get?_push_cases e with ⟨e1,e2⟩ | e1
   ·subst e1 e2
    exact (hs2.2 _ b1).trans ht
   ·exact (hs2.2 _ b1).trans (hk b o b1 b2 e1)
  refine ⟨.ref s.heap.objs.size,_,I1,rfl,⟨_,x,hn,rfl,rfl,fun ys hy=>by rw [I.list_inj hy hq];exact hx⟩,⟨_,he2,hi1.at fun o e=>(hs2.2 _ (bR (jP it))).trans e⟩,fun b hb=>?_⟩
  rw [dZ (ne b hb)]
  exact (hf b hb).1
 done:=by
  intro X hP hw hK hc i pins s σ H E I hf st hg
  subst hP hw hK
  obtain ⟨xs,hq,hx⟩:=hg
  obtain ⟨its,rv,p,hz⟩:=I.list hq
  obtain ⟨old,he,hi⟩:=st
  have hl:=rv.length
  refine wpAny_pyNext_enum_end (I.ok.hd hc) he hi p.isList (by simp;omega) fun h' eb=>⟨rfl,Inv.turnedL (t':=s.toks) (ch:=[it + 1,it]) I (fun b o hb e=>eb b o (fun z=>hb (by simp [z])) e) hf⟩
 self:=fun _ _ _ _ _ st h=>by
  obtain ⟨old,he,_⟩:=st
  exact wpAny_pyIter_enum he h
section
variable {X:Cx} {fl:List Fl} {a:Expr} {f:FE} {pos:Pos}
def RQ (K:PySem.W.Frag) (tl:TE):TI:=fun σ H R=>tl σ H fun x H1=>∃ a,x = .ref a∧(∃ xs,SqL K H1 a xs)∧R (Ite K a) H1
theorem Kr {elts:List Expr} {x1} {tpos p:Pos} {tl:TE} (hg:Gl X "enumerate") (hm:X.mg "enumerate" = none) (hl:PE X a tl) (he:starEach [a] X.env=(false,eval a X.env) :: starEach [] X.env:=by rfl)
 (hpl:(backTo pos (starEach [] X.env)).any (·.1)=false:=by rfl):PI X (.Tuple elts x1 tpos) (.Call (.Name "enumerate" p) [a] [] pos) (RQ X.K tl):=by
 intro pins s σ H R I h
 refine wpAny_Call_Name_kw (m7 I hg hm boot_enumerate (PyProof.Rows.callWith_type1 (thn ((eV hl jo he) pos pins s σ H (fun vs H1=>match vs with | [x]=>∃ a,x = .ref a∧(∃ xs,SqL X.K H1 a xs)∧R (Ite X.K a) H1 | _=>False) I h) fun us s1 ⟨vs,H1,I1,r1,q1⟩=>?_) he hpl))
 cases r1 with
 | nil=>exact q1.elim
 | cons r rr =>
  cases rr with
  | cons _ _=>exact q1.elim
  | nil =>
  obtain ⟨l,e,⟨xs,hq⟩,q⟩:=q1
  subst e
  cases r
  obtain ⟨its,rv,pl,hz⟩:=I1.list hq
  refine call_enumerate_list pl.isList fun h' he' hi' hsz hk=>?_
  have I2:Inv X pins σ H1 { s1 with heap:=h' }:=I1.kept (t':=s1.toks) hk
  refine wpAny_pyIter_enum (s:={ s1 with heap:=h' }) he' ?_
  refine ⟨s1.heap.objs.size + 1,[s1.heap.objs.size + 1,s1.heap.objs.size],_,_,H1,rfl,I2,Ea l s1.heap.objs.size,⟨_,he',hi'⟩,fun b hb=>?_,q⟩
  have hb':s1.heap.objs.size ≤ b:=by
   rcases aZ.mp hb with z | z
   ·rw [z];exact n6 _
   ·rw [show b=s1.heap.objs.size by simpa using z];exact bA _
  exact I1.fpOk hb' (I1.hok.fresh hb')
theorem nF {elts:List Expr} {x1} {tpos p:Pos} {L:List Nat} (h:DE X fl (.B L) a f) (hg:Gl X "enumerate") (hm:X.mg "enumerate" = none) (he:starEach [a] X.env=(false,eval a X.env) :: starEach [] X.env:=by rfl)
 (hpl:(backTo pos (starEach [] X.env)).any (·.1)=false:=by rfl):DI X fl L (.Tuple elts x1 tpos) (.Call (.Name "enumerate" p) [a] [] pos) (lO f):=PI.imp (Kr hg hm h he hpl) fun σ H R' h=>by
 obtain ⟨G,ow,δ,l,R,hf,q⟩:=h
 obtain ⟨d,e1,e2⟩:=bind1 hf
 cases d <;> first | (cases e2;done) | skip
 next l0 =>
 cases e2
 refine ⟨G,ow,δ,_,R,e1,fun v H1 s r=>?_⟩
 obtain ⟨a,xs,rfl,hx,keep⟩:=rM (R.grow s) r
 refine ⟨a,rfl,⟨xs,hx⟩,q _ _ s fun H2 k2 i=>?_⟩
 obtain ⟨k3,k4⟩:=keep H2 k2
 refine ⟨fun d hd=>?_,fun hl=>⟨xs,k3,by rw [k4.length];simpa [jB] using hl⟩⟩
 have hd':(l0[i]?).map (fun x=>PyData.tuple [.int (i:Int),x])=some d:=by
  have:=hd
  unfold jB at this
  rw [fj] at this
  exact this
 cases e:l0[i]? with
 | none=>rw [e] at hd';cases hd'
 | some x0 =>
  rw [e] at hd'
  cases hd'
  obtain ⟨y,hy,ry⟩:=k4.get e
  refine ⟨⟨xs,y,k3,hy⟩,fun x H3 hyl=>?_⟩
  obtain ⟨p,y',hp,rfl,rfl,hz⟩:=hyl
  have:some y=some y':=hy.symm.trans (hz xs k3)
  cases this
  have g:=gn hp (.tup [.int (i:Int),y])
  exact ⟨g,.tup gk (.cons (.int _) (.cons (ry.same g) .nil))⟩
end
structure Bl (mg:Str→Option Value):Prop where
 len_:mg "len" = none
 range_:mg "range" = none
 abs_:mg "abs" = none
 isinstance_:mg "isinstance" = none
 int_:mg "int" = none
 bool_:mg "bool" = none
 tuple_:mg "tuple" = none
 list_:mg "list" = none
 str_:mg "str" = none
 max_:mg "max" = none
 min_:mg "min" = none
 sorted_:mg "sorted" = none
 sum_:mg "sum" = none
 reversed_:mg "reversed" = none
 enumerate_:mg "enumerate" = none
 zip_:mg "zip" = none
 set_:mg "set" = none
 any_:mg "any" = none
 all_:mg "all" = none
 dict_:mg "dict" = none
end D3
namespace D3
open PySem PySem.Spec PyProof.Rows L2 My
structure FunD (K:PySem.W.Frag) (x:Str) (st:Stmt) (f:Addr) (fd:FuncData):Prop where
 ex:∃ (oc:Value) (od:Option Addr) (dV kV doc pm:Value) (an:Option Addr) (cdv ct:Value) (osl:Array (Option Value)),
  fd=PySem.W.fnOf x x (oX st) (gG st) (aO st) dV kV doc pm an cdv ct∧K.lookup f=some ⟨oc,od,.func fd,osl⟩∧PySem.W.codeIn K cdv x=true
 kp:PySem.W.keepIn K (.ref f)=true
structure Dg (K:PySem.W.Frag) (mg:Str→Option Value) (x:Str) (st:Stmt) (ps:List Str):Prop where
 ex:∃ (f:Addr) (fd:FuncData),FunD K x st f fd∧Binds K fd ps []∧mg x=some (.ref f)
theorem dX {K:PySem.W.Frag} {h:Heap} {mg:Str→Option Value} {f:Addr} {oc kV dc pm cd ct:Value} {od an:Option Addr} {sl:Array (Option Value)} {x:Str} {st:Stmt} {ps:List Str} (X:K.In h) (G:h.Ns mainGlobals mg)
 (hb:∀ (kV doc pm:Value) (an:Option Addr) (cdv ct:Value) (us:List Value),us.length=ps.length→bindArgs (PySem.W.fnOf x x (oX st) (gG st) (aO st) .none kV doc pm an cdv ct) ⟨us,[]⟩=pure (ps.zip us))
 (a:PySem.W.nsIn K mainGlobals x=some (some (.ref f))) (l:K.lookup f=some ⟨oc,od,.func (PySem.W.fnOf x x (oX st) (gG st) (aO st) .none kV dc pm an cd ct),sl⟩) (c:PySem.W.codeIn K cd x=true) (k:PySem.W.keepIn K (.ref f)=true):Dg K mg x st ps :=
 ⟨_,_,⟨⟨oc,od,.none,kV,dc,pm,an,cd,ct,sl,rfl,l,c⟩,k⟩,.all (hb kV dc pm an cd ct),PySem.W.mg_of X G a⟩
structure Dl (K:PySem.W.Frag) (mg:Str→Option Value) (x y:Str) (st:Stmt):Prop where
 ex:∃ (f:Addr) (fd:FuncData),FunD K x st f fd∧(∀ (s:Shared) (u:Value),BindsTo s fd ⟨[u],[]⟩ [(y,u)])∧mg x=some (.ref f)
theorem RV {K:PySem.W.Frag} {h:Heap} {mg:Str→Option Value} {f:Addr} {oc kV dc pm cd ct:Value} {od an:Option Addr} {sl:Array (Option Value)} {x y:Str} {st:Stmt} (X:K.In h) (G:h.Ns mainGlobals mg)
 (hb:∀ (kV doc pm:Value) (an:Option Addr) (cdv ct:Value) (u:Value),bindArgs (PySem.W.fnOf x x (oX st) (gG st) (aO st) .none kV doc pm an cdv ct) ⟨[u],[]⟩=pure [(y,u)])
 (a:PySem.W.nsIn K mainGlobals x=some (some (.ref f))) (l:K.lookup f=some ⟨oc,od,.func (PySem.W.fnOf x x (oX st) (gG st) (aO st) .none kV dc pm an cd ct),sl⟩) (c:PySem.W.codeIn K cd x=true) (k:PySem.W.keepIn K (.ref f)=true):Dl K mg x y st :=
 ⟨_,_,⟨⟨oc,od,.none,kV,dc,pm,an,cd,ct,sl,rfl,l,c⟩,k⟩,fun s u=>.of_eq (hb kV dc pm an cd ct u),PySem.W.mg_of X G a⟩
section
variable {P:Program} {w:World} {K:PySem.W.Frag} {mg:Str→Option Value} {base:Heap} {x:Str} {ps N:List Str} {st:Stmt} {k n:Nat} {fs:FS} {fl:List Fl}
theorem FunD.ok {f:Addr} {fd:FuncData} {sp:Sp} (F:FunD K x st f fd) (S:FnScope N ps (aO st)) (len:∀ vs H Q E,sp vs H Q E→vs.length=ps.length)
 (hbody:∀ (cdv:Value) (A:Around) (outer:List Env) (s:Shared) (H:Hp) (vs:List V) (Q:VK) (E:XK),Room k (A.deeper (envOfC x (aO st) s.heap.objs.size f cdv))→sp vs H Q E →
  ∃ t,PSs (fM CX0 P w K mg base N x (aO st) f cdv A outer s H E).nox (gG st) t∧t { nx:=fun _ H'=>Q .non H',rt:=Q } (L2.start N vs) H):FnOk P w K mg base CX0 (k + 1) f fd ps sp:=by
 obtain ⟨oc,od,dV,kV,doc,pm,an,cdv,ct,osl,rfl,lk,hcd⟩:=F.ex
 refine M5 lk hcd S len fun A outer s H vs Q E hr hsp=>?_
 obtain ⟨t,h,q⟩:=hbody cdv A outer s H vs Q E hr hsp
 exact ⟨t,h.nox,q⟩
theorem GP {f:Addr} {fd:FuncData} (Fn:FunD K x st f fd) (S:FnScope N ps (aO st)) (hp:∀ i,i < ps.length→fl[i]? = some .A) (hN:ps.length ≤ N.length)
 (hbody:∀ (f:Addr) (cdv:Value) (A:Around) (outer:List Env) (s:Shared) (H:Hp) (E:XK),Room k (A.deeper (envOfC x (aO st) s.heap.objs.size f cdv))→DSs (cx P w K mg base N x st f cdv A outer s H E) fl (gG st) fs) :
 FnOk P w K mg base CX0 (k + 1) f fd ps (spD K (fnD ps.length (N.length - ps.length) fs)):=by
 refine Fn.ok S (fun vs H Q E h=>?_) (fun cdv A outer s H vs Q E hr h=>?_)
 ·obtain ⟨ds,d,r,hf,_⟩:=h
  unfold fnD at hf
  by_cases z:ds.length=ps.length
  ·rw [r.2.length];exact z
  ·rw [if_neg z] at hf;cases hf
 ·obtain ⟨ds,d,r,hf,q⟩:=h
  refine ⟨_,hbody f cdv A outer s H E hr,?_⟩
  unfold fnD at hf
  by_cases z:ds.length=ps.length
  ·rw [if_pos z] at hf
   split at hf
   ·next d' e =>
    cases hf
    exact ⟨_,_,_,_,gY ps.length hp z hN r,e,fun v H' s r=>q v H' s r⟩
   ·next δ' e =>
    cases hf
    exact ⟨_,_,_,_,gY ps.length hp z hN r,e,fun ow' σ' H' R'=>q .non H' R'.same0 .non⟩
   ·cases hf
  ·rw [if_neg z] at hf;cases hf
theorem fU (Dd:Dg K mg x st ps) (S:FnScope N ps (aO st)) (hp:∀ i,i < ps.length→fl[i]? = some .A) (hN:ps.length ≤ N.length)
 (hbody:∀ (f:Addr) (cdv:Value) (A:Around) (outer:List Env) (s:Shared) (H:Hp) (E:XK),Room k (A.deeper (envOfC x (aO st) s.heap.objs.size f cdv))→DSs (cx P w K mg base N x st f cdv A outer s H E) fl (gG st) fs) :
 Has P w K mg base (k + 1) x ps (spD K (fnD ps.length (N.length - ps.length) fs)):=by
 obtain ⟨f,fd,Fn,b,m⟩:=Dd.ex
 exact ⟨f,fd,GP Fn S hp hN hbody,b,Fn.kp,m⟩
end
def GQ (K:PySem.W.Frag):Sp:=fun vs H Q _=>∃ (a:Addr) (ns:List Int),Tb H∧vs=[.ref a]∧SqL K H a (ns.map V.int)∧ns.length ≤ 63∧∀ H',Q (.bl true) H'
theorem tV {K:PySem.W.Frag} {ok:Ok} {pl:Bool} {H:Hp}:∀ ns:List Int,RAs K ok pl H (ns.map V.int) (ns.map PyData.int)
 | []=>.nil
 | n :: r=>.cons (.int n) (tV r)
theorem Ks {K:PySem.W.Frag} {F:List D→Option D} (hF:∀ ns:List Int,ns.length ≤ 63→F [.list (ns.map .int)]=some (.bool true)) (vs:List V) (H:Hp) (Q:VK) (E:XK) (h:GQ K vs H Q E):spD K F vs H Q E:=by
 obtain ⟨a,ns,tb,rfl,hS,hl,q⟩:=h
 refine ⟨_,_,⟨tb,.cons ?_ .nil⟩,hF ns hl,fun v H' s r=>?_⟩
 ·rcases hS with (h | ⟨o,h⟩) | h
  ·exact .lst h trivial (tV ns)
  ·exact .lsk (.inl ⟨o,h⟩) rfl (tV ns)
  ·exact .lsk (.inr h) rfl (tV ns)
 ·obtain rfl:=r.blE
  exact q H'
end D3
namespace D3
open PySem PySem.Spec PyProof.Rows L2 My
section
variable {prog:Program} {w:World} {A:Around} {E:Value→Shared→Prop} {s:Shared}
end
section
variable {X:Cx} {fl:List Fl} {a:Expr} {f:FE} {pos p p2 pos2:Pos}
end
section
variable {X:Cx} {fl:List Fl} {a b:Expr} {pos p p2 pos2:Pos} {fa:FA}
theorem Cv {f:Nat→V}:∀ (us:List Value) (k:Nat),(∀ j v,us[j]? = some v→RelV (f (k + j)) v)→Vals ((lJ k us.length).map f) us
 | [],_,_=>.nil
 | u :: r,k,h=>by
  rw [cA,List.range'_succ,bC]
  refine .cons (h 0 u rfl) (Cv r (k + 1) fun j v hj=>?_)
  have:=h (j + 1) v (by simpa using hj)
  rw [show k + 1 + j=k + (j + 1) by omega]
  exact this
theorem GR {K:PySem.W.Frag} {ok:Ok} {pl:Bool} {H:Hp} (lo:Int):∀ (n k:Nat),RAs K ok pl H ((lJ k n).map fun (j:Nat)=>V.int (lo + (j:Int))) ((lJ k n).map fun (j:Nat)=>PyData.int (lo + (j:Int)))
 | 0,_=>.nil
 | n + 1,k=>by
  rw [List.range'_succ,bC,bC]
  exact .cons (.int _) (GR lo n (k + 1))
end
end D3
namespace D3
open PySem PySem.Spec PyProof.Rows L2 My
section
variable {X:Cx}
theorem uN:∀ {ns:List Int} {its:List Value},Vals (ns.map V.int) its→IntsAre its ns
 | [],_,.nil=>.nil
 | n :: r,_,.cons h t=>by
  obtain ⟨k,rfl⟩:=h
  exact .cons _ _ (uN t)
theorem mQ (hc:X.calm=true):lq X (.builtin "sum") (fun xs H Q=>∃ (p:Addr) (ns:List Int),xs=[.ref p]∧SqL X.K H p (ns.map V.int)∧Q (.int ns.sum) H):=by
 intro pins s σ H xs us Q I r h
 obtain ⟨p,ns,rfl,hx,q⟩:=h
 obtain ⟨u,rfl,rx⟩:=vals1 r
 cases rx
 obtain ⟨its,rvs,pl,hz⟩:=I.list hx
 have hi:=uN rvs
 obtain ⟨xs,hxs⟩:=hi.allInts.items
 have hl:s.heap.IsList p (intItems xs):=hxs ▸ pl.isList
 refine sum_intListG (I.ok.hd hc) hl fun h' tk t' hk=>?_
 have e1:ns=xs.toList.map (·.1):=by
  rw [← nums_intItems,← hxs]
  exact (show numsOf its.toArray.toList=ns from hi.numsOf).symm
 have e2:preSum (numAt xs) xs.size=ns.sum:=by
  rw [preSum_eq,List.take_of_length_le (by simp),e1]
 rw [e2]
 exact ⟨.int _,H,I.kept hk,⟨_,rfl⟩,q⟩
theorem uO {K:PySem.W.Frag} {ok:Ok} {pl:Bool} {H:Hp}:∀ {l:List D} {ns:List Int} {ys:List V},nJ l=some ns→RAs K ok pl H ys l→ys=ns.map V.int
 | [],_,_,e,.nil=>by cases e;rfl
 | d :: r,ns,_,e,.cons h t=>by
  cases d <;> first | (cases e;done) | skip
  obtain rfl:=h.intE
  cases e2:nJ r with
  | none=>rw [nJ,e2] at e;cases e
  | some m =>
   rw [nJ,e2] at e
   cases e
   rw [uO e2 t]
   rfl
theorem uP {K:PySem.W.Frag}:BrC K (fun xs H Q=>∃ (p:Addr) (ns:List Int),xs=[.ref p]∧SqL K H p (ns.map V.int)∧Q (.int ns.sum) H) uD:=by
 intro H xs ds d Q r e q
 unfold uD at e
 split at e
 ·next l =>
  cases e2:nJ l with
  | none=>rw [e2] at e;cases e
  | some ns =>
   rw [e2] at e
   cases e
   cases r with
   | cons r1 r2 =>
    cases r2
    obtain ⟨a,ys,rfl,hx,hr⟩:=r1.lstE
    obtain rfl:=uO e2 hr
    exact ⟨a,ns,rfl,hx,q _ rfl (.int _)⟩
 ·cases e
end
end D3
namespace D3
open PySem PySem.Spec PyProof.Rows L2 My
def gK (n:Nat) (us ws:List α):List α:=if ws.length=n then us++ws else []
structure HasD (P:Program) (w:World) (K:PySem.W.Frag) (mg:Str→Option Value) (base:Heap) (n:Nat) (x:Str) (ps:List Str) (sp:Sp) (dvs:List V) (ks:List Str):Prop where
 ex:∃ (f:Addr) (fd:FuncData) (ds:List Value),FnOk P w K mg base CX0 n f fd ps sp∧Binds K fd ps ds∧Vals dvs ds∧KBinds K fd ps ks (gK ks.length) (gK ks.length)∧PySem.W.keepIn K (.ref f)=true∧mg x=some (.ref f)
structure DgD (K:PySem.W.Frag) (mg:Str→Option Value) (x:Str) (st:Stmt) (ps:List Str) (dvs:List V) (ks:List Str):Prop where
 ex:∃ (f:Addr) (fd:FuncData) (ds:List Value),FunD K x st f fd∧Binds K fd ps ds∧Vals dvs ds∧KBinds K fd ps ks (gK ks.length) (gK ks.length)∧mg x=some (.ref f)
section
variable {P:Program} {w:World} {K:PySem.W.Frag} {mg:Str→Option Value} {base:Heap} {x:Str} {ps N ks:List Str} {st:Stmt} {k n:Nat} {fs:FS} {fl:List Fl} {dvs:List V}
end
section
variable {X:Cx} {fl:List Fl} {e ke:Expr} {es:List Expr} {pos p kpos:Pos} {x kn:Str} {ps:List Str} {n:Nat} {F:List D→Option D} {fa:FA} {fk:FE} {i:Int} {dvs:List V}
theorem Ox {K:PySem.W.Frag}:BrC K (fun xs H Q=>(∃ i,xs=[.int i]∧Q (.int i) H)∨∃ k,xs=[.bl k]∧Q (.int (if k then 1 else 0)) H) DX:=by
 intro H xs ds d Q r e q
 unfold DX at e
 split at e
 ·cases e
  cases r with
  | cons r1 r2 =>
   cases r2
   obtain rfl:=r1.intE
   exact .inl ⟨_,rfl,q _ rfl (.int _)⟩
 ·cases e
  cases r with
  | cons r1 r2 =>
   cases r2
   obtain rfl:=r1.blE
   exact .inr ⟨_,rfl,q _ rfl (.int _)⟩
 ·cases e
theorem GX {j pos'} {a:Expr} {f:FE} (h:DE X fl .P a f):DT X fl (.Compare a [.Is] [.Constant .none j pos'] pos) (bf (dUn xu f)):=PT.imp (FP (Nz h)) fun σ H Q h=>by
 obtain ⟨G,ow,δ,c,R,hf,q⟩:=h
 obtain ⟨d,e1,e2⟩:=bind1 hf
 obtain ⟨x,e3,e4⟩:=bind1 e1
 cases e4
 cases e2
 refine ⟨G,ow,δ,x,R,e3,fun v H1 s1 r1=>?_⟩
 refine ⟨decide (v = .non),rfl,?_⟩
 rw [GF (RA.same (Same.refl H1) r1)]
 exact q H1 s1
theorem Ku {p:Pos} (ha:DB X fl .P [e] fa) (hg:Gl X "int") (hm:X.mg "int" = none)
 (he:starEach [e] X.env=(false,eval e X.env) :: starEach [] X.env:=by rfl) (hpl:(backTo pos (starEach [] X.env)).any (·.1)=false:=by rfl):DE X fl .FC (.Call (.Name "int" p) [e] [] pos) (dCall DX fa) :=
 PE.imp (v7 Dy hg hm boot_int ha (by decide) (by decide) he hpl) fun σ H Q h=>by
 obtain ⟨G,ow,δ,d,R,hf,q⟩:=h
 obtain ⟨ds,e1,e2⟩:=bind1 hf
 exact ⟨G,ow,δ,ds,R,e1,fun vs H' s r'=>Ox H' vs ds d Q r' e2 fun v hv rv=>q v H' s (.inl ⟨hv,rv⟩)⟩
end
end D3
namespace D3
open PySem PySem.Spec PyProof.Rows L2 My
section
variable {X:Cx}
theorem wC (hc:X.calm=true):lq X (.builtin "min") (fun xs H Q=>∃ (p:Addr) (i:Int) (r:List Int),xs=[.ref p]∧SqL X.K H p ((i :: r).map V.int)∧Q (.int (mnI i r)) H):=by
 intro pins s σ H xs us Q I r h
 obtain ⟨p,i,r0,rfl,hx,q⟩:=h
 obtain ⟨u,rfl,rx⟩:=vals1 r
 cases rx
 obtain ⟨its,rvs,pl,hz⟩:=I.list hx
 have hi:=uN rvs
 obtain ⟨xs,e⟩:=hi.allInts.items
 have hns:i :: r0=xs.toList.map (·.1):=by rw [← hi.numsOf,← nums_intItems,← e]
 have hsz:0 < xs.size:=by
  have h3:0 < (i :: r0).length:=by simp
  rw [hns,aW,gP] at h3;exact h3
 have hl:s.heap.IsList p (intItems xs):=e ▸ pl.isList
 refine min_intList (I.ok.hd hc) hl hsz fun v h' tk hv hk=>?_
 obtain ⟨t,rfl⟩:=intItems_at hv
 obtain ⟨h1,h2⟩:=argBest_lt (numAt xs) (xs.size - 1)
 have m1:numAt xs (argBest (fun i j=>decide (numAt xs i < numAt xs j)) (xs.size - 1)) ∈ i :: r0:=by
  rw [hns,numAt_eq];exact getD_mem (by rw [aW,gP];omega)
 have m2:∀ a ∈ i :: r0,numAt xs (argBest (fun i j=>decide (numAt xs i < numAt xs j)) (xs.size - 1)) ≤ a:=fun a ha=>by
  rw [hns] at ha
  obtain ⟨j,hj,rfl⟩:=mem_getD ha
  rw [aW,gP] at hj
  rw [← numAt_eq];exact h2 j (by omega)
 have sp:=uH r0 i
 have eq:numAt xs (argBest (fun i j=>decide (numAt xs i < numAt xs j)) (xs.size - 1))=mnI i r0:=Int.le_antisymm (m2 _ sp.1) (sp.2 _ m1)
 rw [eq]
 exact ⟨.int _,H,I.kept hk,⟨_,rfl⟩,q⟩
theorem GZ {K:PySem.W.Frag}:BrC K (fun xs H Q=>∃ (p:Addr) (i:Int) (r:List Int),xs=[.ref p]∧SqL K H p ((i :: r).map V.int)∧Q (.int (mnI i r)) H) uG:=by
 intro H xs ds d Q r e q
 unfold uG at e
 split at e
 ·next l =>
  split at e
  ·next i r0 e2 =>
   cases e
   cases r with
   | cons r1 r2 =>
    cases r2
    obtain ⟨a,ys,rfl,hx,hr⟩:=r1.lstE
    obtain rfl:=uO e2 hr
    exact ⟨a,i,r0,rfl,hx,q _ rfl (.int _)⟩
  ·cases e
 ·cases e
theorem yW:∀ {bs:List Bool} {its:List Value},Vals (bs.map V.bl) its→its=bs.map Value.bool
 | [],_,.nil=>rfl
 | b :: r,_,.cons h t=>by
  cases h
  rw [yW t]
  rfl
theorem all_range (bs:List Bool):(aX bs.length).all (fun i=>bs.getD i false)=bs.all id:=by
 rw [jZ,jg,jg]
 constructor
 ·intro h b hb
  obtain ⟨i,hi,rfl⟩:=List.getElem_of_mem hb
  have:=h i (bQ.mpr hi)
  rw [aN,aV hi] at this
  exact this
 ·intro h i hi
  have hi:=bQ.mp hi
  rw [aN,aV hi]
  exact h _ (d7 hi)
theorem yX {prog:Program} {w:World} {A:Around} (bs:List Bool):TruthOf prog w A (fun i v=>(bs.map Value.bool).toArray[i]? = some v) (fun i=>bs.getD i false):=by
 intro i v s Q E hv hQ
 have hv':(bs.map Value.bool)[i]? = some v:=by simpa using hv
 rw [bG] at hv'
 cases e:bs[i]? with
 | none=>rw [e] at hv';cases hv'
 | some b =>
  rw [e] at hv'
  cases hv'
  have eb:bs.getD i false=b:=by rw [aN,e];rfl
  have hQ':Q (bs.getD i false) s:=hQ
  rw [eb] at hQ'
  exact wpAny_truthy_bool hQ'
theorem kJ (hc:X.calm=true):lq X (.builtin "all") (fun xs H Q=>∃ (p:Addr) (bs:List Bool),xs=[.ref p]∧SqL X.K H p (bs.map V.bl)∧Q (.bl (bs.all id)) H):=by
 intro pins s σ H xs us Q I r h
 obtain ⟨p,bs,rfl,hx,q⟩:=h
 obtain ⟨u,rfl,rx⟩:=vals1 r
 cases rx
 obtain ⟨its,rvs,pl,hz⟩:=I.list hx
 obtain rfl:=yW rvs
 have hl:s.heap.IsList p (bs.map Value.bool).toArray:=pl.isList
 have hlt:p < s.heap.objs.size:=by obtain ⟨_,e,_⟩:=id hl;exact Heap.lt_size e
 refine call_all_walk (wpAny_pyIter_list hl ?_)
 refine ⟨_,_,_,_,_,_,_,rfl,Walks.list (A:=X.A.in1) (I.ok.hd hc) _ p (bR hlt) (bs.map Value.bool).toArray,⟨⟨_,Heap.get?_push_size _ rfl,rfl,rfl⟩,hl.push _⟩,yX bs,fun h' tk hk=>?_⟩
 have e:(bs.map Value.bool).toArray.size=bs.length:=by simp
 rw [e,all_range]
 exact ⟨.bl _,H,I.kept (old_kept hk),rfl,q⟩
theorem wD {K:PySem.W.Frag} {ok:Ok} {pl:Bool} {H:Hp}:∀ {l:List D} {bs:List Bool} {ys:List V},mq l=some bs→RAs K ok pl H ys l→ys=bs.map V.bl
 | [],_,_,e,.nil=>by cases e;rfl
 | d :: r,bs,_,e,.cons h t=>by
  cases d <;> first | (cases e;done) | skip
  obtain rfl:=h.blE
  cases e2:mq r with
  | none=>rw [mq,e2] at e;cases e
  | some m =>
   rw [mq,e2] at e
   cases e
   rw [wD e2 t]
   rfl
theorem sY {K:PySem.W.Frag}:BrC K (fun xs H Q=>∃ (p:Addr) (bs:List Bool),xs=[.ref p]∧SqL K H p (bs.map V.bl)∧Q (.bl (bs.all id)) H) vI:=by
 intro H xs ds d Q r e q
 unfold vI at e
 split at e
 ·next l =>
  cases e2:mq l with
  | none=>rw [e2] at e;cases e
  | some bs =>
   rw [e2] at e
   cases e
   cases r with
   | cons r1 r2 =>
    cases r2
    obtain ⟨a,ys,rfl,hx,hr⟩:=r1.lstE
    obtain rfl:=wD e2 hr
    exact ⟨a,bs,rfl,hx,q _ rfl (.bl _)⟩
 ·cases e
end
section
variable {X:Cx} {fl:List Fl} {a:Expr} {f:FE} {pos:Pos} {ta:TE}
end
section
variable {X:Cx} {fl:List Fl} {a b c:Expr} {f fa fb fc:FE} {pos:Pos}
theorem G3 {op op':CmpOp} {r r':R2} {g g':D→D→Option D} (ho:OpR X (compareOp op) r) (ho':OpR X (compareOp op') r') (hb:BrO X.K r g) (hb':BrO X.K r' g') (h1:DE X fl .P a fa) (h2:DE X fl .P b fb) (h3:DE X fl .P c fc)
 (hm:lastMarks [op,op'] [b,c]=false:=by with_unfolding_all rfl):DT X fl (.Compare a [op,op'] [b,c] pos) (bf (jG g g' fa fb fc)):=PT.imp (Gp ho ho' h1 h2 h3 hm) fun σ H Q h=>by
 obtain ⟨G,ow,δ,bb,R,hf,q⟩:=h
 obtain ⟨d,hf,hd⟩:=bind1 hf
 have hd':d = .bool bb:=by cases d <;> first | (cases hd;rfl) | (cases hd;done)
 subst hd'
 obtain ⟨x,e1,hf⟩:=bind1 hf
 obtain ⟨y,e2,hf⟩:=bind1 hf
 obtain ⟨z,e3,hf⟩:=bind1 hf
 refine ⟨G,ow,δ,x,R,e1,fun v H1 s1 r1=>⟨G,ow,δ,y,R.grow s1,e2,fun u H2 s2 r2=>?_⟩⟩
 refine hb H2 v u x y z _ (RA.same s2 r1) r2 e3 fun zv hz rz=>?_
 split at hf
 ·obtain rfl:=rz.blE
  obtain ⟨w,e4,e5⟩:=bind1 hf
  refine ⟨true,rfl,pL ⟨G,ow,δ,w,R.grow (s1.trans s2),e4,fun wv H3 s3 r3=>?_⟩⟩
  refine hb' H3 u wv y w _ _ (RA.same s3 r2) r3 e5 fun z hz rz=>?_
  obtain rfl:=rz.blE
  exact ⟨_,rfl,q H3 (s1.trans (s2.trans s3))⟩
 ·obtain rfl:=rz.blE
  cases hf
  exact ⟨false,rfl,qg ⟨_,rfl,q H2 (s1.trans s2)⟩⟩
 ·cases hf
theorem Cw {j pos'} (h:DE X fl .P a f):DT X fl (.Compare a [.IsNot] [.Constant .none j pos'] pos) (bf (dUn pB f)):=PT.imp (FP (JB h)) fun σ H Q h=>by
 obtain ⟨G,ow,δ,bb,R,hf,q⟩:=h
 obtain ⟨d,hf,hd⟩:=bind1 hf
 obtain ⟨x,e1,e2⟩:=bind1 hf
 cases e2
 cases hd
 refine ⟨G,ow,δ,x,R,e1,fun v H1 s1 r1=>?_⟩
 refine ⟨!decide (v = .non),rfl,?_⟩
 rw [GF (RA.same (Same.refl H1) r1)]
 exact q H1 s1
end
def Itz (K:PySem.W.Frag) (a b:Addr):It :=
 ⟨fun i H=>∃ xs ys x y,SqL K H a xs∧SqL K H b ys∧xs[i]? = some x∧ys[i]? = some y,
  fun i H x H'=>∃ p u v,H p=none∧H'=upd H p (.tup [u,v])∧x = .ref p∧(∀ xs,SqL K H a xs→xs[i]? = some u)∧∀ ys,SqL K H b ys→ys[i]? = some v,
  fun i H=>∃ xs ys,SqL K H a xs∧SqL K H b ys∧(xs.length ≤ i∨ys.length ≤ i)⟩
theorem wF {h:Heap} {z TI TO i1 i2 l1 l2:Addr} {k1 k2:Nat} {f0 a b:Value} {x y:Value} {xs ys:Array Value} (hz:IsZip h z TI TO f0) (hTI:IsPair h TI x y) (hTO:IsPair h TO a b) (h1:h.IsListIter i1 l1 k1) (h2:h.IsListIter i2 l2 k2) (hl1:h.IsList l1 xs) (hl2:h.IsList l2 ys) (nT:TI ≠ TO) (ni:i1 ≠ i2) :
 ZipApart z TI TO i1 i2 l1 l2:=by
 obtain ⟨o1,e1,c1,d1⟩:=h1
 obtain ⟨o2,e2,c2,d2⟩:=h2
 obtain ⟨p1,g1,k1,m1⟩:=hl1
 obtain ⟨p2,g2,k2,m2⟩:=hl2
 have ne:∀ {u v:Addr} {o o':Obj},h.get? u=some o→h.get? v=some o'→o.cls ≠ o'.cls→u ≠ v:=fun e e' n z=>by
  subst z
  rw [e] at e'
  cases e'
  exact n rfl
 exact ⟨ne hTI hz (by simp),ne hTO hz (by simp),ne e1 hz (by rw [c1];simp),ne e2 hz (by rw [c2];simp),nT,ne hTI e1 (by rw [c1];simp),ne hTI e2 (by rw [c2];simp),ne hTO e1 (by rw [c1];simp),ne hTO e2 (by rw [c2];simp),ni,
  ne g1 hz (by rw [k1];simp),ne g1 hTO (by rw [k1];simp),ne g1 e1 (by rw [k1,c1];simp),ne g1 e2 (by rw [k1,c2];simp),ne g2 hz (by rw [k2];simp),ne g2 hTO (by rw [k2];simp),ne g2 e1 (by rw [k2,c1];simp),ne g2 e2 (by rw [k2,c2];simp)⟩
theorem G4 {P:Program} {w:World} {K:PySem.W.Frag} {elts:List Expr} {x1} {tpos:Pos} (a b z TI TO i1 i2:Addr) (nT:TI ≠ TO) (ni:i1 ≠ i2) :
 Turn P w K (.Tuple elts x1 tpos) (Itz K a b) [z,TI,TO,i1,i2] z (fun i h=>IsZip h z TI TO .none∧IsPair h TI (.ref i1) (.ref i2)∧(∃ u v,IsPair h TO u v)∧h.IsListIter i1 a i∧h.IsListIter i2 b i) where
 mem:=by simp
 obj:=fun i h st c hc=>by
  obtain ⟨hz,hTI,⟨u,v,hTO⟩,⟨o1,e1,c1,d1⟩,⟨o2,e2,c2,d2⟩⟩:=st
  simp only [aZ,aU,mG,or_false] at hc
  rcases hc with rfl | rfl | rfl | rfl | rfl
  ·exact ⟨_,hz,fun v z=>by cases z⟩
  ·exact ⟨_,hTI,fun v z=>by cases z⟩
  ·exact ⟨_,hTO,fun v z=>by cases z⟩
  ·exact ⟨o1,e1,fun v z=>by rw [d1] at z;cases z⟩
  ·exact ⟨o2,e2,fun v z=>by rw [d2] at z;cases z⟩
 keep:=fun i h h' st k=>by
  obtain ⟨hz,hTI,⟨u,v,hTO⟩,h1,h2⟩:=st
  exact ⟨k _ (by simp) _ hz,k _ (by simp) _ hTI,⟨u,v,k _ (by simp) _ hTO⟩,h1.at fun o e=>k i1 (by simp) o e,h2.at fun o e=>k i2 (by simp) o e⟩
 item:=by
  intro X hP hw hK hc i pins s σ H E I hf st hg
  subst hP hw hK
  obtain ⟨xs,ys,x,y,hqa,hqb,hx,hy⟩:=hg
  obtain ⟨itsa,rva,pa,hza⟩:=I.list hqa
  obtain ⟨itsb,rvb,pb,hzb⟩:=I.list hqb
  obtain ⟨ua,hua,rua⟩:=rva.get hx
  obtain ⟨ub,hub,rub⟩:=rvb.get hy
  obtain ⟨hz,hTI,⟨u,v,hTO⟩,h1,h2⟩:=st
  have D:=wF hz hTI hTO h1 h2 pa.isList pb.isList nT ni
  have lts:∀ c ∈ [z,TI,TO,i1,i2],c < s.heap.objs.size:=fun c hc=>by
   simp only [aZ,aU,mG,or_false] at hc
   rcases hc with rfl | rfl | rfl | rfl | rfl
   ·exact Heap.lt_size hz
   ·exact Heap.lt_size hTI
   ·exact Heap.lt_size hTO
   ·obtain ⟨o,e,_⟩:=h1;exact Heap.lt_size e
   ·obtain ⟨o,e,_⟩:=h2;exact Heap.lt_size e
  refine wpAny_pyNext_zip_item D hz hTI hTO h1 h2 pa.isList pb.isList (x:=ua) (y:=ub) (by simpa using hua) (by simpa using hub) fun hh g1 g2 g3 g4 g5 g6 g7=>?_
  refine ⟨_,rfl,wpAny_letOwnedTupleGo_zip g1 fun hh2 e1 e2=>?_⟩
  replace e2:Heap.SameBut z hh hh2:=e2
  have hn:H s.heap.objs.size=none:=I.hok.fresh (bA _)
  have I0:Inv X pins σ (upd H s.heap.objs.size (.tup [x,y])) { s with heap:=s.heap.push { cls:=.type "tuple", data:=.seq #[ua,ub] } } :=
   I.laid (t':=s.toks) (fun b o e=>Heap.get?_push_of_some _ e) (bA _) ⟨show 2 ≤ sizeLine by decide,[ua,ub],.cons rua (.cons rub .nil),⟨_,Heap.get?_push_size _ rfl,rfl,_,rfl⟩⟩
  have ne:∀ c,c ∈ [z,TI,TO,i1,i2]→c ≠ s.heap.objs.size:=fun c hc=>bR (lts c hc)
  have I1:Inv X pins σ (upd H s.heap.objs.size (.tup [x,y])) { s with heap:=hh2,toks:=s.toks }:=by
   refine Inv.turnedL (s:={ s with heap:=s.heap.push { cls:=.type "tuple", data:=.seq #[ua,ub] } }) (ch:=[z,TI,TO,i1,i2]) I0 (fun c o hc e=>?_) fun c hc=>⟨by rw [dZ (ne c hc)];exact (hf c hc).1,(hf c hc).2⟩
   have b1:c ≠ z:=fun q=>hc (by simp [q])
   have b2:c ≠ TO:=fun q=>hc (by simp [q])
   have b3:c ≠ i1:=fun q=>hc (by simp [q])
   have b4:c ≠ i2:=fun q=>hc (by simp [q])
   rcases Heap.get?_push_cases e with ⟨e3,e4⟩ | e3
   ·subst e3 e4
    exact (e2.2 _ b1).trans g5
   ·exact (e2.2 _ b1).trans (g7 c o b1 b2 b3 b4 e3)
  refine ⟨.ref s.heap.objs.size,_,I1,rfl,⟨_,x,y,hn,rfl,rfl,fun zs hz'=>by rw [I.list_inj hz' hqa];exact hx,fun zs hz'=>by rw [I.list_inj hz' hqb];exact hy⟩,⟨e1,(e2.2 _ D.TIz).trans (g7 _ _ D.TIz D.TITO D.TIi1 D.TIi2 hTI),⟨_,_,(e2.2 _ D.TOz).trans g2⟩,g3.at fun o e=>(e2.2 _ D.i1z).trans e,g4.at fun o e=>(e2.2 _ D.i2z).trans e⟩,fun c hc=>?_⟩
  rw [dZ (ne c hc)]
  exact (hf c hc).1
 done:=by
  intro X hP hw hK hc i pins s σ H E I hf st hg
  subst hP hw hK
  obtain ⟨xs,ys,hqa,hqb,hx⟩:=hg
  obtain ⟨itsa,rva,pa,hza⟩:=I.list hqa
  obtain ⟨itsb,rvb,pb,hzb⟩:=I.list hqb
  obtain ⟨hz,hTI,⟨u,v,hTO⟩,h1,h2⟩:=st
  have D:=wF hz hTI hTO h1 h2 pa.isList pb.isList nT ni
  have la:=rva.length
  have lb:=rvb.length
  refine wpAny_pyNext_zip_end (I.ok.hd hc) D hz hTI hTO h1 h2 pa.isList pb.isList ?_ fun h' eb=>⟨rfl,Inv.turnedL (t':=s.toks) (ch:=[z,TI,TO,i1,i2]) I (fun c o hc e=>eb c o (fun q=>hc (by simp [q])) (fun q=>hc (by simp [q])) (fun q=>hc (by simp [q])) (fun q=>hc (by simp [q])) e) hf⟩
  rcases hx with hx | hx
  ·exact .inl (by simp;omega)
  ·exact .inr (by simp;omega)
 self:=fun _ _ _ _ _ st h=>wpAny_pyIter_zip st.1 h
section
variable {X:Cx} {fl:List Fl} {a b:Expr} {f g:FE} {pos:Pos}
def U6 (K:PySem.W.Frag) (ta tb:TE):TI:=fun σ H R=>ta σ H fun x H1=>tb σ H1 fun y H2=>∃ p q,x = .ref p∧y = .ref q∧(∃ xs,SqL K H2 p xs)∧(∃ ys,SqL K H2 q ys)∧R (Itz K p q) H2
theorem boot_zip:bootBuiltins "zip" = some (.type "zip"):=by decide +kernel
theorem Oz {elts:List Expr} {x1} {tpos p:Pos} {ta tb:TE} (hg:Gl X "zip") (hm:X.mg "zip" = none) (ha:PE X a ta) (hb:PE X b tb) (he:starEach [a,b] X.env=(false,eval a X.env) :: starEach [b] X.env:=by rfl) (he2:starEach [b] X.env=(false,eval b X.env) :: starEach [] X.env:=by rfl)
 (hpl:(backTo pos (starEach [b] X.env)).any (·.1)=false:=by rfl):PI X (.Tuple elts x1 tpos) (.Call (.Name "zip" p) [a,b] [] pos) (U6 X.K ta tb):=by
 intro pins s σ H R I h
 refine wpAny_Call_Name_kw (m7 I hg hm boot_zip (PyProof.Rows.callWith_type1 (thn ((eV ha (eV hb jo he2) he) pos pins s σ H (fun vs H1=>match vs with | [x,y]=>∃ p q,x = .ref p∧y = .ref q∧(∃ xs,SqL X.K H1 p xs)∧(∃ ys,SqL X.K H1 q ys)∧R (Itz X.K p q) H1 | _=>False) I h) fun us s1 ⟨vs,H1,I1,r1,q1⟩=>?_) he hpl))
 cases r1 with
 | nil=>exact q1.elim
 | cons r rr =>
  cases rr with
  | nil=>exact q1.elim
  | cons r' rr' =>
  cases rr' with
  | cons _ _=>exact q1.elim
  | nil =>
  obtain ⟨l,m,e,e',⟨xs,hq⟩,⟨ys,hq'⟩,q⟩:=q1
  subst e e'
  cases r
  cases r'
  obtain ⟨its,rv,pl,hz⟩:=I1.list hq
  obtain ⟨its',rv',pl',hz'⟩:=I1.list hq'
  refine call_zip_2 pl.isList pl'.isList fun h' g1 g2 g3 g4 g5 g6 hk=>?_
  have I2:Inv X pins σ H1 { s1 with heap:=h' }:=I1.kept (t':=s1.toks) hk
  refine wpAny_pyIter_zip (s:={ s1 with heap:=h' }) g1 ?_
  refine ⟨s1.heap.objs.size + 4,[s1.heap.objs.size + 4,s1.heap.objs.size + 2,s1.heap.objs.size + 3,s1.heap.objs.size,s1.heap.objs.size + 1],_,_,H1,rfl,I2,G4 l m (s1.heap.objs.size + 4) (s1.heap.objs.size + 2) (s1.heap.objs.size + 3) s1.heap.objs.size (s1.heap.objs.size + 1) (bR (jP _)) (bR (jP _)),⟨g1,g2,⟨_,_,g3⟩,g4,g5⟩,fun b hb=>?_,q⟩
  have hb':s1.heap.objs.size ≤ b:=by
   simp only [aZ,aU,mG,or_false] at hb
   rcases hb with rfl | rfl | rfl | rfl | rfl <;> omega
  exact I1.fpOk hb' (I1.hok.fresh hb')
theorem yZ:∀ (l m:List D) (i:Nat),(rG l m)[i]? = (l[i]?).bind fun x=>(m[i]?).map fun y=>PyData.tuple [x,y]
 | [],_,i=>by simp [rG]
 | _ :: _,[],i=>by cases i <;> simp [rG]
 | x :: l,y :: m,0=>by simp [rG]
 | x :: l,y :: m,i + 1=>by simp [rG,yZ l m i]
theorem zc:∀ (l m:List D),(rG l m).length=min l.length m.length
 | [],_=>by simp [rG]
 | _ :: _,[]=>by simp [rG]
 | x :: l,y :: m=>by simp [rG,zc l m]
theorem RsB.same {K:PySem.W.Frag} {G:Gh} {ow:Ow} {Hb H H':Hp} {L:List Nat} {v:V} {d:D} (e:Same H H') (h:Rs K G.H0 ow Hb H (.B L) v d):Rs K G.H0 ow Hb H' (.B L) v d:=by
 rcases h with h | ⟨i,hi,a,xs,ds,h1,h2,h3,h4,h5⟩
 ·exact .inl (RA.same e h)
 ·exact .inr ⟨i,hi,a,xs,ds,h1,h2,h3,e _ _ h4,h5.same e⟩
theorem OD {elts:List Expr} {x1} {tpos p:Pos} {L1 L2 L:List Nat} (ha:DE X fl (.B L1) a f) (hb:DE X fl (.B L2) b g) (hg:Gl X "zip") (hm:X.mg "zip" = none) (hL:L=L1++L2:=by rfl)
 (he:starEach [a,b] X.env=(false,eval a X.env) :: starEach [b] X.env:=by rfl) (he2:starEach [b] X.env=(false,eval b X.env) :: starEach [] X.env:=by rfl)
 (hpl:(backTo pos (starEach [b] X.env)).any (·.1)=false:=by rfl):DI X fl L (.Tuple elts x1 tpos) (.Call (.Name "zip" p) [a,b] [] pos) (J8 f g):=PI.imp (Oz hg hm ha hb he he2 hpl) fun σ H R' h=>by
 subst hL
 obtain ⟨G,ow,δ,l,R,hf,q⟩:=h
 obtain ⟨d,e1,hf⟩:=bind1 hf
 obtain ⟨d',e2,hf⟩:=bind1 hf
 obtain ⟨l0,rfl⟩:∃ l0,d = .list l0:=by cases d <;> first | exact ⟨_,rfl⟩ | (cases hf;done)
 obtain ⟨m0,rfl⟩:∃ m0,d' = .list m0:=by cases d' <;> first | exact ⟨_,rfl⟩ | (cases hf;done)
 cases hf
 refine ⟨G,ow,δ,_,R,e1,fun v H1 s1 r1=>⟨G,ow,δ,_,R.grow s1,e2,fun v' H2 s2 r2=>?_⟩⟩
 have r1':=RsB.same s2 r1
 obtain ⟨pa,xs,rfl,hx,keepa⟩:=rM ((R.grow s1).grow s2) r1'
 obtain ⟨pb,ys,rfl,hy,keepb⟩:=rM ((R.grow s1).grow s2) r2
 refine ⟨pa,pb,rfl,rfl,⟨xs,hx⟩,⟨ys,hy⟩,q _ _ (s1.trans s2) fun H3 k3 i=>?_⟩
 obtain ⟨a1,a2⟩:=keepa H3 fun b o e z=>k3 b o e fun i w=>bD _ (z i w)
 obtain ⟨b1,b2⟩:=keepb H3 fun b o e z=>k3 b o e fun i w=>aQ _ (z i w)
 refine ⟨fun d hd=>?_,fun hl=>⟨xs,ys,a1,b1,?_⟩⟩
 ·rw [yZ] at hd
  cases ea:l0[i]? with
  | none=>rw [ea] at hd;cases hd
  | some x0 =>
   cases eb:m0[i]? with
   | none=>rw [ea,eb] at hd;cases hd
   | some y0 =>
    rw [ea,eb] at hd
    cases hd
    obtain ⟨x,hx1,rx⟩:=a2.get ea
    obtain ⟨y,hy1,ry⟩:=b2.get eb
    refine ⟨⟨xs,ys,x,y,a1,b1,hx1,hy1⟩,fun z H4 hyl=>?_⟩
    obtain ⟨p',u,v,hp,rfl,rfl,hu,hv⟩:=hyl
    have eu:some x=some u:=hx1.symm.trans (hu xs a1)
    have ev:some y=some v:=hy1.symm.trans (hv ys b1)
    cases eu
    cases ev
    have gg:=gn hp (.tup [x,y])
    exact ⟨gg,.tup gk (.cons (rx.same gg) (.cons (ry.same gg) .nil))⟩
 ·rw [zc] at hl
  rw [a2.length,b2.length]
  omega
end
end D3
namespace D3
open PySem PySem.Spec PyProof.Rows L2 My
section
variable {X:Cx} {fl:List Fl} {e a b c:Expr} {es rest:List Expr} {k:Kd} {f fa fb fc:FE} {ft gt:FT} {pos:Pos}
end
section
variable {K:PySem.W.Frag} {fl:List Fl}
end
section
variable {K:PySem.W.Frag} {H:Hp}
end
section
variable {X:Cx} {fl:List Fl} {e ke:Expr} {f fk:FE} {pos:Pos}
end
end D3
namespace D3
open PySem
def qM (g:List D→Option (List D)) (i:Nat) (x:Option D) (δ:DS):Option Oc:=match x with
 | some (.list l)=>match g l with
  | some m=>some (.nx (δ.set i (some (.d (.list m)))))
  | none=>none
 | _=>none
def U7 (j:Int) (l:List D):Option (List D):=if l.length ≤ 1000000 then (pIx l.length j).map fun n=>l.eraseIdx n else none
def qPo (i:Nat) (k x:Option D) (δ:DS):Option Oc:=match k with
 | some (.int j)=>qM (U7 j) i x δ
 | _=>none
def rP:List D→Option D
 | [.int hi]=>if (-(2 ^ 62) ≤ hi∧hi < 2 ^ 62)∧(hi - 0).toNat ≤ 1000000 then some (.list (gB 0 hi)) else none
 | _=>none
theorem Kv {hi:Int} (h:0 ≤ hi) (h':hi ≤ 1000000):rP [.int hi]=some (.list (gB 0 hi)):=by
 show (if (-(2 ^ 62) ≤ hi∧hi < 2 ^ 62)∧(hi - 0).toNat ≤ 1000000 then some (PyData.list (gB 0 hi)) else none)=_
 rw [if_pos ⟨⟨by omega,by omega⟩,by omega⟩]
def RX:D→Option (List D)
 | .list l=>some l
 | .tuple l=>some l
 | _=>none
def RZ (f:FE):FA:=fun δ=>(f δ).bind RX
def gIn:D→D→Option D:=fun x y=>match y with
 | .list l=>if (SeqAt.shaped x && SeqAt.shaped (.list l))=true then some (.bool (l.any fun z=>PyData.eqv z x)) else none
 | .tuple l=>if (SeqAt.shaped x && SeqAt.shaped (.tuple l))=true then some (.bool (l.any fun z=>PyData.eqv z x)) else none
 | _=>none
def G5:D→D→Option D:=fun x y=>match y with
 | .list l=>if (SeqAt.shaped x && SeqAt.shaped (.list l))=true then some (.bool (!l.any fun z=>PyData.eqv z x)) else none
 | .tuple l=>if (SeqAt.shaped x && SeqAt.shaped (.tuple l))=true then some (.bool (!l.any fun z=>PyData.eqv z x)) else none
 | _=>none
def qRv (x:Option D):Option (List D):=x.bind fun x=>match x with
 | .list l=>some l.reverse
 | _=>none
theorem U8 {f:FE} {δ:DS}:Om f δ=qRv (f δ):=rfl
theorem OJ {l:List D}:qRv (some (.list l))=some l.reverse:=rfl
def qRL (a:Option D):Option Oc:=match a with
 | some d=>some (.ex "" "" d)
 | none=>none
def uQ (fe:FE):FS:=fun δ=>(fe δ).bind fun d=>some (.ex "" "" d)
theorem xT {fe:FE} {δ:DS}:uQ fe δ=qRL (fe δ):=by
 unfold uQ qRL
 cases fe δ <;> rfl
theorem qy {d:D}:qRL (some d)=some (.ex "" "" d):=rfl
def Kw (o:Option Oc):Option D:=match o with
 | some (.rt d)=>some d
 | some (.ex _ _ d)=>some d
 | some (.nx _)=>some .none
 | _=>none
def fnL (p q:Nat) (b:FS):List D→Option D:=fun ds=>if ds.length=p then Kw (b (ds.map (fun d=>some (.d d))++aG q none)) else none
theorem Cy {p q:Nat} {b:FS} {ds:List D}:fnL p q b ds=if ds.length=p then Kw (b (ds.map (fun d=>some (.d d))++aG q none)) else none:=rfl
theorem qz {c f:Str} {d:D}:Kw (some (.ex c f d))=some d:=rfl
end D3
namespace D3
open PySem PySem.Spec PyProof.Rows L2 My
section
variable {X:Cx}
end
section
variable {X:Cx} {fl:List Fl} {e ke:Expr} {f fk:FE} {pos:Pos}
theorem RAs.erase {K:PySem.W.Frag} {ok:Ok} {pl:Bool} {H:Hp} {v:List V} {d:List D} (n:Nat) (r:RAs K ok pl H v d):RAs K ok pl H (v.eraseIdx n) (d.eraseIdx n):=by
 rw [jM,jM]
 exact (r.take n).append (r.drop (n + 1))
end
section
variable {X:Cx} {fl:List Fl} {a:Expr} {pos p p2 pos2:Pos} {fa:FA}
theorem G6 (h:DB X fl .P [a] fa) (hc:X.calm=true) (hg:Gl X "list") (hm:X.mg "list" = none) (hg2:Gl X "range") (hm2:X.mg "range" = none)
 (hs:starEach [a] X.env=(false,eval a X.env) :: starEach [] X.env:=by exact dD rfl)
 (he2:starEach [.Call (.Name "range" p2) [a] [] pos2] X.env=(false,eval (.Call (.Name "range" p2) [a] [] pos2) X.env) :: starEach [] X.env:=by rfl) (hpl2:(backTo pos (starEach [] X.env)).any (·.1)=false:=by rfl) :
 DE X fl .FC (.Call (.Name "list" p) [.Call (.Name "range" p2) [a] [] pos2] [] pos) (dCall rP fa):=by
 intro pins s σ H Q I hq
 obtain ⟨G,ow,δ,d,R,hf,q⟩:=hq
 obtain ⟨ds,e1,e2⟩:=bind1 hf
 unfold rP at e2
 split at e2
 case h_2=>cases e2
 next hi =>
 by_cases z:(-(2 ^ 62) ≤ hi∧hi < 2 ^ 62)∧(hi - 0).toNat ≤ 1000000
 case neg=>rw [if_neg z] at e2;cases e2
 rw [if_pos z] at e2
 cases e2
 obtain ⟨⟨z3,z4⟩,z5⟩:=z
 refine wpAny_Call_Name_kw (m7 I hg hm boot_list (PyProof.Rows.callWith_type1 ?_ he2 hpl2))
 rw [he2]
 show wpAny _ _ (spliced ((false,eval (.Call (.Name "range" p2) [a] [] pos2) X.env) :: backTo pos (starEach [] X.env))) _ _ s
 refine Calls.spliced_cons ?_
 refine Call_ (m7 I hg2 hm2 boot_range (PyProof.Rows.callWith_type1 (thn (h pos2 pins s σ H (fun vs H1=>Same H H1∧RAs X.K ok1 true H1 vs [.int hi]) I ⟨G,ow,δ,_,R,e1,fun vs H' s' r'=>⟨s',r'⟩⟩) fun us s1 ⟨vs,H1,I1,r1,s01,rv⟩=>?_) hs rfl))
 cases rv with
 | cons ra rb =>
  cases rb
  obtain rfl:=ra.intE
  cases r1 with
  | cons x1 x2 =>
   cases x2
   obtain ⟨t,rfl⟩:=x1
   refine call_range_1 ?_
   refine Calls.spliced_nil ?_
   have hsz:Builtin.Range.rangeSize 0 hi 1=(((hi - 0).toNat:Nat):Int):=by rw [rangeSize_one];split <;> omega
   refine call_list_range (n:=(hi - 0).toNat) (I.ok.hd hc) (IsRange.new ..) (small_one (by decide) (by decide) z3 z4) hsz (by omega) fun h' tk acc' c' hk hS' hacc=>?_
   obtain ⟨a1,a2⟩:=hacc
   have V1:Vals ((lJ 0 acc'.toList.length).map fun (j:Nat)=>V.int (0 + (j:Int))) acc'.toList:=Cv acc'.toList 0 fun j v hj=>by
    obtain ⟨tt,e⟩:=a2 j v (by simpa using hj)
    rw [iz]
    exact ⟨tt,by rw [e,Int.mul_one]⟩
   have al:acc'.toList.length=(hi - 0).toNat:=by simpa using a1
   rw [al] at V1
   have hle:s1.heap.objs.size ≤ (s1.heap.push { cls:=.type "range", data:=.fields #[.int 0 s1.toks,.int hi t,.int 1 (s1.toks + 1)] }).objs.size:=by rw [Heap.size_push];exact n6 _
   have hn:H1 (s1.heap.push { cls:=.type "range", data:=.fields #[.int 0 s1.toks,.int hi t,.int 1 (s1.toks + 1)] }).objs.size=none:=I1.hok.fresh hle
   have I2:=I1.laid (h':=h') (t':=tk) (a:=(s1.heap.push { cls:=.type "range", data:=.fields #[.int 0 s1.toks,.int hi t,.int 1 (s1.toks + 1)] }).objs.size) (o:=.lst ((lJ 0 (hi - 0).toNat).map fun (j:Nat)=>V.int (0 + (j:Int)))) (fun b u e=>hk b u (Heap.get?_push_of_some _ e)) hle
    ⟨by rw [aW,List.length_range'];exact bV z5 (by decide),acc'.toList,c',V1,by simpa using hS'⟩
   refine ⟨.ref (s1.heap.push { cls:=.type "range", data:=.fields #[.int 0 s1.toks,.int hi t,.int 1 (s1.toks + 1)] }).objs.size,_,I2,rfl,q _ _ (s01.trans (gn hn _)) (.inr ⟨_,_,_,rfl,?_,s01.free hn,gk,GR 0 _ 0⟩)⟩
   unfold gB
   rw [List.range_eq_range']
end
end D3
namespace D3
open PySem PySem.Spec PyProof.Rows L2 My
section
variable {X:Cx} {pins:List (Addr × Obj)} {σ:L2.St} {H:Hp} {s:Shared}
end
section
variable {X:Cx} {K:PySem.W.Frag}
end
section
variable {X:Cx} {fl:List Fl} {es:List Expr} {pos:Pos}
end
section
variable {X:Cx} {fl:List Fl} {e:Expr} {f:FE}
theorem R3 {tg l:Expr} {t1 t2:TI} (h1:PI X tg l t1) (h2:PI X tg l t2):PI X tg l (fun σ H R=>t1 σ H R∨t2 σ H R):=fun pins s σ H R I h=>by
 rcases h with h | h
 ·exact h1 pins s σ H R I h
 ·exact h2 pins s σ H R I h
theorem O1 {K:PySem.W.Frag} {G:Gh} {ow:Ow} {σ:St} {H Hb:Hp} {δ:DS} {L:List Nat} {v:V} {l:List D} (R:Rel K fl G ow σ H δ) (r:Rs K G.H0 ow Hb H (.B L) v (.tuple l)):∃ a xs,v = .ref a∧SqT K H a xs ∧
 ∀ H2:Hp,(∀ b o,H b=some o→(∀ i,ow i=some b→i ∈ L)→(∀ i,b ∉ ow.n i)→H2 b=some o)→SqT K H2 a xs∧RAs K (fun b=>okA ow b∧H b ≠ none) true H2 xs l:=by
 rcases r with r | ⟨i,hi,a,xs,ds,ho,rfl,e,hx,hr⟩
 ·cases r with
  | tup e q =>
   refine ⟨_,_,rfl,e.sq,fun H2 hk=>⟨?_,RAs.keep hk R.ownL R.ownC (fun b z=>z.1) q.track⟩⟩
   exact .inl (.inl (hk _ _ e (nm R.ownL e (by intro xs z;cases z)) (nm2 R.ownC e Chg.tup)))
 ·cases e
theorem O2 {tg:Expr} {L:List Nat} (h:DE X fl (.B L) e f):DI X fl L tg e (RZ f):=PI.imp (R3 (Ca h) (N7 h)) fun σ H R' h=>by
 obtain ⟨G,ow,δ,l,R,hf,q⟩:=h
 obtain ⟨d,e1,e2⟩:=bind1 hf
 cases d with
 | list l' =>
  cases e2
  refine .inl ⟨G,ow,δ,_,R,e1,fun v H1 s r=>?_⟩
  obtain ⟨a,xs,rfl,hx,keep⟩:=rM (R.grow s) r
  refine ⟨a,rfl,⟨xs,hx⟩,q _ _ s fun H2 k2 i=>?_⟩
  obtain ⟨k3,k4⟩:=keep H2 k2
  refine ⟨fun d hd=>?_,fun hl=>⟨xs,k3,by rw [k4.length];exact hl⟩⟩
  obtain ⟨y,hy,ry⟩:=k4.get hd
  refine ⟨⟨xs,y,k3,hy⟩,fun x H3 hyl=>?_⟩
  obtain ⟨e,hz⟩:=hyl
  subst e
  have:some y=some x:=hy.symm.trans (hz xs k3)
  cases this
  exact ⟨Same.refl _,ry⟩
 | tuple l' =>
  cases e2
  refine .inr ⟨G,ow,δ,_,R,e1,fun v H1 s r=>?_⟩
  obtain ⟨a,xs,rfl,hx,keep⟩:=O1 (R.grow s) r
  refine ⟨a,rfl,⟨xs,hx⟩,q _ _ s fun H2 k2 i=>?_⟩
  obtain ⟨k3,k4⟩:=keep H2 k2
  refine ⟨fun d hd=>?_,fun hl=>⟨xs,k3,by rw [k4.length];exact hl⟩⟩
  obtain ⟨y,hy,ry⟩:=k4.get hd
  refine ⟨⟨xs,y,k3,hy⟩,fun x H3 hyl=>?_⟩
  obtain ⟨e,hz⟩:=hyl
  subst e
  have:some y=some x:=hy.symm.trans (hz xs k3)
  cases this
  exact ⟨Same.refl _,ry⟩
 | none=>cases e2
 | bool _=>cases e2
 | int _=>cases e2
 | str _=>cases e2
 | dict _=>cases e2
end
section
variable {X:Cx} {fl:List Fl} {a:Expr} {f:FE} {pos p:Pos}
end
section
variable {X:Cx} {fl:List Fl} {a b:Expr} {fa fb:FE} {pos:Pos}
end
end D3
namespace D3
open PySem PySem.Spec PyProof.Rows L2 My
section
variable {X:Cx} {K:PySem.W.Frag}
def R5 (K:PySem.W.Frag):R2:=fun x y H Q=>∃ da l,RdV K H x da∧((RdV K H y (.list l)∧SeqAt.shaped (.list l)=true)∨(RdV K H y (.tuple l)∧SeqAt.shaped (.tuple l)=true))∧SeqAt.shaped da=true∧Q (.bl (l.any fun z=>PyData.eqv z da)) H
def Cz (K:PySem.W.Frag):R2:=fun x y H Q=>∃ da l,RdV K H x da∧((RdV K H y (.list l)∧SeqAt.shaped (.list l)=true)∨(RdV K H y (.tuple l)∧SeqAt.shaped (.tuple l)=true))∧SeqAt.shaped da=true∧Q (.bl (!l.any fun z=>PyData.eqv z da)) H
theorem tW {A:Around} {l:List D} {d:D} (hu:A.units + 64 < cLine) (h:PyData.depthAll l + 1 ≤ 64):A.units + 1 + min (PyData.depthAll l) d.depth < cLine:=by
 have:=Nat.min_le_left (PyData.depthAll l) d.depth
 omega
theorem lU {l:List D} (h:SeqAt.shaped (.list l)=true):PyData.canLayAll0 l=true∧PyData.depthAll l + 1 ≤ 64:=by
 unfold SeqAt.shaped at h
 rw [bw] at h
 refine ⟨by simpa [PyData.canLay0] using h.1,?_⟩
 have:=of_decide_eq_true h.2
 simpa [PyData.depth] using this
theorem kE {l:List D} (h:SeqAt.shaped (.tuple l)=true):PyData.canLayAll0 l=true∧PyData.depthAll l + 1 ≤ 64:=by
 unfold SeqAt.shaped at h
 rw [bw] at h
 refine ⟨by simpa [PyData.canLay0] using h.1,?_⟩
 have:=of_decide_eq_true h.2
 simpa [PyData.depth] using this
theorem uR (hu:X.A.units + 64 < cLine):OpR X (compareOp .In) (R5 X.K):=by
 intro pins s σ H x y v u Q I rx ry h
 obtain ⟨da,l,ha,hb,sa,q⟩:=h
 obtain ⟨as,za⟩:=ha.reads I rx
 rcases hb with ⟨hb,sb⟩ | ⟨hb,sb⟩
 ·obtain ⟨bs,zb⟩:=hb.reads I ry
  exact SeqAt.in_list_reads zb za (lU sb).1 (SeqAt.canLay_of_shaped sa) (tW hu (lU sb).2) ⟨.bl _,H,I,rfl,q⟩
 ·obtain ⟨bs,zb⟩:=hb.reads I ry
  exact SeqAt.in_tuple_reads zb za (kE sb).1 (SeqAt.canLay_of_shaped sa) (tW hu (kE sb).2) ⟨.bl _,H,I,rfl,q⟩
theorem Eb (hu:X.A.units + 64 < cLine):OpR X (compareOp .NotIn) (Cz X.K):=by
 intro pins s σ H x y v u Q I rx ry h
 obtain ⟨da,l,ha,hb,sa,q⟩:=h
 obtain ⟨as,za⟩:=ha.reads I rx
 rcases hb with ⟨hb,sb⟩ | ⟨hb,sb⟩
 ·obtain ⟨bs,zb⟩:=hb.reads I ry
  exact SeqAt.notIn_list_reads zb za (lU sb).1 (SeqAt.canLay_of_shaped sa) (tW hu (lU sb).2) ⟨.bl _,H,I,rfl,q⟩
 ·obtain ⟨bs,zb⟩:=hb.reads I ry
  exact SeqAt.notIn_tuple_reads zb za (kE sb).1 (SeqAt.canLay_of_shaped sa) (tW hu (kE sb).2) ⟨.bl _,H,I,rfl,q⟩
theorem G7:BrO K (R5 K) gIn:=by
 intro H x y dx dy d Q rx ry e q
 cases dy with
 | list l =>
  by_cases z:(SeqAt.shaped dx && SeqAt.shaped (.list l))=true
  ·have e:(if (SeqAt.shaped dx && SeqAt.shaped (.list l))=true then some (PyData.bool (l.any fun z=>PyData.eqv z dx)) else none)=some d:=e
   rw [if_pos z] at e
   cases e
   rw [bw] at z
   exact ⟨dx,l,rx.rd (SeqAt.canLay_of_shaped z.1),.inl ⟨ry.rd (SeqAt.canLay_of_shaped z.2),z.2⟩,z.1,q _ rfl (.bl _)⟩
  ·have e:(if (SeqAt.shaped dx && SeqAt.shaped (.list l))=true then some (PyData.bool (l.any fun z=>PyData.eqv z dx)) else none)=some d:=e
   rw [if_neg z] at e
   cases e
 | tuple l =>
  by_cases z:(SeqAt.shaped dx && SeqAt.shaped (.tuple l))=true
  ·have e:(if (SeqAt.shaped dx && SeqAt.shaped (.tuple l))=true then some (PyData.bool (l.any fun z=>PyData.eqv z dx)) else none)=some d:=e
   rw [if_pos z] at e
   cases e
   rw [bw] at z
   exact ⟨dx,l,rx.rd (SeqAt.canLay_of_shaped z.1),.inr ⟨ry.rd (SeqAt.canLay_of_shaped z.2),z.2⟩,z.1,q _ rfl (.bl _)⟩
  ·have e:(if (SeqAt.shaped dx && SeqAt.shaped (.tuple l))=true then some (PyData.bool (l.any fun z=>PyData.eqv z dx)) else none)=some d:=e
   rw [if_neg z] at e
   cases e
 | _=>cases e
theorem Ky:BrO K (Cz K) G5:=by
 intro H x y dx dy d Q rx ry e q
 cases dy with
 | list l =>
  by_cases z:(SeqAt.shaped dx && SeqAt.shaped (.list l))=true
  ·have e:(if (SeqAt.shaped dx && SeqAt.shaped (.list l))=true then some (PyData.bool (!l.any fun z=>PyData.eqv z dx)) else none)=some d:=e
   rw [if_pos z] at e
   cases e
   rw [bw] at z
   exact ⟨dx,l,rx.rd (SeqAt.canLay_of_shaped z.1),.inl ⟨ry.rd (SeqAt.canLay_of_shaped z.2),z.2⟩,z.1,q _ rfl (.bl _)⟩
  ·have e:(if (SeqAt.shaped dx && SeqAt.shaped (.list l))=true then some (PyData.bool (!l.any fun z=>PyData.eqv z dx)) else none)=some d:=e
   rw [if_neg z] at e
   cases e
 | tuple l =>
  by_cases z:(SeqAt.shaped dx && SeqAt.shaped (.tuple l))=true
  ·have e:(if (SeqAt.shaped dx && SeqAt.shaped (.tuple l))=true then some (PyData.bool (!l.any fun z=>PyData.eqv z dx)) else none)=some d:=e
   rw [if_pos z] at e
   cases e
   rw [bw] at z
   exact ⟨dx,l,rx.rd (SeqAt.canLay_of_shaped z.1),.inr ⟨ry.rd (SeqAt.canLay_of_shaped z.2),z.2⟩,z.1,q _ rfl (.bl _)⟩
  ·have e:(if (SeqAt.shaped dx && SeqAt.shaped (.tuple l))=true then some (PyData.bool (!l.any fun z=>PyData.eqv z dx)) else none)=some d:=e
   rw [if_neg z] at e
   cases e
 | _=>cases e
end
def Itv (K:PySem.W.Frag) (a:Addr) (n:Nat):It :=
 ⟨fun i H=>i < n∧∃ xs x,SqL K H a xs∧xs.length=n∧xs[n - 1 - i]? = some x,fun i H x H'=>H'=H∧∀ xs,SqL K H a xs→xs[n - 1 - i]? = some x,fun i _=>n ≤ i⟩
theorem G8 {P:Program} {w:World} {K:PySem.W.Frag} {tg:Expr} (a it:Addr) (n:Nat):Turn P w K tg (Itv K a n) [it] it (fun i h=>i ≤ n∧h.IsRevIter it a ((n:Int) - 1 - (i:Int))) where
 mem:=by simp
 obj:=fun i h st b hb=>by
  have e:b=it:=by simpa using hb
  subst e
  obtain ⟨_,o,e,c,d⟩:=st
  exact ⟨o,e,fun v z=>by rw [d] at z;cases z⟩
 keep:=fun i h h' st k=>⟨st.1,st.2.at fun o e=>k it (by simp) o e⟩
 item:=by
  intro X hP hw hK hc i pins s σ H E I hf st hg
  subst hP hw hK
  obtain ⟨hi,xs,x,hq,hn,hx⟩:=hg
  obtain ⟨its,rv,p,hz⟩:=I.list hq
  obtain ⟨u,hu,ru⟩:=rv.get hx
  obtain ⟨f0,f1,f2,f3,f4,f5⟩:=hf it (by simp)
  have st2:=st.2
  rw [show (n:Int) - 1 - (i:Int)=((n - 1 - i:Nat):Int) by omega] at st2
  refine wpAny_pyNext_rev_item st2 p.isList (x:=u) (by simpa using hu) fun h' st' sb=>?_
  rw [show ((n - 1 - i:Nat):Int) - 1=(n:Int) - 1 - ((i + 1:Nat):Int) by omega] at st'
  have I1:Inv X pins σ H { s with heap:=h' }:=I.turned (t':=s.toks) (fun b o hb e=>(sb.2 b hb).trans e) f0 f1 f3 f4 f5
  obtain ⟨o,e,c,d⟩:=id st'
  exact ⟨u,rfl,B_ (s:={ s with heap:=h' }) e c d (by decide) ⟨x,H,I1,ru,⟨rfl,fun ys hy=>by rw [I.list_inj hy hq];exact hx⟩,⟨by omega,st'⟩,fun b hb=>(hf b hb).1⟩⟩
 done:=by
  intro X hP hw hK hc i pins s σ H E I hf st hg
  subst hP hw hK
  obtain ⟨f0,f1,f2,f3,f4,f5⟩:=hf it (by simp)
  have hg:n ≤ i:=hg
  have st2:=st.2
  have st1:=st.1
  rw [show (n:Int) - 1 - (i:Int) = -1 by omega] at st2
  exact wpAny_pyNext_rev_end (I.ok.hd hc) st2 fun h' eb=>⟨rfl,I.turned (t':=s.toks) (fun b o hb e=>eb b o hb e) f0 f1 f3 f4 f5⟩
 self:=fun _ _ _ _ _ st h=>wpAny_pyIter_revIter st.2 h
section
variable {X:Cx} {fl:List Fl} {a:Expr} {f:FE} {pos:Pos}
def U9 (K:PySem.W.Frag) (ta:TE):TI:=fun σ H R=>ta σ H fun x H1=>∃ p xs,x = .ref p∧SqL K H1 p xs∧R (Itv K p xs.length) H1
theorem O3 {tg:Expr} {p:Pos} {ta:TE} (hg:Gl X "reversed") (hm:X.mg "reversed" = none) (ha:PE X a ta) (he:starEach [a] X.env=(false,eval a X.env) :: starEach [] X.env:=by rfl)
 (hpl:(backTo pos (starEach [] X.env)).any (·.1)=false:=by rfl):PI X tg (.Call (.Name "reversed" p) [a] [] pos) (U9 X.K ta):=by
 intro pins s σ H R I h
 refine wpAny_Call_Name_kw (m7 I hg hm boot_reversed (PyProof.Rows.callWith_type1 (thn ((eV ha jo he) pos pins s σ H (fun vs H1=>match vs with | [x]=>∃ p xs,x = .ref p∧SqL X.K H1 p xs∧R (Itv X.K p xs.length) H1 | _=>False) I h) fun us s1 ⟨vs,H1,I1,r1,q1⟩=>?_) he hpl))
 cases r1 with
 | nil=>exact q1.elim
 | cons r rr =>
  cases rr with
  | cons _ _=>exact q1.elim
  | nil =>
  obtain ⟨l,xs,e,hq,q⟩:=q1
  subst e
  cases r
  obtain ⟨its,rv,pl,hz⟩:=I1.list hq
  have hl:=rv.length
  refine call_reversed_list pl.isList ?_
  have I2:Inv X pins σ H1 { s1 with heap:=s1.heap.push (revObj l ((its.toArray.size:Int) - 1)) }:=I1.kept (t':=s1.toks) fun b o e=>Heap.get?_push_of_some _ e
  have it0:(s1.heap.push (revObj l ((its.toArray.size:Int) - 1))).IsRevIter s1.heap.objs.size l ((its.toArray.size:Int) - 1):=⟨_,Heap.get?_push_size _ rfl,rfl,rfl⟩
  refine wpAny_pyIter_revIter (s:={ s1 with heap:=s1.heap.push (revObj l ((its.toArray.size:Int) - 1)) }) it0 ?_
  have it1:=it0
  rw [show (its.toArray.size:Int) - 1=(xs.length:Int) - 1 - ((0:Nat):Int) by rw [bB];omega] at it1
  refine ⟨s1.heap.objs.size,[s1.heap.objs.size],_,_,H1,rfl,I2,G8 l s1.heap.objs.size xs.length,⟨eZ _,by rw [show (xs.length:Int) - 1 - ((0:Nat):Int)=(its.toArray.size:Int) - 1 by rw [bB];omega];exact it0⟩,fun b hb=>?_,q⟩
  have e:b=s1.heap.objs.size:=by simpa using hb
  subst e
  exact I1.fpOk (bA _) (I1.hok.fresh (bA _))
theorem O4 {tg:Expr} {p:Pos} {L:List Nat} (h:DE X fl (.B L) a f) (hg:Gl X "reversed") (hm:X.mg "reversed" = none) (he:starEach [a] X.env=(false,eval a X.env) :: starEach [] X.env:=by rfl)
 (hpl:(backTo pos (starEach [] X.env)).any (·.1)=false:=by rfl):DI X fl L tg (.Call (.Name "reversed" p) [a] [] pos) (Om f):=PI.imp (O3 hg hm h he hpl) fun σ H R' h=>by
 obtain ⟨G,ow,δ,l,R,hf,q⟩:=h
 obtain ⟨d,e1,e2⟩:=bind1 hf
 obtain ⟨l0,rfl⟩:∃ l0,d = .list l0:=by cases d <;> first | exact ⟨_,rfl⟩ | (cases e2;done)
 cases e2
 refine ⟨G,ow,δ,_,R,e1,fun v H1 s r=>?_⟩
 obtain ⟨a,xs,rfl,hx,keep⟩:=rM (R.grow s) r
 refine ⟨a,xs,rfl,hx,q _ _ s fun H2 k2 i=>?_⟩
 obtain ⟨k3,k4⟩:=keep H2 k2
 have kl:=k4.length
 refine ⟨fun d hd=>?_,fun hl=>by rw [gR] at hl;show xs.length ≤ i;omega⟩
 have hi:i < l0.length:=by
  have:=(eN.mp hd).1
  rwa [gR] at this
 rw [List.getElem?_reverse hi] at hd
 obtain ⟨y,hy,ry⟩:=k4.get hd
 rw [← kl] at hy
 refine ⟨⟨by omega,xs,y,k3,rfl,hy⟩,fun x H3 hyl=>?_⟩
 obtain ⟨e,hz⟩:=hyl
 subst e
 have:some y=some x:=hy.symm.trans (hz xs k3)
 cases this
 exact ⟨Same.refl _,ry⟩
end
def spL (K:PySem.W.Frag) (F:List D→Option D):Sp:=fun vs H Q _=>∃ ds d,(Tb H∧RAs K ok1 true H vs ds)∧F ds=some d∧∀ v H',Same H H'→RA K ok1 true H' v d→Q v H'
section
variable {X:Cx} {fl:List Fl} {e:Expr} {es:List Expr} {f:FE} {pos p:Pos} {x:Str} {n:Nat} {F:List D→Option D} {fa:FA}
theorem xU (h:DE X fl .P e f):DS1 X fl (.Return (some e) pos) (uQ f):=PS.imp (z9 h) fun Dn σ H h=>by
 obtain ⟨G,ow,δ,o,R,hf,q⟩:=h
 obtain ⟨d,e1,e2⟩:=bind1 hf
 cases e2
 exact ⟨G,ow,δ,d,R,e1,fun v H' s r=>q v H' (R.same0.trans s) r⟩
theorem U_ (hA:(fl.all fun x=>decide (x = .A))=true) (h:DE X fl .P e f):DE X fl .A e f:=lQ h fun Hb H G ow σ δ v d R r=>by
 have hA':∀ (i:Nat) (c:Fl),fl[i]? = some c→c=Fl.A:=fun i c e=>by simpa using jg.mp hA c (eY e)
 have ok:∀ a,okA ow a:=fun a=>by
  constructor
  ·intro i z
   rcases (R.own i a z).2.1 with ⟨w,_⟩ | ⟨w,_⟩
   ·cases hA' i _ w
   ·cases hA' i _ w
  ·intro i z
   rcases (R.nt i a z).2.2 with ⟨w,_⟩ | w
   ·cases hA' i _ w
   ·cases hA' i _ w
 exact RA.imp (fun a _=>ok a) (fun z=>z) r
theorem G9 {ps:List Str} (h:Has X.prog X.w X.K X.mg X.base n x ps (spL X.K F)) (hr:Room n X.A) (ha:DB X fl .P (e :: es) fa) (hg:Gl X x:=by rfl) (hdb:(x == ("__debug__" : Str))=false:=by decide)
 (he:starEach (e :: es) X.env=(false,eval e X.env) :: starEach es X.env:=by exact dD rfl) (hpl:(backTo pos (starEach es X.env)).any (·.1)=false:=by exact nO rfl) :
 DE X fl .P (.Call (.Name x p) (e :: es) [] pos) (dCall F fa):=PE.imp (yO h hr ha hg hdb he hpl) fun σ H Q h=>by
 obtain ⟨G,ow,δ,d,R,hf,q⟩:=h
 obtain ⟨ds,e1,e2⟩:=bind1 hf
 refine ⟨G,ow,δ,ds,R,e1,fun vs H' s r=>?_⟩
 show spL X.K F (vs++[]) H' Q E0
 rw [dR]
 exact ⟨ds,d,⟨R.tb.same s,r⟩,e2,fun v H2 s2 r2=>q v H2 (s.trans s2) r2⟩
end
section
variable {P:Program} {w:World} {K:PySem.W.Frag} {mg:Str→Option Value} {base:Heap} {x:Str} {ps N:List Str} {st:Stmt} {k n:Nat} {fs:FS} {fl:List Fl}
theorem Kz {f:Addr} {fd:FuncData} (Fn:FunD K x st f fd) (S:FnScope N ps (aO st)) (hp:∀ i,i < ps.length→fl[i]? = some .A) (hN:ps.length ≤ N.length)
 (hbody:∀ (f:Addr) (cdv:Value) (A:Around) (outer:List Env) (s:Shared) (H:Hp) (E:XK),Room k (A.deeper (envOfC x (aO st) s.heap.objs.size f cdv))→DSs (cx P w K mg base N x st f cdv A outer s H E) fl (gG st) fs) :
 FnOk P w K mg base CX0 (k + 1) f fd ps (spL K (fnL ps.length (N.length - ps.length) fs)):=by
 refine Fn.ok S (fun vs H Q E h=>?_) (fun cdv A outer s H vs Q E hr h=>?_)
 ·obtain ⟨ds,d,r,hf,_⟩:=h
  unfold fnL at hf
  by_cases z:ds.length=ps.length
  ·rw [r.2.length];exact z
  ·rw [if_neg z] at hf;cases hf
 ·obtain ⟨ds,d,r,hf,q⟩:=h
  refine ⟨_,hbody f cdv A outer s H E hr,?_⟩
  unfold fnL Kw at hf
  by_cases z:ds.length=ps.length
  ·rw [if_pos z] at hf
   split at hf
   ·next d' e =>
    cases hf
    exact ⟨_,_,_,_,gY ps.length hp z hN r,e,fun v H' s r=>q v H' s (RA.imp (fun _ _=>trivial) (fun _=>rfl) r)⟩
   ·next c' f' d' e =>
    cases hf
    exact ⟨_,_,_,_,gY ps.length hp z hN r,e,fun v H' s r=>q v H' s r⟩
   ·next δ' e =>
    cases hf
    exact ⟨_,_,_,_,gY ps.length hp z hN r,e,fun ow' σ' H' R'=>q .non H' R'.same0 .non⟩
   ·cases hf
  ·rw [if_neg z] at hf;cases hf
theorem O5 (Dd:Dg K mg x st ps) (S:FnScope N ps (aO st)) (hp:∀ i,i < ps.length→fl[i]? = some .A) (hN:ps.length ≤ N.length)
 (hbody:∀ (f:Addr) (cdv:Value) (A:Around) (outer:List Env) (s:Shared) (H:Hp) (E:XK),Room k (A.deeper (envOfC x (aO st) s.heap.objs.size f cdv))→DSs (cx P w K mg base N x st f cdv A outer s H E) fl (gG st) fs) :
 Has P w K mg base (k + 1) x ps (spL K (fnL ps.length (N.length - ps.length) fs)):=by
 obtain ⟨f,fd,Fn,b,m⟩:=Dd.ex
 exact ⟨f,fd,Kz Fn S hp hN hbody,b,Fn.kp,m⟩
end
section
variable {P:Program} {w:World} {K:PySem.W.Frag} {mg:Str→Option Value} {base:Heap} {x:Str} {ps:List Str} {st:Stmt} {n:Nat}
end
end D3
namespace D3
open PySem PySem.Spec PyProof.Rows L2 My
section
variable {K:PySem.W.Frag} {fl flA:List Fl} {G:Gh} {ow:Ow} {σ σ':St} {H H1:Hp} {δ:DS} {T:List Nat}
end
section
variable {X:Cx} {fl flA:List Fl} {e:Expr} {es:List Expr} {f:FE} {fa:FA} {pos:Pos}
end
section
variable {X:Cx} {fl:List Fl} {pos:Pos}
end
end D3
namespace D3
open PySem
inductive Or where
 | o (x:Oc)
 | ex (c:Str) (v:D)
abbrev FX:=DS→Option Or
def xOf (f:FS):FX:=fun δ=>(f δ).bind fun o=>some (.o o)
def kI (f g:FX):FX:=fun δ=>(f δ).bind fun o=>match o with
 | .o (.nx δ')=>g δ'
 | o=>some o
def xIf (c:FT) (f g:FX):FX:=fun δ=>(c δ).bind fun b=>if b=true then f δ else g δ
def rQ (c:Str) (f:FE):FX:=fun δ=>(f δ).bind fun d=>some (.ex c d)
def fnX (p q:Nat) (b:FX):List D→Option Or:=fun ds=>if ds.length=p then match b (ds.map (fun d=>some (.d d))++aG q none) with
    | some (.o (.rt d))=>some (.o (.rt d))
    | some (.o (.nx _))=>some (.o (.rt .none))
    | some (.o (.ex c f d))=>some (.o (.ex c f d))
    | some (.ex c d)=>some (.ex c d)
    | _=>none
 else none
def mR (g:FG) (b:FX):List D→DS→Option Or
 | [],δ=>some (.o (.nx δ))
 | d :: r,δ=>(g d δ).bind fun δ1=>(b δ1).bind fun o=>match o with
  | .o (.nx δ')=>mR g b r δ'
  | .o (.ct δ')=>mR g b r δ'
  | .o (.bk δ')=>some (.o (.nx δ'))
  | .o (.rt v)=>some (.o (.rt v))
  | .o (.ex c f v)=>some (.o (.ex c f v))
  | .ex c v=>some (.ex c v)
def KC (fi:FA) (g:FG) (b:FX):FX:=fun δ=>(fi δ).bind fun l=>mR g b l δ
def jl (F:List D→Option Or) (dd:List D) (fa:FA):FX:=fun δ=>(fa δ).bind fun ds=>match F (ds++dd) with
 | some (.o (.rt _))=>some (.o (.nx δ))
 | some (.o (.ex _ _ _))=>some (.o (.nx δ))
 | some (.ex c d)=>some (.ex c d)
 | _=>none
def Ec (F:List D→Option Or) (fa:FA) (ft:FT) (f g:FX):FX:=fun δ=>(fa δ).bind fun ds=>match F ds with
 | some (.o (.rt (.bool b)))=>if b=true then (ft δ).bind fun t=>if t=true then f δ else g δ else f δ
 | some (.ex c d)=>some (.ex c d)
 | _=>none
end D3
namespace XC
open PySem
open Sem (wp)
structure Two (h:Heap) (C N I:Addr) (bmB:List Value) (mN mI:Str→Option Value) (B newId:String):Prop where
 ex:∃ (nm q:Str) (bs:List Value) (sn:List Str) (sub:List Value) (ab:Bool) (col:Option Bool) (dd:Option Addr) (k0 k1 k2 k3 k5:Option Value),
  h.get? C=some (excClassObj nm q C N bs (.ref I :: bmB) true sn sub ab col dd k0 k1 k2 k3 k5 newId)
 nsC:h.Ns N mN
 up:∃ (nm q:Str) (NI:Addr) (bs:List Value) (sn:List Str) (sub:List Value) (ab:Bool) (col:Option Bool) (dd:Option Addr) (k0 k1 k2 k3 k5:Option Value) (nid:String),
  h.get? I=some (excClassObj nm q I NI bs bmB true sn sub ab col dd k0 k1 k2 k3 k5 nid)∧h.Ns NI mI
 mro:mroOf (.type B)=pure bmB
section
variable {M:Model} {A:Around} {E:Value→Shared→Prop} {h:Heap} {g:Array GenState} {d:Drawn} {t:Nat} {os:OsState}
variable {C N I:Addr} {bmB:List Value} {mN mI:Str→Option Value} {B newId initId:String}
theorem Two.keeps {h':Heap} (T:Two h C N I bmB mN mI B newId) (k:∀ b o,h.get? b=some o→h'.get? b=some o):Two h' C N I bmB mN mI B newId:=by
 obtain ⟨⟨nm,q,bs,sn,sub,ab,col,dd,k0,k1,k2,k3,k5,hC⟩,hn,⟨jnm,jq,NI,jbs,jsn,jsub,jab,jcol,jdd,j0,j1,j2,j3,j5,nid,hI,hm⟩,hb⟩:=T
 exact ⟨⟨nm,q,bs,sn,sub,ab,col,dd,k0,k1,k2,k3,k5,k _ _ hC⟩,hn.keeps k,⟨jnm,jq,NI,jbs,jsn,jsub,jab,jcol,jdd,j0,j1,j2,j3,j5,nid,k _ _ hI,hm.keeps k⟩,hb⟩
theorem Two.tail (T:Two h C N I bmB mN mI B newId) (hi:mI "__init__" = none):OwnTail h bmB (.ref I :: bmB):=by
 obtain ⟨jnm,jq,NI,jbs,jsn,jsub,jab,jcol,jdd,j0,j1,j2,j3,j5,nid,hI,hm⟩:=T.up
 exact .own hI hm hi .base
theorem Two.look {name:Str} {y:Option Value} {Q:Option Value→Shared→Prop} (T:Two h C N I bmB mN mI B newId) (hB:typeLookup (.type B) name=pure y)
 (hq:Q (match mN name with
  | some v=>some v
  | none=>match mI name with
   | some v=>some v
   | none=>y) ⟨h,g,d,t,os⟩):wpAny M A (typeLookup (.ref C) name) Q E ⟨h,g,d,t,os⟩:=by
 obtain ⟨⟨nm,q,bs,sn,sub,ab,col,dd,k0,k1,k2,k3,k5,hC⟩,hn,⟨jnm,jq,NI,jbs,jsn,jsub,jab,jcol,jdd,j0,j1,j2,j3,j5,nid,hI,hm⟩,hb⟩:=T
 have rest:lookupAlong bmB name=pure y:=by
  rw [typeLookup_eq,hb] at hB
  exact hB
 rw [typeLookup_eq]
 refine wpAny_bind (wpAny_mroOf_exc hC ?_)
 rw [lookupAlong_cons]
 refine wpAny_bind (wpAny_classOwn_exc hC hn ?_)
 cases e1:mN name with
 | some v =>
  rw [e1] at hq
  exact wpAny_pure hq
 | none =>
  rw [e1] at hq
  show wpAny M A (lookupAlong (.ref I :: bmB) name) Q E _
  rw [lookupAlong_cons]
  refine wpAny_bind (wpAny_classOwn_cls hI hm ?_)
  cases e2:mI name with
  | some v =>
   rw [e2] at hq
   exact wpAny_pure hq
  | none =>
   rw [e2] at hq
   show wpAny M A (lookupAlong bmB name) Q E _
   rw [rest]
   exact wpAny_pure hq
end
section
variable {prog:Program} {w:World} {A:Around} {E:Value→Shared→Prop} {h:Heap} {g:Array GenState} {d:Drawn} {t:Nat} {os:OsState}
variable {C N I:Addr} {bmB:List Value} {mN mI:Str→Option Value} {B newId initId:String}
theorem Two.make {rest:List Value} {fI:Addr} {oI:Obj} {Q:Fin→Shared→Prop} (T:Two h C N I bmB mN mI B newId) (F:ExcBaseFacts B newId initId bmB) (hi:mI "__init__" = none) (hN:mN "__init__" = some (.ref fI))
 (hf:h.get? fI=some oI) (hfc:oI.cls = .type "function") (hrest:rest.length ≤ sizeLine)
 (hq:∀ h' e,h.objs.size ≤ e→Heap.MadeExcOf h h' e (.ref C) rest→wpAny (model prog w) A (call (.ref fI) (.ref e :: rest)) (fun r s'=>r = .none∧Q (.done (.ret (.ref e))) s') E ⟨h',g,d,t,os⟩) :
 wpAny (model prog w) A (Builtin.«type.__call__» ⟨.ref C :: rest,[]⟩) Q E ⟨h,g,d,t,os⟩:=by
 have TT:=T.tail hi
 have T0:=T
 obtain ⟨⟨nm,q,bs,sn,sub,ab,col,dd,k0,k1,k2,k3,k5,hC⟩,hn,⟨jnm,jq,NI,jbs,jsn,jsub,jab,jcol,jdd,j0,j1,j2,j3,j5,nid,hI,hm⟩,hb⟩:=T
 repeat (first
  | with_reducible refine wpAny_loadPart_at hC ?_
  | with_reducible refine wpAny_madeBy_exc hC ?_
  | wp_step)
 refine codeAny_call_builtin_code (Code.quiet_builtin _ F.quiet) (wpAny_check_new_subT F TT hC ?_)
 refine codeAny_exc_new_subT F TT hC ?_ hrest
 show wpAny _ _ _ _ _ _
 obtain ⟨h2,e2⟩:∃ h2,h2=(h.push { cls:=.type "tuple", data:=.seq rest.toArray }).push { cls:=.ref C,data:=.fields #[.ref h.objs.size,.none,.none,.none,.bool false,.none] }:=⟨_,rfl⟩
 rw [← e2]
 have kp:∀ b o,h.get? b=some o→h2.get? b=some o:=fun b o z=>by
  rw [e2];exact Heap.get?_push_of_some _ (Heap.get?_push_of_some _ z)
 have hx:h2.get? (h.objs.size + 1)=some { cls:=.ref C,data:=.fields #[.ref h.objs.size,.none,.none,.none,.bool false,.none] }:=by
  rw [e2];heap_get
 have ht:h2.get? h.objs.size=some { cls:=.type "tuple", data:=.seq rest.toArray }:=by
  rw [e2];exact Heap.get?_push_of_some _ (Heap.get?_push_at rfl rfl)
 have hC2:=kp _ _ hC
 have cc:(Value.ref C :: .ref I :: bmB).contains (.ref C)=true:=by simp
 unfold isInstance
 repeat (first
  | with_reducible refine wpAny_loadPart_at hx ?_
  | (with_reducible refine wpAny_isSubtype_exc hC2 ?_;rw [cc])
  | wp_step)
 show wpAny _ _ (typeLookup (.ref C) _) _ _ _
 refine (T0.keeps kp).look F.init.lookup ?_
 rw [hN]
 refine wpAny_holding (wpAny_bind ?_)
 unfold bindSpecial
 refine wpAny_bind (wpAny_typeOf (T := "function") ⟨_,kp _ _ hf,hfc⟩ ?_)
 rw [if_pos (by decide)]
 refine wpAny_pure (wpAny_bind (wpAny_mono (hq h2 (h.objs.size + 1) (n6 _) ⟨kp,Heap.get?_none_of_le (n6 _),h.objs.size,hx,Heap.get?_none_of_le (bA _),ht⟩) (fun r s' hr=>?_) fun _ _ z=>z))
 obtain ⟨rfl,hQ⟩:=hr
 wp_walk
 exact hQ
end
end XC
namespace XC
open PySem Builtin Builtin.ObjectAttr
open Sem (wp)
section
variable {prog:Program} {w:World} {A:Around} {E:Value→Shared→Prop} {h:Heap} {g:Array GenState} {d:Drawn} {t:Nat} {os:OsState}
variable {C N I x:Addr} {bmB:List Value} {mN mI:Str→Option Value} {B newId initId sa owner:String} {name:Str} {v:Value}
theorem Two.store0 {tk:Tok} {o:Obj} {Q:Fin→Shared→Prop} (T:Two h C N I bmB mN mI B newId) (SF:StoreFacts B bmB sa owner) (n1:mN name=none) (n2:mI name=none) (hB:typeLookup (.type B) name=pure none)
 (hx:h.get? x=some o) (hc:o.cls = .ref C) (hnc:∀ c,o.data ≠ .cls c) (hdn:o.dict=none)
 (hq:∀ h' tk' dx,h'.get? x=some { o with dict:=some dx }→h.objs.size ≤ dx→dx ≠ x→h'.Ns1 dx (fun y=>if y=name then some v else none)→(∀ b u,b ≠ x→h.get? b=some u→h'.get? b=some u)→Q (.done (.ret .none)) ⟨h',g,d,tk',os⟩) :
 wpAny (model prog w) A (Builtin.«object.__setattr__» ⟨[.ref x,.str name tk,v],[]⟩) Q E ⟨h,g,d,t,os⟩:=by
 have T0:=T
 obtain ⟨⟨nm,q,bs,sn,sub,ab,col,dd,k0,k1,k2,k3,k5,hC⟩,hn,⟨jnm,jq,NI,jbs,jsn,jsub,jab,jcol,jdd,j0,j1,j2,j3,j5,nid,hI,hm⟩,hb⟩:=T
 have pass:refuseLoop (.ref x) "__setattr__" (.ref C :: .ref I :: bmB)=pure ():=by
  rw [refuseLoop_ref,refuseLoop_ref];exact SF.passes _
 unfold Builtin.«object.__setattr__»
 repeat (first
  | rw [refuse_eq]
  | rw [pass]
  | (with_reducible refine wpAny_loadPart_at hx ?_;rw [hc])
  | with_reducible refine wpAny_mroOf_exc hC ?_
  | (with_reducible refine T0.look hB ?_;rw [n1,n2])
  | wp_step)
 rw [hdn,if_neg (by simp [typeHasDict])]
 split
 ·rename_i z
  cases z
 split
 ·rename_i c z
  exact absurd z (hnc c)
 obtain ⟨h1,e1⟩:∃ h1,h1=h.push { cls:=.type "dict", data:=.dict #[] }:=⟨_,rfl⟩
 have x1:h1.get? x=some o:=by rw [e1];exact Heap.get?_push_of_some _ hx
 have ne:x ≠ h.objs.size:=bR (Heap.lt_size hx)
 refine wpAny_bind (wpAny_alloc' ?_)
 rw [← e1]
 refine wpAny_bind (wpAny_update' x1 (wpAny_pure ?_))
 obtain ⟨h2,e2⟩:∃ h2,h2=h1.update x fun o=>{ cls:=o.cls,dict:=some h.objs.size,data:=o.data,slots:=o.slots }:=⟨_,rfl⟩
 rw [← e2]
 have d2:h2.get? h.objs.size=some { cls:=.type "dict", data:=.dict #[] }:=by
  rw [e2,e1]
  exact (Heap.get?_update_ne _ _ _ _ ne.symm).trans (Heap.get?_push_at rfl rfl)
 have x2:h2.get? x=some { cls:=o.cls,dict:=some h.objs.size,data:=o.data,slots:=o.slots }:=by
  rw [e2]
  refine Heap.get?_update_self _ x1 ?_
  have fr:=(Heap.get?_some_iff.mp hx).2
  obtain ⟨oc,od,odt,osl⟩:=o
  cases odt <;> first | rfl | exact fr
 have k2:∀ b u,b ≠ x→h.get? b=some u→h2.get? b=some u:=fun b u z q=>by
  rw [e2,e1]
  exact (Heap.get?_update_ne _ _ _ _ z).trans (Heap.get?_push_of_some _ q)
 have n0:h2.Ns h.objs.size (fun _=>none):=⟨_,#[],_,d2,rfl,fun e z=>absurd z (by simp),fun _=>rfl⟩
 show wpAny _ _ (storeInDict h.objs.size (.str name tk) name v) _ _ _
 unfold storeInDict newKeyGuard
 refine wpAny_bind (wpAny_pure (wpAny_bind (wpAny_nsSet1 (Heap.Ns1.of_empty n0) fun h3 n3 hs=>?_)))
 obtain ⟨oD,esD,epD,a1,a2,a3⟩:=n3.count (Within.cons name v Within.nil)
 refine wpAny_bind (wpAny_lookBehind a1 (by rw [a2];exact pastItsLine_dict (bV a3 (show 1 ≤ sizeLine + 1 by decide))) ?_)
 wp_walk
 exact hq h3 _ h.objs.size ((hs.2 x ne).trans x2) (bA _) ne.symm n3 fun b u z q=>(hs.2 b (bR (Heap.lt_size q))).trans (k2 b u z q)
theorem Two.set0 {o:Obj} {Q:Unit→Shared→Prop} (T:Two h C N I bmB mN mI B newId) (SF:StoreFacts B bmB sa owner) (s1:mN "__setattr__" = none) (s2:mI "__setattr__" = none) (n1:mN name=none) (n2:mI name=none) (hB:typeLookup (.type B) name=pure none)
 (hx:h.get? x=some o) (hc:o.cls = .ref C) (hnc:∀ c,o.data ≠ .cls c) (hdn:o.dict=none)
 (hq:∀ h' tk' dx,h'.get? x=some { o with dict:=some dx }→h.objs.size ≤ dx→dx ≠ x→h'.Ns1 dx (fun y=>if y=name then some v else none)→(∀ b u,b ≠ x→h.get? b=some u→h'.get? b=some u)→Q () ⟨h',g,d,tk',os⟩) :
 wpAny (model prog w) A (setAttr (.ref x) name v) Q E ⟨h,g,d,t,os⟩:=by
 have T0:=T
 obtain ⟨⟨nm,q,bs,sn,sub,ab,col,dd,k0,k1,k2,k3,k5,hC⟩,hn,⟨jnm,jq,NI,jbs,jsn,jsub,jab,jcol,jdd,j0,j1,j2,j3,j5,nid,hI,hm⟩,hb⟩:=T
 have f3:=SF.slot.bind (.ref x)
 have own:(Value.ref C :: .ref I :: bmB).contains (.type owner)=true:=by
  rw [dY,dY,SF.hasOwner,ji,ji]
 unfold setAttr callSpecial? specialOf
 repeat (any_goals (first
  | assumption
  | (with_reducible refine wpAny_loadPart_at hx ?_;rw [hc])
  | (with_reducible refine T0.look SF.slot.lookup ?_;rw [s1,s2])
  | wp_step))
 refine codeAny_call_builtin SF.slot.plain SF.entry ?_
 have ck:∀ {A:Around} {E:Value→Shared→Prop} (tk:Tok) (Q:Unit→Shared→Prop) (t:Nat),Q () ⟨h,g,d,t,os⟩→wpAny (model prog w) A (checkBuiltinCall sa ⟨[.ref x,.str name tk,v],[]⟩) Q E ⟨h,g,d,t,os⟩:=by
  intro A E tk Q t z
  have ha:=SF.args (.ref x) (.str name tk) v
  simp only [checkBuiltinCall,SF.kind,SF.split]
  refine wpAny_bind ?_
  unfold isInstance
  repeat (first
   | (with_reducible refine wpAny_loadPart_at hx ?_;rw [hc])
   | (with_reducible refine wpAny_isSubtype_exc hC ?_;rw [own])
   | wp_step)
  cases sg:Manifest.signature? sa with
  | none=>exact wpAny_pure z
  | some sig =>
   simp only [argsOk,sg] at ha
   have ha:Bind.checkArgs sa sig ⟨[.ref x,.str name tk,v],[]⟩=pure ():=ha
   show wpAny _ _ (Bind.checkArgs sa sig ⟨[.ref x,.str name tk,v],[]⟩) _ _ _
   rw [ha]
   exact wpAny_pure z
 refine ck _ _ _ (T0.store0 SF n1 n2 hB hx hc hnc hdn fun h' tk' dx z1 z2 z3 z4 z5=>?_)
 repeat (any_goals (first | assumption | wp_step))
 exact hq h' tk' dx z1 z2 z3 z4 z5
end
end XC
namespace XC
open PySem PySem.Spec PyProof.Rows L2 My
section
variable {P:Program} {w:World} {K:PySem.W.Frag} {mg:Str→Option Value} {base:Heap}
variable {C N I x:Addr} {bmB:List Value} {mN mI:Str→Option Value} {B newId initId sa owner:String}
theorem G_ {k:Nat} {fI:Addr} {name qual f:Str} {params:Arguments} {scope:Scope} {dV kV doc pm cdv ct oc:Value} {an od:Option Addr} {osl:Array (Option Value)} {p1 p2 p3 p4:Pos}
 (lk:K.lookup fI=some ⟨oc,od,.func (PySem.W.fnOf name qual params [.Assign [.Attribute (.Name "self" p1) f p2] (.Name f p3) p4] scope dV kV doc pm an cdv ct),osl⟩) (hcd:PySem.W.codeIn K cdv qual=true)
 (S:FnScope ["self", f] ["self", f] scope) (l1:scope.names.lookup ("self" : Str)=some NameKind.local) (l2:scope.names.lookup f=some .local) (fs:("self" : Str) ≠ f) (fd:(f == ("__debug__" : Str))=false) (fc:(f == ("__classdict__" : Str))=false)
 (hb:Binds K (PySem.W.fnOf name qual params [.Assign [.Attribute (.Name "self" p1) f p2] (.Name f p3) p4] scope dV kV doc pm an cdv ct) ["self", f] [])
 {A:Around} {outer:List Env} {s:Shared} {H:Hp} (hr:Room (k + 1) A) (e0:Env0 P w K mg base A outer s H)
 (T:Two s.heap C N I bmB mN mI B newId) (SF:StoreFacts B bmB sa owner) (s1:mN "__setattr__" = none) (s2:mI "__setattr__" = none) (n1:mN f=none) (n2:mI f=none) (hB:typeLookup (.type B) f=pure none)
 {o:Obj} (hx:s.heap.get? x=some o) (hc:o.cls = .ref C) (hnc:∀ c,o.data ≠ .cls c) (hdn:o.dict=none) {v:V} {u:Value} (rv:RelV v u) {R:Result→Shared→Prop}
 (hq:∀ h' tk' dx,h'.get? x=some { o with dict:=some dx }→s.heap.objs.size ≤ dx→dx ≠ x→h'.Ns1 dx (fun y=>if y=f then some u else none)→(∀ b ob,b ≠ x→s.heap.get? b=some ob→h'.get? b=some ob)→R (.ok (.ret .none)) { s with heap:=h',toks:=tk' }) :
 codeAny (model P w) A (.call (.ref fI) ⟨[.ref x,u],[]⟩) R s:=by
 have KX:K.In s.heap:=e0.mod.kin.keeps fun b o e=>(e0.bs b o e).1
 have lim:s.heap.NoLimit:=e0.mod.nolimit.keeps fun b o e=>(e0.bs b o e).1
 have kinds:∀ y ∈ (["self", f]:List Str).zip [Value.ref x,u],scope.names.lookup y.1=some .local∨(scope.names.lookup y.1=some .cell∧((cellsFrom (s.heap.objs.size + 1) scope.names []).lookup y.1).isSome=true):=by
  rintro ⟨n,z⟩ hy
  rcases S.par n (jy hy).1 with q | q
  ·exact .inl q
  ·exact .inr ⟨q,PySem.W.cellsFrom_some _ _ _ (.inl q)⟩
 refine codeAny_call_function hr.depth (KX _ _ lk) rfl S.co S.gen rfl (PySem.W.codeRec_of KX hcd) (hb s [.ref x,u] KX rfl _ _ _ _ ?_)
 refine wpAny_newFunctionEnv_cells S.kind kinds fun env he s3 y=>?_
 subst he
 refine ⟨lim.keeps y.toInCall.keep,codeAny_func ?_⟩
 obtain ⟨h3,tk3,rfl,kp⟩:=y.done
 have ns:=y.toInCall.ns
 have m1:bindL (envOfC qual scope s.heap.objs.size fI cdv).kindOf ((["self", f]:List Str).zip [Value.ref x,u]) (fun _=>none) "self" = some (.ref x) :=
  oV S.nd (i:=0) rfl rfl l1
 have m2:bindL (envOfC qual scope s.heap.objs.size fI cdv).kindOf ((["self", f]:List Str).zip [Value.ref x,u]) (fun _=>none) f=some u :=
  oV S.nd (i:=1) rfl rfl l2
 refine wpAny_execs_cons (plainObj_wpAny_Assign_Attribute (wpAny_Name (wpAny_loadName_local S.kind l2 ns m2 (wpAny_Name (wpAny_loadName_local S.kind l1 ns m1 ?_))) fd))
 refine (T.keeps kp).set0 SF s1 s2 n1 n2 hB (kp _ _ hx) hc hnc hdn fun h' tk' dx z1 z2 z3 z4 z5=>?_
 refine wpAny_execs_nil ?_
 exact hq h' tk' dx z1 (bV (bV y.toInCall.fresh (kj ns.lt)) z2) z3 z4 fun b ob e q=>z5 b ob e (kp _ _ q)
end
end XC
namespace XC
open PySem PySem.Spec PyProof.Rows L2 My
structure Fly (h:Heap) (a C dx:Addr) (f:Str) (u:Value) (tb:Option Addr):Prop where
 obj:∃ vs sl,h.get? a=some ⟨.ref C,some dx,.fields vs,sl⟩∧vs[1]? = some (tb.elim .none .ref)
 dic:h.Ns1 dx (fun y=>if y=f then some u else none)
 ne:dx ≠ a
 hd:∀ T,tb=some T→T ≠ a∧T ≠ dx∧∃ oT ts,h.get? T=some oT∧oT.data = .fields ts∧ts[3]? = some .none
section
variable {M:Model} {A:Around} {E:Value→Shared→Prop} {s:Shared}
theorem wG {base:Heap} {env:Env} {outer:List Env} {L a:Addr} {oe:Obj} {vs:Array Value} {head:Value} {hn:Bool} {Q:Unit→Shared→Prop}
 (hfr:A.frames=some (env :: outer)) (hl:s.heap.FunFrames base (env :: outer)) (hf:env.frame=some L) (he:s.heap.get? a=some oe) (hd:oe.data = .fields vs) (hsz:1 < vs.size)
 (h:∀ h' T,s.heap.objs.size ≤ T→h'.get? a=some (oe.mapFields (·.setIfInBounds 1 (.ref T)))→(∃ oT ts,h'.get? T=some oT∧oT.data = .fields ts∧ts[3]? = some .none) →
  (∀ b o,b ≠ a→b ∉ frs (env :: outer)→s.heap.get? b=some o→h'.get? b=some o)→(∀ b o,b ≠ a→s.heap.get? b=some o→∃ sl,h'.get? b=some { o with slots:=sl })→Q () { s with heap:=h' }) :
 wpAny M A (do let z ← frameOf env;let pl ← entryPlaceOf L hn;let b ← EntryCells.newEntry head z .none (rawInt L) .none pl;setField (.ref a) 1 b) (fun _ s'=>wpAny M A (setFlight (.ref a) none) Q E s') E s:=by
 have nf:a ∉ (env :: outer).filterMap (·.frame):=fun z=>by
  obtain ⟨_,o,ho,q⟩:=hl.mem z
  rw [he] at ho
  cases ho
  exact q vs hd
 refine wpAny_bind (wpAny_frameOf_fun hfr hl hf fun h1 hs=>?_)
 refine wpAny_bind (wpAny_entryPlaceOf fun pl hpl=>?_)
 unfold EntryCells.newEntry newFields
 refine wpAny_bind (wpAny_newObj_type ?_ (hpl.sizeOk5 _ _ _ _ _))
 obtain ⟨ob,eob⟩:∃ ob:Obj,ob = { cls:=.type "traceback", dict:=none,data:=.fields ([head,.ref L,.none,rawInt L,.none]++(if pl.isEmpty then aG 6 Value.none else pl)).toArray }:=⟨_,rfl⟩
 rw [← eob]
 have od:ob.data = .fields ([head,.ref L,.none,rawInt L,.none]++(if pl.isEmpty then aG 6 Value.none else pl)).toArray:=by rw [eob]
 have ofr:ob.isFreed=false:=by rw [eob];rfl
 have a1:h1.get? a=some oe:=(hs.2.1 a nf).trans he
 have a2:(h1.push ob).get? a=some oe:=Heap.get?_push_of_some _ a1
 refine wpAny_setField a2 hd hsz ?_
 have sz:h1.objs.size=s.heap.objs.size:=hs.1
 have ne:h1.objs.size ≠ a:=pZ (Heap.lt_size a1)
 have d3:=Obj.data_mapFields hd (·.setIfInBounds 1 (Value.ref h1.objs.size))
 obtain ⟨h3,e3⟩:∃ h3,h3=(h1.push ob).update a (Obj.mapFields (·.setIfInBounds 1 (Value.ref h1.objs.size))):=⟨_,rfl⟩
 rw [← e3]
 have a3:h3.get? a=some (oe.mapFields (·.setIfInBounds 1 (.ref h1.objs.size))):=by
  rw [e3];exact Heap.get?_update_self _ a2 (Obj.isFreed_of_fields d3)
 have t3:h3.get? h1.objs.size=some ob:=by
  rw [e3];exact (Heap.get?_update_other _ _ ne.symm).trans (Heap.get?_push_size h1 ofr)
 have o3:∀ b,b ≠ a→b ≠ h1.objs.size→h3.get? b=h1.get? b:=fun b z1 z2=>by
  rw [e3,Heap.get?_update_other _ _ (Ne.symm z1)]
  exact Heap.get?_push_ne _ _ _ z2
 unfold setFlight
 refine wpAny_bind (wpAny_field a3 d3 (x:=.ref h1.objs.size) (by simp [hsz]) ?_)
 rw [if_pos (show (Value.ref h1.objs.size != Value.none)=true by simp)]
 have d4:=Obj.data_mapFields od (·.setIfInBounds 3 ((none:Option Addr).elim Value.none fun f=>rawInt f))
 refine wpAny_setField t3 od (by simp only [bB,bW,cA,dU] <;> omega) ?_
 obtain ⟨h4,e4⟩:∃ h4,h4=h3.update h1.objs.size (Obj.mapFields (·.setIfInBounds 3 ((none:Option Addr).elim Value.none fun f=>rawInt f))):=⟨_,rfl⟩
 rw [← e4]
 have o4:∀ b,b ≠ h1.objs.size→h4.get? b=h3.get? b:=fun b z=>by rw [e4];exact Heap.get?_update_other _ _ (Ne.symm z)
 refine h h4 h1.objs.size (qb sz.symm) ((o4 a (Ne.symm ne)).trans a3) ⟨_,_,by rw [e4];exact Heap.get?_update_self _ t3 (Obj.isFreed_of_fields d4),d4,?_⟩ (fun b o z1 z2 q=>?_) fun b o z1 q=>?_
 ·rcases hpl with rfl | ⟨_,_,_,_,_,_,_,rfl⟩ <;> simp
 ·have q1:h1.get? b=some o:=(hs.2.1 b z2).trans q
  have z3:b ≠ h1.objs.size:=bR (Heap.lt_size q1)
  exact (o4 b z3).trans ((o3 b z1 z3).trans q1)
 ·obtain ⟨sl,q1⟩:=hs.2.2 b o q
  have z3:b ≠ h1.objs.size:=bR (Heap.lt_size q1)
  exact ⟨sl,(o4 b z3).trans ((o3 b z1 z3).trans q1)⟩
end
end XC
namespace XC
open PySem PySem.Spec PyProof.Rows L2 My
section
variable {M:Model} {A:Around} {E:Value→Shared→Prop} {s:Shared}
theorem Hf {base:Heap} {env:Env} {outer:List Env} {L a C dx:Addr} {f:Str} {u:Value} {tb:Option Addr} {Q:Unit→Shared→Prop}
 (hfr:A.frames=some (env :: outer)) (hl:s.heap.FunFrames base (env :: outer)) (hf:env.frame=some L) (F:Fly s.heap a C dx f u tb) (nd:dx ∉ frs (env :: outer))
 (h:∀ h' T,s.heap.objs.size ≤ T→Fly h' a C dx f u (some T)→(∀ b o,b ≠ a→tb ≠ some b→b ∉ frs (env :: outer)→s.heap.get? b=some o→h'.get? b=some o) →
  (∀ b o,b ≠ a→tb ≠ some b→s.heap.get? b=some o→∃ sl,h'.get? b=some { o with slots:=sl })→Q () { s with heap:=h' }) :
 wpAny M A (noteFrame (.ref a) env) (fun _ s'=>wpAny M A (setFlight (.ref a) none) Q E s') E s:=by
 obtain ⟨⟨vs,sl,ea,e1⟩,hdic,hne,hhd⟩:=F
 have hsz:1 < vs.size:=(cF.mp e1).1
 have dlt:dx < s.heap.objs.size:=by
  obtain ⟨o,_,_,q,_⟩:=hdic
  exact Heap.lt_size q
 unfold noteFrame
 simp only [hf]
 cases tb with
 | none =>
  refine wpAny_bind (wpAny_field ea rfl e1 ?_)
  rw [if_neg (by decide)]
  refine wG hfr hl hf ea rfl hsz fun h' T hT q1 q2 q3 q4=>h h' T hT ⟨⟨_,sl,q1,by simp [hsz]⟩,?_,hne,fun T' z=>?_⟩ (fun b o z1 _ z2 z3=>q3 b o z1 z2 z3) fun b o z1 _ z2=>q4 b o z1 z2
  ·obtain ⟨o,es,ep,r1,r2⟩:=hdic
   exact ⟨o,es,ep,q3 dx o hne nd r1,r2⟩
  ·cases z
   refine ⟨fun z=>?_,fun z=>?_,q2⟩
   ·rw [z] at hT
    exact absurd (Heap.lt_size ea) (d_.mpr hT)
   ·rw [z] at hT
    exact absurd dlt (d_.mpr hT)
 | some T =>
  obtain ⟨Ta,Td,oT,ts,t1,t2,t3⟩:=hhd T rfl
  refine wpAny_bind (wpAny_field ea rfl e1 ?_)
  rw [if_pos (show ((sS (some T) Value.none Value.ref) != Value.none)=true by simp)]
  refine wpAny_bind (wpAny_field t1 t2 t3 ?_)
  rw [if_neg (show ¬ ((Value.none == rawInt L)=true) by simp [rawInt])]
  refine wpAny_bind (wpAny_setField t1 t2 (cF.mp t3).1 ?_)
  obtain ⟨h2,e2⟩:∃ h2,h2=s.heap.update T (Obj.mapFields (·.setIfInBounds 3 Value.none)):=⟨_,rfl⟩
  rw [← e2]
  have o2:∀ b,b ≠ T→h2.get? b=s.heap.get? b:=fun b z=>by rw [e2];exact Heap.get?_update_other _ _ (Ne.symm z)
  have sz2:h2.objs.size=s.heap.objs.size:=by rw [e2];exact Heap.size_update ..
  have nT:T ∉ frs (env :: outer):=fun z=>by
   obtain ⟨_,o,ho,q⟩:=hl.mem z
   rw [t1] at ho
   cases ho
   exact q ts t2
  have hl2:h2.FunFrames base (env :: outer):=hl.of_keeps fun b o hb q=>⟨o,(o2 b fun z=>by rw [z,t1] at hb;cases hb;exact q ts t2).trans hb,rfl⟩
  refine wG (s:={ s with heap:=h2 }) hfr hl2 hf ((o2 a (Ne.symm Ta)).trans ea) rfl hsz fun h' T' hT q1 q2 q3 q4=>h h' T' (by rw [← sz2];exact hT) ⟨⟨_,sl,q1,by simp [hsz]⟩,?_,hne,fun T2 z=>?_⟩
   (fun b o z1 z0 z2 z3=>q3 b o z1 z2 ((o2 b fun z=>z0 (by rw [z])).trans z3)) fun b o z1 z0 z2=>q4 b o z1 ((o2 b fun z=>z0 (by rw [z])).trans z2)
  ·obtain ⟨o,es,ep,r1,r2⟩:=hdic
   exact ⟨o,es,ep,q3 dx o hne nd ((o2 dx (Ne.symm Td)).trans r1),r2⟩
  ·cases z
   have hT:s.heap.objs.size ≤ T':=by rw [← sz2];exact hT
   refine ⟨fun z=>?_,fun z=>?_,q2⟩
   ·rw [z] at hT
    exact absurd (Heap.lt_size ea) (d_.mpr hT)
   ·rw [z] at hT
    exact absurd dlt (d_.mpr hT)
end
end XC
namespace XC
open PySem PySem.Spec PyProof.Rows L2 My
structure Loose (X:Cx) (pins:List (Addr × Obj)) (H:Hp) (b:Addr):Prop where
 new:X.s₀.heap.objs.size ≤ b
 loc:b ≠ X.env.locals
 cel:∀ x c,X.env.cells.lookup x=some c→c ≠ b
 pin:∀ p ∈ X.pn++pins,p.1 ≠ b
 out:H b=none
section
variable {X:Cx} {pins:List (Addr × Obj)} {σ:L2.St} {H H':Hp} {s:Shared}
theorem Loose.of (I:Inv X pins σ H s) {b:Addr} (hb:s.heap.objs.size ≤ b) (hH:H' b=none):Loose X pins H' b:=by
 refine ⟨bV I.sz hb,fun z=>?_,fun x c e z=>?_,fun p hp z=>?_,hH⟩
 ·rw [z] at hb;exact absurd I.lt (d_.mpr hb)
 ·obtain ⟨v,o,ho,_⟩:=I.cell x c e
  rw [z] at ho
  exact absurd (Heap.lt_size ho) (d_.mpr hb)
 ·have:=(I.pin p hp).1
  rw [z] at this
  exact absurd (Heap.lt_size this) (d_.mpr hb)
theorem Loose.nofs (I:Inv X pins σ H s) {b:Addr} (L:Loose X pins H' b):b ∉ X.env.locals :: X.fs:=fun z=>by
 rcases aZ.mp z with e | e
 ·exact L.loc e
 ·obtain ⟨_,o,ho,_⟩:=I.ok.funs.mem e
  exact absurd (Heap.lt_size ho) (d_.mpr L.new)
theorem zf {M:Model} {A:Around} {E:Value→Shared→Prop} {a C dx:Addr} {f:Str} {u:Value} {tb:Option Addr} {Q:Unit→Shared→Prop} (hA:A.frames=X.A.frames) (I:Inv X pins σ H s) (hst:X.stack=X.env :: X.outer) (hfr:X.env.frame=some X.env.locals)
 (F:Fly s.heap a C dx f u tb) (La:Loose X pins H a) (Ld:Loose X pins H dx) (Lt:∀ T,tb=some T→Loose X pins H T)
 (h:∀ s' T,Inv X pins σ H s'→Fly s'.heap a C dx f u (some T)→s'.os=s.os→s'.gens=s.gens→Loose X pins H T→Q () s') :
 wpAny M A (noteFrame (.ref a) X.env) (fun _ s'=>wpAny M A (setFlight (.ref a) none) Q E s') E s:=by
 have fl:=I.stack
 rw [hst] at fl
 have fe:frs (X.env :: X.outer)=X.env.locals :: X.fs:=by unfold frs;rw [fP,hfr];rfl
 refine Hf (hA.trans (I.ok.frames.trans (by rw [hst]))) fl hfr F (by rw [fe];exact Ld.nofs I) fun h' T hT F' k1 k2=>?_
 have LT:Loose X pins H T:=Loose.of I hT (I.hok.fresh hT)
 refine h _ T ?_ F' rfl rfl LT
 rw [fe] at k1
 have ex:∀ b,H b ≠ none→b ≠ a∧tb ≠ some b∧b ∉ X.env.locals :: X.fs:=fun b hb=>by
  refine ⟨fun z=>hb (by rw [z];exact La.out),fun z=>hb (Lt b z).out,fun z=>hb ?_⟩
  exact I.stkFree b (by rw [hst,fe];exact z)
 obtain ⟨m,⟨o,es,ep,ho,r⟩,_⟩:=id I.loc
 obtain ⟨sl,hL⟩:=k2 _ o (Ne.symm La.loc) (fun z=>(Lt _ z).loc rfl) ho
 refine I.step (g':=s.gens) (d':=s.drawn) (t':=s.toks) (ch:=a :: tb.toList) (fun b hb=>?_) (fun b o z1 z2 z3 q _=>k1 b o (fun z=>z3 (by rw [z];exact aJ)) (fun z=>z3 (aH _ (by rw [z];exact aU.mpr rfl))) (fun z=>(aZ.mp z).elim z1 z2) q)
  (fun b o z1 z2 z3 q _=>k2 b o (fun z=>z3 (by rw [z];exact aJ)) (fun z=>z3 (aH _ (by rw [z];exact aU.mpr rfl))) q) (fun _ _ _ _ z=>z)
  (fun b o z3 q=>let ⟨_,w⟩:=k2 b o (fun z=>z3 (by rw [z];exact aJ)) (fun z=>z3 (aH _ (by rw [z];exact aU.mpr rfl))) q;⟨_,w⟩) (fun _ _ e=>e) (fun _ _ _ e=>e) (fun _ _ _ e=>e) (fun m' hm=>?_) (fun b w e=>?_) I.bare
 ·rcases aZ.mp hb with e | e
  ·rw [e];exact ⟨.inr La.new,La.loc,La.cel,La.pin⟩
  ·cases tb with
   | none=>cases e
   | some T0 =>
    have e:b=T0:=by simpa using e
    have:=Lt T0 rfl
    rw [e];exact ⟨.inr this.new,this.loc,this.cel,this.pin⟩
 ·obtain ⟨o',es',ep',ho',r'⟩:=hm
  rw [ho] at ho';cases ho'
  exact ⟨_,es',ep',hL,r'⟩
 ·refine (I.hok b w e).stay (fun c v hc q=>?_) (fun _ q=>q) fun _ _ q=>q
  obtain ⟨z1,z2,z3⟩:=ex c (by
   rcases hc with z | z
   ·rw [z,e];simp
   ·rw [z];simp)
  exact k1 c v z1 z2 z3 q
end
end XC
namespace XC
open PySem PySem.Spec PyProof.Rows L2 My
section
variable {prog:Program} {w:World} {A:Around} {E:Value→Shared→Prop} {h:Heap} {g:Array GenState} {d:Drawn} {t:Nat} {os:OsState}
variable {C N I:Addr} {bmB:List Value} {mN mI:Str→Option Value} {B newId initId:String}
theorem Two.call {rest:List Value} {fI:Addr} {oI:Obj} {Q:Value→Shared→Prop} (T:Two h C N I bmB mN mI B newId) (F:ExcBaseFacts B newId initId bmB) (hi:mI "__init__" = none) (hN:mN "__init__" = some (.ref fI))
 (hf:h.get? fI=some oI) (hfc:oI.cls = .type "function") (hrest:rest.length ≤ sizeLine)
 (hq:∀ h' e,h.objs.size ≤ e→Heap.MadeExcOf h h' e (.ref C) rest→wpAny (model prog w) (A.under (.builtin "type.__call__" ⟨.ref C :: rest,[]⟩)) (call (.ref fI) (.ref e :: rest)) (fun r s'=>r = .none∧Q (.ref e) s') E ⟨h',g,d,t,os⟩) :
 wpAny (model prog w) A (call (.ref C) rest) Q E ⟨h,g,d,t,os⟩:=by
 have T0:=T
 obtain ⟨⟨nm,q,bs,sn,sub,ab,col,dd,k0,k1,k2,k3,k5,hC⟩,hn,⟨jnm,jq,NI,jbs,jsn,jsub,jab,jcol,jdd,j0,j1,j2,j3,j5,nid,hI,hm⟩,hb⟩:=T
 have g1:=tc_lookup
 have g2:=tc_bind (.ref C)
 have ty:(⟨h,g,d,t,os⟩:Shared).TypeIs (.ref C) "type" := ⟨_,hC,rfl⟩
 refine wpAny_call (codeAny_of_tree ?_)
 show wpAny _ _ (callAny (.ref C) _) _ _ _
 repeat (any_goals (first
  | assumption
  | with_reducible refine wpAny_loadPart_at hC ?_
  | wp_step))
 refine ⟨rfl,?_⟩
 refine codeAny_call_builtin_at (Code.quiet_builtin _ (by decide +kernel)) entry_typeCall (wpAny_check_type_call_sub hC (T0.make F hi hN hf hfc hrest fun h' e hz hm=>?_))
 exact hq h' e hz hm
theorem Av {M:Model} {A:Around} {s:Shared} {env:Env} {x:Sem Value} {Q:Flow→Shared→Prop} (hh:A.handled=none) (hbase:bmB.contains (.type "BaseException")=true)
 (h:wpAny M A x (fun v s₁=>∃ e oe,v = .ref e∧Two s₁.heap C N I bmB mN mI B newId∧s₁.heap.get? e=some oe∧oe.cls = .ref C∧(∃ vs,oe.data = .fields vs∧vs[1]? = some .none)∧E (.ref e) s₁) E s) :
 wpAny M A (raiseStmt env (some x) none) Q E s:=by
 have cB:(Value.ref C :: .ref I :: bmB).contains (.type "BaseException")=true:=by
  rw [dY,dY,hbase,ji,ji]
 unfold raiseStmt
 refine wpAny_bind (wpAny_mono h (fun v s₁ q=>?_) fun _ _ z=>z)
 obtain ⟨e,oe,rfl,T,he,hc,⟨vs,hd,h1⟩,hE⟩:=q
 obtain ⟨⟨nm,q,bs,sn,sub,ab,col,dd,k0,k1,k2,k3,k5,hC⟩,hn,⟨jnm,jq,NI,jbs,jsn,jsub,jab,jcol,jdd,j0,j1,j2,j3,j5,nid,hI,hm⟩,hb⟩:=T
 obtain ⟨hp,g,d,tk,os⟩:=s₁
 repeat (first
  | (with_reducible refine wpAny_loadPart_at he ?_;rw [hc])
  | with_reducible refine wpAny_loadPart_at hC ?_
  | (with_reducible refine wpAny_isSubtype_exc hC ?_;rw [cB])
  | (with_reducible refine wpAny_field he hd h1 ?_)
  | wp_step)
 exact wpAny_raiseNew_none hh hE
end
end XC
namespace XC
open PySem PySem.Spec PyProof.Rows L2 My
abbrev bmV:List Value:=[.type "ValueError", .type "Exception", .type "BaseException", .type "object"]
structure Init (K:PySem.W.Frag) (f:Str) (fI:Addr):Prop where
 ex:∃ (name qual:Str) (params:Arguments) (scope:Scope) (dV kV doc pm cdv ct:Value) (an od:Option Addr) (osl:Array (Option Value)) (p1 p2 p3 p4:Pos),
  K.lookup fI=some ⟨.type "function", od,.func (PySem.W.fnOf name qual params [.Assign [.Attribute (.Name "self" p1) f p2] (.Name f p3) p4] scope dV kV doc pm an cdv ct),osl⟩∧PySem.W.codeIn K cdv qual=true ∧
  FnScope ["self", f] ["self", f] scope∧scope.names.lookup ("self" : Str)=some NameKind.local∧scope.names.lookup f=some NameKind.local ∧
  Binds K (PySem.W.fnOf name qual params [.Assign [.Attribute (.Name "self" p1) f p2] (.Name f p3) p4] scope dV kV doc pm an cdv ct) ["self", f] []
 ne:("self" : Str) ≠ f
 nd:(f == ("__debug__" : Str))=false
 nc:(f == ("__classdict__" : Str))=false
structure Exc (K:PySem.W.Frag) (mg:Str→Option Value) (cn f:Str) (C I:Addr):Prop where
 mgC:mg cn=some (.ref C)
 kp:PySem.W.keepIn K (.ref C)=true
 hB:typeLookup (.type "ValueError") f=pure none
 ex:∃ (N fI:Addr) (mN mI:Str→Option Value),(∀ h,K.In h→Two h C N I bmV mN mI "ValueError" "ValueError.__new__")∧mN "__init__" = some (.ref fI)∧mI "__init__" = none∧mN "__setattr__" = none∧mI "__setattr__" = none∧mN f=none∧mI f=none∧Init K f fI
section
variable {X:Cx} {pins:List (Addr × Obj)} {σ:L2.St} {H:Hp} {s:Shared} {cn f:Str} {C I:Addr} {arg:Expr} {ta:TE} {p pos:Pos} {k:Nat}
theorem Hg {R:V→Hp→Prop} (Ex:Exc X.K X.mg cn f C I) (hr:Room (k + 2) X.A) (hg:Gl X cn) (hdb:(cn == ("__debug__" : Str))=false) (ha:PE X arg ta) (J:Inv X pins σ H s) (h:ta σ H R)
 (he:starEach [arg] X.env=(false,eval arg X.env) :: starEach [] X.env:=by rfl) (hpl:(backTo pos (starEach [] X.env)).any (·.1)=false:=by rfl) :
 wpAny (model X.prog X.w) X.A (eval (.Call (.Name cn p) [arg] [] pos) X.env) (fun r s'=>∃ (v:V) (H1:Hp) (a dx:Addr) (u:Value),r = .ref a∧R v H1∧RelV v u∧Inv X pins σ H1 s'∧Fly s'.heap a C dx f u none∧Loose X pins H1 a∧Loose X pins H1 dx) X.xe s:=by
 obtain ⟨mgC,kp,hB,N,fI,mN,mI,TK,i1,i2,s1,s2,n1,n2,⟨⟨name,qual,params,scope,dV,kV,doc,pm,cdv,ct,an,od,osl,p1,p2,p3,p4,lk,hcd,S,l1,l2,hb⟩,ne,nd,nc⟩⟩:=Ex
 refine wpAny_Call_Name_kw (lK J hg mgC ?_ hdb)
 have h':MP ta Rr σ H fun vs H1=>match vs with
  | [v]=>R v H1
  | _=>False:=h
 refine PySem.W.callWith_K (h₀:=X.base) J.ok.mod.kin kp (thn (eV ha jo he pos pins s σ H _ J h') fun us z ⟨vs,H1,J1,r,q⟩=>⟨J1.kIn,?_⟩) he hpl
 obtain ⟨v,u,rfl,rfl,rv⟩:∃ v u,vs=[v]∧us=[u]∧RelV v u:=by
  cases r with
  | nil=>exact q.elim
  | cons a b=>cases b with
   | nil=>exact ⟨_,_,rfl,rfl,a⟩
   | cons _ _=>exact q.elim
 obtain ⟨hp,g,d,tk,os⟩:=z
 refine (TK _ J1.kIn).call PySem.F.excBase_ValueError i2 i1 (J1.kIn _ _ lk) rfl (show 1 ≤ sizeLine by decide) fun h' e hz hm=>?_
 have J2:Inv X pins σ H1 ⟨h',g,d,tk,os⟩:=J1.kept (t':=tk) hm.keeps
 obtain ⟨t,ht,_,_⟩:=hm.there
 refine wpAny_call (G_ (x:=e) lk hcd S l1 l2 ne nd nc hb (hr.make C [u] []) (J2.env0.make C [u] []) (TK _ J2.kIn) PySem.F.store_ValueError s1 s2 n1 n2 hB ht rfl (fun c z=>by cases z) rfl rv fun h3 tk3 dx z1 z2 z3 z4 z5=>?_)
 have k3:∀ b ob,hp.get? b=some ob→h3.get? b=some ob:=fun b ob w=>z5 b ob (fun y=>by
  rw [y] at w
  exact absurd (Heap.lt_size w) (d_.mpr hz)) (hm.keeps _ _ w)
 have J3:Inv X pins σ H1 ⟨h3,g,d,tk3,os⟩:=J1.kept (t':=tk3) k3
 have szz:hp.objs.size ≤ dx:=by
  have e1:e < h'.objs.size:=Heap.lt_size ht
  exact bV hz (bV (kj e1) z2)
 exact ⟨rfl,v,H1,e,dx,u,rfl,q,rv,J3,⟨⟨_,_,z1,rfl⟩,z4,z3,fun T y=>by cases y⟩,Loose.of J1 hz (J1.hok.fresh hz),Loose.of J1 szz (J1.hok.fresh szz)⟩
end
end XC
namespace XC
open PySem PySem.Spec PyProof.Rows L2 My
def CXE (P:Program) (w:World) (fld:Addr→Str):CXT:=fun outer H s E e s'=>∃ (a C dx T:Addr) (u:Value) (H':Hp),e = .ref a∧s'.os=s.os∧AllBare s'.gens∧Un (frs outer) [] H H' s.heap s'.heap∧HOk P w H' s'.heap∧Fly s'.heap a C dx (fld C) u (some T) ∧
 s.heap.objs.size ≤ a∧s.heap.objs.size ≤ dx∧s.heap.objs.size ≤ T∧H' a=none∧H' dx=none∧H' T=none∧E u (some C) H'
theorem CXE.no {P:Program} {w:World} {fld:Addr→Str} {outer:List Env} {H:Hp} {s s':Shared} {e:Value} (h:CXE P w fld outer H s E0 e s'):False:=by
 obtain ⟨_,_,_,_,_,_,_,_,_,_,_,_,_,_,_,_,_,_,z⟩:=h
 exact z
section
variable {P:Program} {w:World} {K:PySem.W.Frag} {mg:Str→Option Value} {base:Heap} {N:List Str} {qual:Str} {scope:Scope} {fa:Addr} {cdv:Value} {A:Around} {outer:List Env} {s₀:Shared} {H₀:Hp} {E:XK} {fld:Addr→Str}
variable {pins:List (Addr × Obj)} {σ:L2.St} {H:Hp} {s:Shared}
theorem Hh {a C dx:Addr} {u:Value} {tb:Option Addr} (I:Inv (fM (CXE P w fld) P w K mg base N qual scope fa cdv A outer s₀ H₀ E) pins σ H s) (F:Fly s.heap a C dx (fld C) u tb)
 (La:Loose (fM (CXE P w fld) P w K mg base N qual scope fa cdv A outer s₀ H₀ E) pins H a) (Ld:Loose (fM (CXE P w fld) P w K mg base N qual scope fa cdv A outer s₀ H₀ E) pins H dx)
 (Lt:∀ T,tb=some T→Loose (fM (CXE P w fld) P w K mg base N qual scope fa cdv A outer s₀ H₀ E) pins H T) (q:E u (some C) H):(fM (CXE P w fld) P w K mg base N qual scope fa cdv A outer s₀ H₀ E).xe (.ref a) s:=by
 show wpAny _ _ (leaving _ (.ref a)) _ _ s
 unfold leaving
 refine wpAny_bind (zf rfl I rfl rfl F La Ld Lt fun s' T I' F' o1 o2 LT=>?_)
 exact ⟨a,C,dx,T,u,H,rfl,I'.os,I'.bare,I'.base,I'.hok,F',La.new,Ld.new,LT.new,La.out,Ld.out,LT.out,q⟩
end
section
variable {X:Cx} {pins:List (Addr × Obj)} {σ:L2.St} {H:Hp} {s:Shared} {cn f:Str} {C I:Addr} {arg:Expr} {ta:TE} {p pos rpos:Pos} {k:Nat}
theorem Hi {Q:Flow→Shared→Prop} {R:V→Hp→Prop} (Ex:Exc X.K X.mg cn f C I) (hr:Room (k + 2) X.A) (hg:Gl X cn) (hdb:(cn == ("__debug__" : Str))=false) (ha:PE X arg ta) (J:Inv X pins σ H s) (h:ta σ H R)
 (hx:∀ (v:V) (H1:Hp) (a dx:Addr) (u:Value) (s':Shared),R v H1→RelV v u→Inv X pins σ H1 s'→Fly s'.heap a C dx f u none→Loose X pins H1 a→Loose X pins H1 dx→X.xe (.ref a) s')
 (he:starEach [arg] X.env=(false,eval arg X.env) :: starEach [] X.env:=by rfl) (hpl:(backTo pos (starEach [] X.env)).any (·.1)=false:=by rfl) :
 wpAny (model X.prog X.w) X.A (exec (.Raise (some (.Call (.Name cn p) [arg] [] pos)) none rpos) X.env) Q X.xe s:=by
 have Ex0:=Ex
 obtain ⟨mgC,kp,hB,N,fI,mN,mI,TK,i1,i2,s1,s2,n1,n2,_⟩:=Ex
 rw [arm_exec_Raise]
 simp only [evalOpt,Option.map]
 refine wpAny_bind (wpAny_standAt (Av (C:=C) (N:=N) (I:=I) (bmB:=bmV) (mN:=mN) (mI:=mI) (B := "ValueError") (newId := "ValueError.__new__") hr.hd (by decide) ?_))
 refine wpAny_bind (wpAny_mono (Hg Ex0 hr hg hdb ha J h he hpl) (fun r s' q=>?_) fun _ _ z=>z)
 obtain ⟨v,H1,a,dx,u,rfl,q,rv,J',F,La,Ld⟩:=q
 refine wpAny_bind (wpAny_standAt (wpAny_pure ?_))
 obtain ⟨vs,sl,e1,e2⟩:=F.obj
 exact ⟨a,_,rfl,TK _ J'.kIn,e1,rfl,⟨vs,rfl,e2⟩,hx v H1 a dx u s' q rv J' F La Ld⟩
end
end XC
namespace XC
open PySem PySem.Spec PyProof.Rows L2 My
section
variable {M:Model} {A:Around} {E:Value→Shared→Prop} {h:Heap} {g:Array GenState} {d:Drawn} {t:Nat} {os:OsState}
variable {C N I a:Addr} {bmB:List Value} {mN mI:Str→Option Value} {B newId:String} {oe:Obj}
theorem Two.match_up {Q:Bool→Shared→Prop} (T:Two h C N I bmB mN mI B newId) (he:h.get? a=some oe) (hc:oe.cls = .ref C) (hbase:bmB.contains (.type "BaseException")=true) (hq:Q true ⟨h,g,d,t,os⟩) :
 wpAny M A (excMatches (.ref a) (.ref I)) Q E ⟨h,g,d,t,os⟩:=by
 obtain ⟨⟨nm,q,bs,sn,sub,ab,col,dd,k0,k1,k2,k3,k5,hC⟩,hn,⟨jnm,jq,NI,jbs,jsn,jsub,jab,jcol,jdd,j0,j1,j2,j3,j5,nid,hI,hm⟩,hb⟩:=T
 have c1:(Value.ref I :: bmB).contains (.type "BaseException")=true:=by rw [dY,hbase,ji]
 have c2:(Value.ref C :: .ref I :: bmB).contains (.ref I)=true:=by simp
 have f:=tc_notTuple
 unfold excMatches
 repeat (first
  | (with_reducible refine wpAny_loadPart_at he ?_;rw [hc])
  | with_reducible refine wpAny_loadPart_at hI ?_
  | with_reducible refine wpAny_loadPart_at hC ?_
  | (with_reducible refine wpAny_isSubtype_exc hI ?_;rw [c1])
  | (with_reducible refine wpAny_isSubtype_exc hC ?_;rw [c2])
  | wp_step)
 exact hq
theorem Two.match_self {Q:Bool→Shared→Prop} (T:Two h C N I bmB mN mI B newId) (he:h.get? a=some oe) (hc:oe.cls = .ref C) (hbase:bmB.contains (.type "BaseException")=true) (hq:Q true ⟨h,g,d,t,os⟩) :
 wpAny M A (excMatches (.ref a) (.ref C)) Q E ⟨h,g,d,t,os⟩:=by
 obtain ⟨⟨nm,q,bs,sn,sub,ab,col,dd,k0,k1,k2,k3,k5,hC⟩,hn,_,hb⟩:=T
 exact wpAny_excMatches_sub_self hC he hc (by rw [dY,hbase,ji]) hq
end
end XC
namespace XC
open PySem PySem.Spec PyProof.Rows L2 My
section
variable {prog:Program} {w:World} {A:Around} {E:Value→Shared→Prop} {h:Heap} {g:Array GenState} {d:Drawn} {t:Nat} {os:OsState}
variable {C N I a D:Addr} {bmB:List Value} {mN mI:Str→Option Value} {B newId:String} {oe oD:Obj}
theorem Two.isi_blt {T0:String} {Q:Value→Shared→Prop} (T:Two h C N I bmB mN mI B newId) (he:h.get? a=some oe) (hc:oe.cls = .ref C) (hty:typeOf (.type T0)=pure (.type "type")) (hb:(Value.ref C :: .ref I :: bmB).contains (.type T0)=true) (hq:Q (.bool true) ⟨h,g,d,t,os⟩) :
 wpAny (model prog w) A (PySem.call (.builtin "isinstance") [.ref a,.type T0]) Q E ⟨h,g,d,t,os⟩:=by
 obtain ⟨⟨nm,q,bs,sn,sub,ab,col,dd,k0,k1,k2,k3,k5,hC⟩,_⟩:=T
 refine call_isinstance_of ?_ (by intro e;cases e)
 unfold Builtin.«isinstance.nested»
 repeat (first
  | (with_reducible refine wpAny_loadPart_at he ?_;rw [hc])
  | (with_reducible refine wpAny_isSubtype_exc hC ?_;rw [hb])
  | wp_step)
 exact hq
end
end XC
namespace XC
open PySem PySem.Spec PyProof.Rows L2 My
def bU (X:Cx) (a:Addr) (oa:Obj) (dx:Addr) (od:Obj):Cx:={ X with A:=X.A.mark (some (.ref a)),calm:=false,pn:=X.pn++[(a,oa),(dx,od)],xe:=fun _ _=>False }
section
variable {X:Cx} {pins:List (Addr × Obj)} {σ:L2.St} {H:Hp} {s:Shared} {a C dx:Addr} {f:Str} {u:Value} {tb:Option Addr}
theorem Ed (I:Inv X pins σ H s) (F:Fly s.heap a C dx f u tb) (La:Loose X pins H a) (Ld:Loose X pins H dx):∃ oa od,s.heap.get? a=some oa∧s.heap.get? dx=some od∧Inv (bU X a oa dx od) pins σ H s:=by
 obtain ⟨vs,sl,e1,_⟩:=F.obj
 obtain ⟨od,es,ep,e2,e3,_⟩:=F.dic
 refine ⟨_,od,e1,e2,⟨⟨I.ok.mod,I.ok.kind,I.ok.glob,I.ok.blt,I.ok.above,I.ok.inj,I.ok.has,I.ok.cab,fun z=>(by cases z),I.ok.frames,I.ok.stk,I.ok.exf,I.ok.bs,I.ok.bsz,I.ok.noex,I.ok.exfs,I.ok.funs,I.ok.frf⟩,I.os,I.bare,I.base,I.loc,I.cell,I.free,I.freeC,fun p hp=>?_,I.hok,I.len⟩⟩
 have hp:p ∈ (X.pn++[(a,(⟨.ref C,some dx,.fields vs,sl⟩:Obj)),(dx,od)])++pins:=hp
 rcases bZ.mp hp with hp | hp
 ·rcases bZ.mp hp with hp | hp
  ·exact I.pin p (bD _ hp)
  ·rcases aZ.mp hp with rfl | hp
   ·exact ⟨e1,La.out,La.loc,fun z=>La.nofs I (aH _ z),fun v z=>by cases z⟩
   ·rw [aU.mp hp]
    exact ⟨e2,Ld.out,Ld.loc,fun z=>Ld.nofs I (aH _ z),fun v z=>by rw [e3] at z;cases z⟩
 ·exact I.pin p (aQ _ hp)
theorem jU {σ':L2.St} {H':Hp} {s':Shared} {oa od:Obj} (ok:X.Ok) (I:Inv (bU X a oa dx od) pins σ' H' s'):Inv X pins σ' H' s':=by
 refine ⟨ok,I.os,I.bare,I.base,I.loc,I.cell,I.free,I.freeC,fun p hp=>?_,I.hok,I.len⟩
 rcases bZ.mp hp with hp | hp
 ·exact I.pin p (bD _ (bD _ hp))
 ·exact I.pin p (aQ _ hp)
end
end XC
namespace XC
open PySem PySem.Spec PyProof.Rows L2 My
section
variable {X:Cx} {pins:List (Addr × Obj)} {σ:L2.St} {H:Hp} {s:Shared} {a C dx T:Addr} {f:Str} {u:Value}
theorem Aw {M:Model} {A:Around} {E:Value→Shared→Prop} {Q:Unit→Shared→Prop} (I:Inv X pins σ H s) (F:Fly s.heap a C dx f u (some T)) (hn:H T=none) (hL:T ≠ X.env.locals) (h1:X.s₀.heap.objs.size ≤ T) (h2:∀ x c,X.env.cells.lookup x=some c→c ≠ T) (h3:∀ p ∈ X.pn++pins,p.1 ≠ T)
 (h:∀ s',Inv X pins σ H s'→Fly s'.heap a C dx f u (some T)→Q () s'):wpAny M A (setFlight (.ref a) none) Q E s:=by
 obtain ⟨⟨vs,sl,ea,e1⟩,hdic,hne,hhd⟩:=F
 obtain ⟨Ta,Td,oT,ts,t1,t2,t3⟩:=hhd T rfl
 unfold setFlight
 refine wpAny_bind (wpAny_field ea rfl e1 ?_)
 rw [if_pos (show ((sS (some T) Value.none Value.ref) != Value.none)=true by simp)]
 refine wpAny_setField t1 t2 (cF.mp t3).1 ?_
 obtain ⟨h',e2⟩:∃ h',h'=s.heap.update T (Obj.mapFields (·.setIfInBounds 3 ((none:Option Addr).elim Value.none fun f=>rawInt f))):=⟨_,rfl⟩
 rw [← e2]
 have o2:∀ b,b ≠ T→h'.get? b=s.heap.get? b:=fun b z=>by rw [e2];exact Heap.get?_update_other _ _ (Ne.symm z)
 have d4:=Obj.data_mapFields t2 (·.setIfInBounds 3 ((none:Option Addr).elim Value.none fun f=>rawInt f))
 have tT:h'.get? T=some (oT.mapFields (·.setIfInBounds 3 ((none:Option Addr).elim Value.none fun f=>rawInt f))):=by
  rw [e2];exact Heap.get?_update_self _ t1 (Obj.isFreed_of_fields d4)
 have I':Inv X pins σ H { s with heap:=h',toks:=s.toks }:=Inv.turned (t':=s.toks) I (fun b o z q=>(o2 b z).trans q) hn hL (.inr h1) h2 h3
 refine h _ I' ⟨⟨vs,sl,(o2 a (Ne.symm Ta)).trans ea,e1⟩,?_,hne,fun T' z=>?_⟩
 ·obtain ⟨o,es,ep,r1,r2⟩:=hdic
  exact ⟨o,es,ep,(o2 dx (Ne.symm Td)).trans r1,r2⟩
 ·cases z
  refine ⟨Ta,Td,_,_,tT,d4,?_⟩
  have:=(cF.mp t3).1
  simp [this]
end
end XC
namespace XC
open PySem PySem.Spec PyProof.Rows L2 My
section
variable {X:Cx} {pins:List (Addr × Obj)} {σ:L2.St} {H:Hp} {s:Shared} {a C I0 dx T D:Addr} {cn f ic n:Str} {u:Value} {i:Nat} {b0:Stmt} {suite:List Stmt} {np hpos:Pos}
theorem name_goes {M:Model} {A:Around} {E:Value→Shared→Prop} {Q:Unit→Shared→Prop} (I:Inv X pins σ H s) (hl:X.env.scope.names.lookup n=some .local)
 (h:∀ s',Inv X pins (aG σ.length none) H s'→Q () s'):wpAny M A (do bindName X.env n .none;unbindBehindTheSuite X.env n hpos) Q E s:=by
 obtain ⟨m,hn,_⟩:=id I.loc
 have cls:(X.env.scope.kind == .class || (X.env.scope.kind == .module && X.env.locals != X.env.globals))=false:=by rw [I.ok.kind];rfl
 refine wpAny_nameGoes hl hn cls fun h' m' hn' hs=>h _ ?_
 have neL:∀ b o,X.s₀.heap.get? b=some o→b ≠ X.env.locals:=fun b o e z=>by
  rw [z] at e
  exact absurd (Heap.lt_size e) (d_.mpr I.ok.above)
 refine ⟨I.ok,I.os,I.bare,⟨fun b o e z1 z2 z3=>(hs.2 b (neL b o e)).trans (I.base.keep b o e z1 z2 z3),fun b o e z1 z2 z3=>?_,I.base.free,fun b o e z1=>?_,I.base.tups,I.base.frzs,I.base.tbls⟩,⟨m',hn',fun j y v e1 e2 _=>?_⟩,fun y c e=>?_,I.free,I.freeC,fun p hp=>?_,fun b ob e=>?_,by rw [aL];exact I.len⟩
 ·obtain ⟨sl,w⟩:=I.base.slot b o e z1 z2 z3
  exact ⟨sl,(hs.2 b (neL b o e)).trans w⟩
 ·obtain ⟨o',w⟩:=I.base.there b o e z1
  exact ⟨o',(hs.2 b (neL b o e)).trans w⟩
 ·rw [cH] at e2
  split at e2 <;> cases e2
 ·obtain ⟨w,z⟩:=I.cell y c e
  exact ⟨w,z.sameBut hs (I.cne y c e)⟩
 ·obtain ⟨e,z1,z2,z3,z4⟩:=I.pin p hp
  exact ⟨(hs.2 p.1 z2).trans e,z1,z2,z3,z4⟩
 ·refine (I.hok b ob e).stay (fun c w hc q=>(hs.2 c fun z=>?_).trans q) (fun _ q=>q) fun _ _ q=>q
  rcases hc with y | y
  ·rw [← y,z,I.free] at e;cases e
  ·rw [z,I.free] at y;cases y
end
end XC
namespace XC
open PySem PySem.Spec PyProof.Rows L2 My
def XP (fld:Addr→Str) (X:Cx) (pins:List (Addr × Obj)) (σ:L2.St) (EX:XK) (e:Value) (s':Shared):Prop:=∃ (a C dx T:Addr) (u:Value) (H':Hp),e = .ref a∧Inv X pins σ H' s'∧Fly s'.heap a C dx (fld C) u (some T)∧Loose X pins H' a∧Loose X pins H' dx∧Loose X pins H' T∧EX u (some C) H'
section
variable {X:Cx} {pins:List (Addr × Obj)} {σ:L2.St} {H:Hp} {s:Shared} {fld:Addr→Str} {k:Nat} {f:Addr} {fd:FuncData} {ps:List Str} {sp:Sp} {dvs:List V} {ds:List Value} {EX:XK}
theorem CG {Q:VK} {us:List Value} {vs:List V} (F:FnOk X.prog X.w X.K X.mg X.base (CXE X.prog X.w fld) k f fd ps sp) (hr:Room k X.A) (hb:Binds X.K fd ps ds) (hd:Vals dvs ds) (J:Inv X pins σ H s) (r:Vals vs us) (h:sp (vs++dvs) H Q EX) :
 wpAny (model X.prog X.w) X.A (PySem.call (.ref f) us) (EP X pins σ Q) (XP fld X pins σ EX) s:=by
 have rr2:=r.append hd
 have hl:(us++ds).length=ps.length:=by
  rw [← rr2.length]
  exact F.len _ _ _ _ h
 refine wpAny_call (codeAny_mono (F.run X.A X.stack s H ⟨us,[]⟩ (us++ds) (vs++dvs) Q EX hr J.env0 (hb s us J.kIn hl) rr2 h) fun rr s' q=>?_)
 cases rr with
 | error e =>
  obtain ⟨a,C,dx,T,u,H',rfl,os,bare,un,hok,Fl,ha,hdx,hT,na,nd,nT,q⟩:=q
  exact ⟨a,C,dx,T,u,H',rfl,Inv.call' (ch:=[]) J os un hok bare (fun b z=>absurd z (by simp)),Fl,Loose.of J ha na,Loose.of J hdx nd,Loose.of J hT nT,q⟩
 | ok fl =>
  cases fl with
  | ret u=>exact J.after q
  | next=>exact q.elim
  | brk=>exact q.elim
  | cont=>exact q.elim
def PSE (fld:Addr→Str) (X:Cx) (st:Stmt) (t:Ends→XK→L2.St→Hp→Prop):Prop :=
 ∀ (pins:List (Addr × Obj)) (s:Shared) (σ:L2.St) (H:Hp) (D:Ends) (EX:XK),Inv X pins σ H s→t D EX σ H→wpAny (model X.prog X.w) X.A (exec st X.env) (SP X pins D) (XP fld X pins σ EX) s
section
variable {x:Str} {p pos pos2:Pos} {e:Expr} {es:List Expr} {ta:TA}
theorem qH (F:FnOk X.prog X.w X.K X.mg X.base (CXE X.prog X.w fld) k f fd ps sp) (hr:Room k X.A) (hg:Gl X x) (hm:X.mg x=some (.ref f)) (hk:PySem.W.keepIn X.K (.ref f)=true) (hb:Binds X.K fd ps ds) (hd:Vals dvs ds) (ha:PA X.nox (e :: es) ta)
 (hdb:(x == ("__debug__" : Str))=false:=by decide) (he:starEach (e :: es) X.env=(false,eval e X.env) :: starEach es X.env:=by rfl) (hpl:(backTo pos (starEach es X.env)).any (·.1)=false:=by rfl) (hs:swapsWith (.Call (.Name x p) (e :: es) [] pos) none pos2.line X.env=pure false:=by rfl) :
 PSE fld X (.Expr (.Call (.Name x p) (e :: es) [] pos) pos2) (fun D EX σ H=>ta σ H fun vs H1=>sp (vs++dvs) H1 (fun _ H2=>D.nx σ H2) EX):=by
 intro pins s σ H D EX J h
 refine wpAny_Expr_any ?_ J.quiet hs
 refine wpAny_Call_Name_kw (lK J hg hm ?_ hdb)
 refine PySem.W.callWith_K (h₀:=X.base) J.ok.mod.kin hk (wpAny_mono (ha pos pins s σ H _ (J.wish _) h) (fun us s1 q=>?_) fun _ _ z=>z.elim) he hpl
 obtain ⟨vs,H1,J1,r,q⟩:=q
 have J1:Inv X pins σ H1 s1:=J1.wish _
 refine ⟨J1.kIn,wpAny_mono (CG F hr hb hd J1 r q) (fun u s2 w=>?_) fun _ _ z=>z⟩
 obtain ⟨v,H2,J2,rv,q2⟩:=w
 exact ⟨σ,H2,J2,q2⟩
end
end
end XC
namespace XC
open PySem PySem.Spec PyProof.Rows L2 My D3
def Va (K:PySem.W.Frag) (mg:Str→Option Value) (fl:List Fl) (G:Gh) (Dn:Ends) (E:XK):Or→Prop
 | .o x=>uI K fl G Dn x
 | .ex c d=>∀ (C:Addr) (v:V) (u:Value) (H':Hp),mg c=some (.ref C)→Same G.H0 H'→RA K ok1 true H' v d→RelV v u→E u (some C) H'
def tDX (K:PySem.W.Frag) (mg:Str→Option Value) (fl:List Fl) (E:XK) (f:FX):TS:=fun Dn σ H=>∃ G ow δ o,Rel K fl G ow σ H δ∧f δ=some o∧Va K mg fl G Dn E o
abbrev DX1 (X:Cx) (E:XK) (fl:List Fl) (s:Stmt) (f:FX):Prop:=PS X s (tDX X.K X.mg fl E f)
abbrev DXs (X:Cx) (E:XK) (fl:List Fl) (s:List Stmt) (f:FX):Prop:=PSs X s (tDX X.K X.mg fl E f)
section
variable {X:Cx} {E:XK} {fl:List Fl} {c:Expr} {st:Stmt} {sts body orelse:List Stmt} {fs:FS} {f g:FX} {ft:FT} {pos:Pos}
theorem PS.nox {t:TS} (h:PS X.nox st t):PS X st t:=fun pins s σ H D I hw=>by
 refine wpAny_mono (h pins s σ H D (I.wish _) hw) (fun fl s' q=>?_) fun _ _ z=>z.elim
 cases fl with
 | next=>obtain ⟨σ',H',J,q⟩:=q;exact ⟨σ',H',J.wish _,q⟩
 | ret u=>obtain ⟨v,σ',H',J,r,q⟩:=q;exact ⟨v,σ',H',J.wish _,r,q⟩
 | brk=>obtain ⟨σ',H',J,q⟩:=q;exact ⟨σ',H',J.wish _,q⟩
 | cont=>obtain ⟨σ',H',J,q⟩:=q;exact ⟨σ',H',J.wish _,q⟩
theorem oO (h:DS1 X.nox fl st fs):DX1 X E fl st (xOf fs):=PS.imp (PS.nox h) fun Dn σ H h=>by
 obtain ⟨G,ow,δ,o,R,hf,q⟩:=h
 obtain ⟨o1,e1,e2⟩:=bind1 hf
 cases e2
 exact ⟨G,ow,δ,o1,R,e1,q⟩
theorem Ax (h:DSs X.nox fl sts fs):DXs X E fl sts (xOf fs):=PSs.imp (PSs.nox h) fun Dn σ H h=>by
 obtain ⟨G,ow,δ,o,R,hf,q⟩:=h
 obtain ⟨o1,e1,e2⟩:=bind1 hf
 cases e2
 exact ⟨G,ow,δ,o1,R,e1,q⟩
theorem jd (h1:DX1 X E fl st f) (h2:DXs X E fl sts g):DXs X E fl (st :: sts) (kI f g):=PSs.imp (uh h1 h2) fun Dn σ H h=>by
 obtain ⟨G,ow,δ,o,R,hf,q⟩:=h
 obtain ⟨o1,e1,e2⟩:=bind1 hf
 refine ⟨G,ow,δ,o1,R,e1,?_⟩
 cases o1 with
 | ex c d=>cases e2;exact q
 | o o1 =>
  cases o1 with
  | nx δ'=>exact fun ow' σ' H' R'=>⟨G,ow',δ',o,R',e2,q⟩
  | rt d=>cases e2;exact uI.nx_imp (fl:=fl) (o:=.rt d) q (fun _ z=>by cases z)
  | bk d=>cases e2;exact uI.nx_imp (fl:=fl) (o:=.bk d) q (fun _ z=>by cases z)
  | ct d=>cases e2;exact uI.nx_imp (fl:=fl) (o:=.ct d) q (fun _ z=>by cases z)
  | ex c f v=>cases e2;exact q
theorem gJ (h1:DX1 X E fl st f):DXs X E fl [st] f:=PSs.imp (wX h1) fun _ _ _ h=>h
theorem zj (hc:DT X.nox fl c ft) (h1:DXs X E fl body f) (h2:DXs X E fl orelse g):DX1 X E fl (.If c body orelse pos) (xIf ft f g):=PS.imp (BZ (PT.nox hc) h1 h2) fun Dn σ H h=>by
 obtain ⟨G,ow,δ,o,R,hf,q⟩:=h
 obtain ⟨t,e1,e2⟩:=bind1 hf
 refine ⟨G,ow,δ,t,R,e1,fun H' s=>?_⟩
 cases t with
 | true=>exact pL ⟨G,ow,δ,o,R.grow s,e2,q⟩
 | false=>exact qg ⟨G,ow,δ,o,R.grow s,e2,q⟩
end
structure ExcF (K:PySem.W.Frag) (mg:Str→Option Value) (fld:Addr→Str) (cn f:Str):Prop where
 ex:∃ C I,Exc K mg cn f C I∧fld C=f
section
variable {P:Program} {w:World} {K:PySem.W.Frag} {mg:Str→Option Value} {base:Heap} {N:List Str} {qual:Str} {scope:Scope} {fa:Addr} {cdv:Value} {A:Around} {outer:List Env} {s₀:Shared} {H₀:Hp} {E:XK} {fld:Addr→Str}
variable {fl:List Fl} {cn f:Str} {arg:Expr} {fe:FE} {p pos rpos:Pos} {k:Nat}
end
def spX (K:PySem.W.Frag) (mg:Str→Option Value) (F:List D→Option Or):Sp:=fun vs H Q E=>∃ ds o,(Tb H∧RAs K ok1 true H vs ds)∧F ds=some o∧match o with
 | .o (.rt d)=>∀ v H',Same H H'→RA K (okN H) false H' v d→Q v H'
 | .o (.ex _ _ d)=>∀ v H',Same H H'→RA K ok1 true H' v d→Q v H'
 | .ex c d=>∀ (C:Addr) (v:V) (u:Value) (H':Hp),mg c=some (.ref C)→Same H H'→RA K ok1 true H' v d→RelV v u→E u (some C) H'
 | _=>False
structure HasX (P:Program) (w:World) (K:PySem.W.Frag) (mg:Str→Option Value) (base:Heap) (fld:Addr→Str) (n:Nat) (x:Str) (ps:List Str) (sp:Sp) (dvs:List V):Prop where
 ex:∃ (f:Addr) (fd:FuncData) (ds:List Value),FnOk P w K mg base (CXE P w fld) n f fd ps sp∧Binds K fd ps ds∧Vals dvs ds∧PySem.W.keepIn K (.ref f)=true∧mg x=some (.ref f)
section
variable {P:Program} {w:World} {K:PySem.W.Frag} {mg:Str→Option Value} {base:Heap} {fld:Addr→Str} {x:Str} {ps N ks:List Str} {st:Stmt} {k n:Nat} {f:FX} {fl:List Fl} {dvs:List V} {sp:Sp}
theorem HasX.mono (h:HasX P w K mg base fld k x ps sp dvs) (l:k ≤ n):HasX P w K mg base fld n x ps sp dvs:=by
 obtain ⟨f,fd,ds,F,b,v,kp,m⟩:=h.ex
 exact ⟨f,fd,ds,F.mono l,b,v,kp,m⟩
theorem KD {fa:Addr} {fd:FuncData} (Fn:FunD K x st fa fd) (S:FnScope N ps (aO st)) (hp:∀ i,i < ps.length→fl[i]? = some .A) (hN:ps.length ≤ N.length)
 (hbody:∀ (fa:Addr) (cdv:Value) (A:Around) (outer:List Env) (s:Shared) (H:Hp) (E:XK),Room k (A.deeper (envOfC x (aO st) s.heap.objs.size fa cdv))→DXs (fM (CXE P w fld) P w K mg base N x (aO st) fa cdv A outer s H E) E fl (gG st) f) :
 FnOk P w K mg base (CXE P w fld) (k + 1) fa fd ps (spX K mg (fnX ps.length (N.length - ps.length) f)):=by
 obtain ⟨oc,od,dV,kV,doc,pm,an,cdv,ct,osl,rfl,lk,hcd⟩:=Fn.ex
 have hlen:∀ vs H Q E,spX K mg (fnX ps.length (N.length - ps.length) f) vs H Q E→vs.length=ps.length:=fun vs H Q E h=>by
  obtain ⟨ds,o,r,hf,_⟩:=h
  unfold fnX at hf
  by_cases z:ds.length=ps.length
  ·rw [r.2.length];exact z
  ·rw [if_neg z] at hf;cases hf
 refine M5 lk hcd S hlen fun A outer s H vs Q E hr h=>?_
 obtain ⟨ds,o,r,hf,q⟩:=h
 refine ⟨_,hbody fa cdv A outer s H E hr,?_⟩
 unfold fnX at hf
 by_cases z:ds.length=ps.length
 ·rw [if_pos z] at hf
  split at hf
  ·next d' e =>
   cases hf
   exact ⟨_,_,_,_,gY ps.length hp z hN r,e,fun v H' s r=>q v H' s r⟩
  ·next δ' e =>
   cases hf
   exact ⟨_,_,_,_,gY ps.length hp z hN r,e,fun ow' σ' H' R'=>q .non H' R'.same0 .non⟩
  ·next c f d e =>
   cases hf
   exact ⟨_,_,_,_,gY ps.length hp z hN r,e,fun v H' s r=>q v H' s r⟩
  ·next c d e =>
   cases hf
   exact ⟨_,_,_,_,gY ps.length hp z hN r,e,fun C v u H' m s r rv=>q C v u H' m s r rv⟩
  ·cases hf
 ·rw [if_neg z] at hf;cases hf
theorem pP (Dd:Dg K mg x st ps) (S:FnScope N ps (aO st)) (hp:∀ i,i < ps.length→fl[i]? = some .A) (hN:ps.length ≤ N.length)
 (hbody:∀ (fa:Addr) (cdv:Value) (A:Around) (outer:List Env) (s:Shared) (H:Hp) (E:XK),Room k (A.deeper (envOfC x (aO st) s.heap.objs.size fa cdv))→DXs (fM (CXE P w fld) P w K mg base N x (aO st) fa cdv A outer s H E) E fl (gG st) f) :
 HasX P w K mg base fld (k + 1) x ps (spX K mg (fnX ps.length (N.length - ps.length) f)) []:=by
 obtain ⟨f,fd,Fn,b,m⟩:=Dd.ex
 exact ⟨f,fd,[],KD Fn S hp hN hbody,b,.nil,Fn.kp,m⟩
end
end XC
namespace XC
open PySem PySem.Spec PyProof.Rows L2 My D3
section
variable {X:Cx} {a C I0 dx D:Addr} {cn f ic n:Str} {oa od:Obj} {i:Nat} {cond a1 b1:Expr} {rest:List Expr} {p p1 p2 pos np hpos rpos:Pos}
def tE (i:Nat) (a:Addr):TE:=fun σ H Q=>σ[i]? = some (some (.ref a))∧Q (.bl true) H
abbrev IsE (S:Cx) (i:Nat) (a:Addr) (cond:Expr):Prop:=PE S cond (tE i a)
theorem Hj {T0:String} (Ex:Exc X.K X.mg cn f C I0) (hty:typeOf (.type T0)=pure (.type "type")) (hb:bmV.contains (.type T0)=true) (hoa:oa.cls = .ref C):lq (bU X a oa dx od) (.builtin "isinstance") (fun xs H Q=>xs=[.ref a,.ty T0]∧Q (.bl true) H):=by
 intro pins s σ H xs us Q I r h
 obtain ⟨rfl,q⟩:=h
 obtain ⟨u1,u2,rfl,r1,r2⟩:∃ u1 u2,us=[u1,u2]∧RelV (.ref a) u1∧RelV (.ty T0) u2:=by
  cases r with
  | cons r1 r=>cases r with
   | cons r2 r=>cases r;exact ⟨_,_,rfl,r1,r2⟩
 cases r1;cases r2
 obtain ⟨mgC,kp,hB,N,fI,mN,mI,TK,_⟩:=Ex
 have T:=TK _ I.kIn
 have ha:=(I.pin (a,oa) (bD _ (aQ _ aJ))).1
 obtain ⟨hp,g,d,tk,os⟩:=s
 have hq:EP (bU X a oa dx od) pins σ Q (.bool true) ⟨hp,g,d,tk,os⟩:=⟨.bl true,H,I,rfl,q⟩
 refine T.isi_blt ha hoa hty ?_ hq
 rw [dY,dY,hb]
 simp
theorem CJ {T0:String} (Ex:Exc X.K X.mg cn f C I0) (hty:typeOf (.type T0)=pure (.type "type")) (hb:bmV.contains (.type T0)=true) (hoa:oa.cls = .ref C) (hic:X.mg ic=none) (hbo:bootBuiltins ic=some (.type T0)) (hgi:Gl X "isinstance") (hmi:X.mg "isinstance" = none) (hg:Gl X ic) (hi:X.N[i]? = some n) (hv:Vis X.env.scope n)
 (hnn:ic ≠ "__name__" := by decide) (hdb:(ic == ("__debug__" : Str))=false:=by decide) (hdn:(n == ("__debug__" : Str))=false:=by decide) (hcn:(n == ("__classdict__" : Str))=false:=by decide) :
 IsE (bU X a oa dx od) i a (.Call (.Name "isinstance" p) [.Name n p1,.Name ic p2] [] pos) :=
 PE.imp (ou (X:=bU X a oa dx od) (Hj Ex hty hb hoa) hgi hmi boot_isinstance (eV (lg (X:=bU X a oa dx od) hi hv hdn hcn) (eV (BR (X:=bU X a oa dx od) (v:=.ty T0) hg hic hbo rfl hnn hdb) jo (by exact dD rfl)) (by exact dD rfl)) (by decide) (by decide) (by exact dD rfl) (by exact nO rfl)) fun σ H Q h=>by
  exact ⟨_,h.1,rfl,h.2⟩
end
end XC
namespace XC
open PySem PySem.Spec PyProof.Rows L2 My D3
section
variable {X:Cx} {fl:List Fl} {fld:Addr→Str} {n i:Nat} {x ic en:Str} {ps cs:List Str} {F:List D→Option Or} {dvs:List V} {dd:List D} {e cond:Expr} {es:List Expr} {fa:FA} {p pos pos2 np rpos hpos tpos:Pos}
end
end XC
namespace XC
open PySem PySem.Spec PyProof.Rows L2 My D3
def KH (es:Array DictEntry):Bool:=es.toList.all fun e=>match e.key with | .str _ _=>true | _=>false
theorem KJ {es:Array DictEntry} (h:KH es=true):StrKeys es:=fun e he=>by
 have:=jg.mp h e (nY.mpr he)
 cases q:e.key with
 | str n t=>exact ⟨n,t,rfl⟩
 | _=>rw [q] at this;cases this
theorem M_ {K:PySem.W.Frag} {N:Addr} {c:Value} {d:Option Addr} {es:Array DictEntry} {n:Nat} {sl:Array (Option Value)} (l:K.lookup N=some ⟨c,d,.dict es n,sl⟩) (ok:KH es=true) (h:Heap) (X:K.In h):h.Ns N (nsFind es) :=
 ⟨_,es,n,X _ _ l,rfl,KJ ok,fun _=>rfl⟩
theorem o8 {K:PySem.W.Frag} {N:Addr} {c:Value} {d:Option Addr} {es:Array DictEntry} {n:Nat} {sl:Array (Option Value)} {x:Str} {r:Option Value} (l:K.lookup N=some ⟨c,d,.dict es n,sl⟩) (e:PySem.W.nsIn K N x=some r):nsFind es x=r:=by
 unfold PySem.W.nsIn at e
 rw [l] at e
 dsimp only at e
 unfold nsFind findBy
 rw [← pG]
 split at e
 ·next en he =>
  cases e
  rw [he];rfl
 ·next he =>
  rw [he]
  split at e
  ·cases e
  ·cases e;rfl
theorem O6 {K:PySem.W.Frag} {h:Heap} {mg:Str→Option Value} {cn f:Str} {C I N NI fI:Addr} (X:K.In h) (G:h.Ns mainGlobals mg)
 {nm q:Str} {bs:List Value} {sn:List Str} {sub:List Value} {ab:Bool} {col:Option Bool} {dd:Option Addr} {k0 k1 k2 k3 k5:Option Value}
 {nm' q':Str} {bs':List Value} {sn':List Str} {sub':List Value} {ab':Bool} {col':Option Bool} {dd':Option Addr} {j0 j1 j2 j3 j5:Option Value} {nid:String}
 {c c':Value} {d d':Option Addr} {es es':Array DictEntry} {n n':Nat} {sl sl':Array (Option Value)}
 {name qual:Str} {params:Arguments} {scope:Scope} {dV kV doc pm cdv ct:Value} {an od:Option Addr} {osl:Array (Option Value)} {p1 p2 p3 p4:Pos}
 (a:PySem.W.nsIn K mainGlobals cn=some (some (.ref C))) (kp:PySem.W.keepIn K (.ref C)=true)
 (lC:K.lookup C=some (excClassObj nm q C N bs (.ref I :: bmV) true sn sub ab col dd k0 k1 k2 k3 k5 "ValueError.__new__"))
 (lI:K.lookup I=some (excClassObj nm' q' I NI bs' bmV true sn' sub' ab' col' dd' j0 j1 j2 j3 j5 nid))
 (lN:K.lookup N=some ⟨c,d,.dict es n,sl⟩) (oN:KH es=true) (lNI:K.lookup NI=some ⟨c',d',.dict es' n',sl'⟩) (oNI:KH es'=true)
 (i1:PySem.W.nsIn K N "__init__" = some (some (.ref fI))) (i2:PySem.W.nsIn K NI "__init__" = some none) (s1:PySem.W.nsIn K N "__setattr__" = some none) (s2:PySem.W.nsIn K NI "__setattr__" = some none)
 (n1:PySem.W.nsIn K N f=some none) (n2:PySem.W.nsIn K NI f=some none) (hB:typeLookup (.type "ValueError") f=pure none)
 (lk:K.lookup fI=some ⟨.type "function", od,.func (PySem.W.fnOf name qual params [.Assign [.Attribute (.Name "self" p1) f p2] (.Name f p3) p4] scope dV kV doc pm an cdv ct),osl⟩) (hcd:PySem.W.codeIn K cdv qual=true)
 (S:FnScope ["self", f] ["self", f] scope) (l1:scope.names.lookup ("self" : Str)=some NameKind.local) (l2:scope.names.lookup f=some NameKind.local)
 (hb:∀ u v,bindArgs (PySem.W.fnOf name qual params [.Assign [.Attribute (.Name "self" p1) f p2] (.Name f p3) p4] scope dV kV doc pm an cdv ct) ⟨[u,v],[]⟩=pure [(("self" : Str),u),(f,v)])
 (ne:("self" : Str) ≠ f) (nd:(f == ("__debug__" : Str))=false) (nc:(f == ("__classdict__" : Str))=false):Exc K mg cn f C I :=
 ⟨PySem.W.mg_of X G a,kp,hB,N,fI,nsFind es,nsFind es',fun h X=>⟨⟨_,_,_,_,_,_,_,_,_,_,_,_,_,X _ _ lC⟩,M_ lN oN h X,⟨_,_,_,_,_,_,_,_,_,_,_,_,_,_,_,X _ _ lI,M_ lNI oNI h X⟩,by rfl⟩,o8 lN i1,o8 lNI i2,o8 lN s1,o8 lNI s2,o8 lN n1,o8 lNI n2,
  ⟨⟨name,qual,params,scope,dV,kV,doc,pm,cdv,ct,an,od,osl,p1,p2,p3,p4,lk,hcd,S,l1,l2,.all fun us hl=>match us,hl with | [u,v],_=>hb u v⟩,ne,nd,nc⟩⟩
end XC
namespace XC
open PySem PySem.Spec PyProof.Rows L2 My D3
structure ExcG (K:PySem.W.Frag) (mg:Str→Option Value) (fld:Addr→Str) (cn f ic:Str):Prop where
 ex:∃ C I,Exc K mg cn f C I∧fld C=f∧mg ic=some (.ref I)
theorem ExcG.fly {K:PySem.W.Frag} {mg:Str→Option Value} {fld:Addr→Str} {cn f ic:Str} (h:ExcG K mg fld cn f ic):ExcF K mg fld cn f:=by
 obtain ⟨C,I,E,hf,_⟩:=h.ex
 exact ⟨C,I,E,hf⟩
section
variable {X:Cx} {fld:Addr→Str} {c f ic:Str} {i:Nat} {cond:Expr}
end
end XC
namespace XC
open PySem PySem.Spec PyProof.Rows L2 My
structure FlyN (h:Heap) (a C dx:Addr) (f:Str) (u:Value) (T L:Addr):Prop where
 obj:∃ vs sl,h.get? a=some ⟨.ref C,some dx,.fields vs,sl⟩∧vs[1]? = some (.ref T)
 dic:h.Ns1 dx (fun y=>if y=f then some u else none)
 ne:dx ≠ a
 hd:T ≠ a∧T ≠ dx∧∃ oT ts,h.get? T=some oT∧oT.data = .fields ts∧ts[3]? = some (rawInt L)
section
variable {M:Model} {A:Around} {E:Value→Shared→Prop} {s:Shared}
theorem uT {base:Heap} {env:Env} {outer:List Env} {L a:Addr} {oe:Obj} {vs:Array Value} {head:Value} {hn:Bool} {E2:Value→Shared→Prop}
 (hfr:A.frames=some (env :: outer)) (hl:s.heap.FunFrames base (env :: outer)) (hf:env.frame=some L) (he:s.heap.get? a=some oe) (hd:oe.data = .fields vs) (hsz:1 < vs.size)
 (h:∀ h' T,s.heap.objs.size ≤ T→h'.get? a=some (oe.mapFields (·.setIfInBounds 1 (.ref T)))→(∃ oT ts,h'.get? T=some oT∧oT.data = .fields ts∧ts[3]? = some (rawInt L)) →
  (∀ b o,b ≠ a→b ∉ frs (env :: outer)→s.heap.get? b=some o→h'.get? b=some o)→(∀ b o,b ≠ a→s.heap.get? b=some o→∃ sl,h'.get? b=some { o with slots:=sl })→E2 (.ref a) { s with heap:=h' }) :
 wpAny M A (do let z ← frameOf env;let pl ← entryPlaceOf L hn;let b ← EntryCells.newEntry head z .none (rawInt L) .none pl;setField (.ref a) 1 b) (fun _ s'=>cameBackBy M A env E2 (.ref a) s') E s:=by
 have nf:a ∉ (env :: outer).filterMap (·.frame):=fun z=>by
  obtain ⟨_,o,ho,q⟩:=hl.mem z
  rw [he] at ho
  cases ho
  exact q vs hd
 refine wpAny_bind (wpAny_frameOf_fun hfr hl hf fun h1 hs=>?_)
 refine wpAny_bind (wpAny_entryPlaceOf fun pl hpl=>?_)
 unfold EntryCells.newEntry newFields
 refine wpAny_bind (wpAny_newObj_type ?_ (hpl.sizeOk5 _ _ _ _ _))
 obtain ⟨ob,eob⟩:∃ ob:Obj,ob = { cls:=.type "traceback", dict:=none,data:=.fields ([head,.ref L,.none,rawInt L,.none]++(if pl.isEmpty then aG 6 Value.none else pl)).toArray }:=⟨_,rfl⟩
 rw [← eob]
 have od:ob.data = .fields ([head,.ref L,.none,rawInt L,.none]++(if pl.isEmpty then aG 6 Value.none else pl)).toArray:=by rw [eob]
 have ofr:ob.isFreed=false:=by rw [eob];rfl
 have a1:h1.get? a=some oe:=(hs.2.1 a nf).trans he
 have a2:(h1.push ob).get? a=some oe:=Heap.get?_push_of_some _ a1
 refine wpAny_setField a2 hd hsz ?_
 have sz:h1.objs.size=s.heap.objs.size:=hs.1
 have ne:h1.objs.size ≠ a:=pZ (Heap.lt_size a1)
 have d3:=Obj.data_mapFields hd (·.setIfInBounds 1 (Value.ref h1.objs.size))
 obtain ⟨h3,e3⟩:∃ h3,h3=(h1.push ob).update a (Obj.mapFields (·.setIfInBounds 1 (Value.ref h1.objs.size))):=⟨_,rfl⟩
 rw [← e3]
 have a3:h3.get? a=some (oe.mapFields (·.setIfInBounds 1 (.ref h1.objs.size))):=by
  rw [e3];exact Heap.get?_update_self _ a2 (Obj.isFreed_of_fields d3)
 have t3:h3.get? h1.objs.size=some ob:=by
  rw [e3];exact (Heap.get?_update_other _ _ ne.symm).trans (Heap.get?_push_size h1 ofr)
 have o3:∀ b,b ≠ a→b ≠ h1.objs.size→h3.get? b=h1.get? b:=fun b z1 z2=>by
  rw [e3,Heap.get?_update_other _ _ (Ne.symm z1)]
  exact Heap.get?_push_ne _ _ _ z2
 unfold cameBackBy
 refine wpAny_bind (wpAny_field a3 d3 (x:=.ref h1.objs.size) (by simp [hsz]) ?_)
 rw [if_neg (show ¬ ((Value.ref h1.objs.size == Value.none)=true) by simp)]
 unfold setFlight
 simp only [hf]
 refine wpAny_bind (wpAny_field a3 d3 (x:=.ref h1.objs.size) (by simp [hsz]) ?_)
 rw [if_pos (show (Value.ref h1.objs.size != Value.none)=true by simp)]
 have d4:=Obj.data_mapFields od (·.setIfInBounds 3 ((some L:Option Addr).elim Value.none fun f=>rawInt f))
 refine wpAny_setField t3 od (by simp only [bB,bW,cA,dU] <;> omega) ?_
 obtain ⟨h4,e4⟩:∃ h4,h4=h3.update h1.objs.size (Obj.mapFields (·.setIfInBounds 3 ((some L:Option Addr).elim Value.none fun f=>rawInt f))):=⟨_,rfl⟩
 rw [← e4]
 have o4:∀ b,b ≠ h1.objs.size→h4.get? b=h3.get? b:=fun b z=>by rw [e4];exact Heap.get?_update_other _ _ (Ne.symm z)
 refine h h4 h1.objs.size (qb sz.symm) ((o4 a (Ne.symm ne)).trans a3) ⟨_,_,by rw [e4];exact Heap.get?_update_self _ t3 (Obj.isFreed_of_fields d4),d4,?_⟩ (fun b o z1 z2 q=>?_) fun b o z1 q=>?_
 ·rcases hpl with rfl | ⟨_,_,_,_,_,_,_,rfl⟩ <;> simp
 ·have q1:h1.get? b=some o:=(hs.2.1 b z2).trans q
  have z3:b ≠ h1.objs.size:=bR (Heap.lt_size q1)
  exact (o4 b z3).trans ((o3 b z1 z3).trans q1)
 ·obtain ⟨sl,q1⟩:=hs.2.2 b o q
  have z3:b ≠ h1.objs.size:=bR (Heap.lt_size q1)
  exact ⟨sl,(o4 b z3).trans ((o3 b z1 z3).trans q1)⟩
theorem Ef {base:Heap} {env:Env} {outer:List Env} {L a C dx:Addr} {f:Str} {u:Value} {tb:Option Addr} {E2:Value→Shared→Prop}
 (hfr:A.frames=some (env :: outer)) (hl:s.heap.FunFrames base (env :: outer)) (hf:env.frame=some L) (F:Fly s.heap a C dx f u tb) (nd:dx ∉ frs (env :: outer))
 (h:∀ h' T,s.heap.objs.size ≤ T→FlyN h' a C dx f u T L→(∀ b o,b ≠ a→tb ≠ some b→b ∉ frs (env :: outer)→s.heap.get? b=some o→h'.get? b=some o) →
  (∀ b o,b ≠ a→tb ≠ some b→s.heap.get? b=some o→∃ sl,h'.get? b=some { o with slots:=sl })→E2 (.ref a) { s with heap:=h' }) :
 wpAny M A (noteFrame (.ref a) env) (fun _ s'=>cameBackBy M A env E2 (.ref a) s') E s:=by
 obtain ⟨⟨vs,sl,ea,e1⟩,hdic,hne,hhd⟩:=F
 have hsz:1 < vs.size:=(cF.mp e1).1
 have dlt:dx < s.heap.objs.size:=by
  obtain ⟨o,_,_,q,_⟩:=hdic
  exact Heap.lt_size q
 unfold noteFrame
 simp only [hf]
 cases tb with
 | none =>
  refine wpAny_bind (wpAny_field ea rfl e1 ?_)
  rw [if_neg (by decide)]
  refine uT hfr hl hf ea rfl hsz fun h' T hT q1 q2 q3 q4=>h h' T hT ⟨⟨_,sl,q1,by simp [hsz]⟩,?_,hne,?_⟩ (fun b o z1 _ z2 z3=>q3 b o z1 z2 z3) fun b o z1 _ z2=>q4 b o z1 z2
  ·obtain ⟨o,es,ep,r1,r2⟩:=hdic
   exact ⟨o,es,ep,q3 dx o hne nd r1,r2⟩
  ·refine ⟨fun z=>?_,fun z=>?_,q2⟩
   ·rw [z] at hT
    exact absurd (Heap.lt_size ea) (d_.mpr hT)
   ·rw [z] at hT
    exact absurd dlt (d_.mpr hT)
 | some T =>
  obtain ⟨Ta,Td,oT,ts,t1,t2,t3⟩:=hhd T rfl
  refine wpAny_bind (wpAny_field ea rfl e1 ?_)
  rw [if_pos (show ((sS (some T) Value.none Value.ref) != Value.none)=true by simp)]
  refine wpAny_bind (wpAny_field t1 t2 t3 ?_)
  rw [if_neg (show ¬ ((Value.none == rawInt L)=true) by simp [rawInt])]
  refine wpAny_bind (wpAny_setField t1 t2 (cF.mp t3).1 ?_)
  obtain ⟨h2,e2⟩:∃ h2,h2=s.heap.update T (Obj.mapFields (·.setIfInBounds 3 Value.none)):=⟨_,rfl⟩
  rw [← e2]
  have o2:∀ b,b ≠ T→h2.get? b=s.heap.get? b:=fun b z=>by rw [e2];exact Heap.get?_update_other _ _ (Ne.symm z)
  have sz2:h2.objs.size=s.heap.objs.size:=by rw [e2];exact Heap.size_update ..
  have nT:T ∉ frs (env :: outer):=fun z=>by
   obtain ⟨_,o,ho,q⟩:=hl.mem z
   rw [t1] at ho
   cases ho
   exact q ts t2
  have hl2:h2.FunFrames base (env :: outer):=hl.of_keeps fun b o hb q=>⟨o,(o2 b fun z=>by rw [z,t1] at hb;cases hb;exact q ts t2).trans hb,rfl⟩
  refine uT (s:={ s with heap:=h2 }) hfr hl2 hf ((o2 a (Ne.symm Ta)).trans ea) rfl hsz fun h' T' hT q1 q2 q3 q4=>h h' T' (by rw [← sz2];exact hT) ⟨⟨_,sl,q1,by simp [hsz]⟩,?_,hne,?_⟩
   (fun b o z1 z0 z2 z3=>q3 b o z1 z2 ((o2 b fun z=>z0 (by rw [z])).trans z3)) fun b o z1 z0 z2=>q4 b o z1 ((o2 b fun z=>z0 (by rw [z])).trans z2)
  ·obtain ⟨o,es,ep,r1,r2⟩:=hdic
   exact ⟨o,es,ep,q3 dx o hne nd ((o2 dx (Ne.symm Td)).trans r1),r2⟩
  ·have hT:s.heap.objs.size ≤ T':=by rw [← sz2];exact hT
   refine ⟨fun z=>?_,fun z=>?_,q2⟩
   ·rw [z] at hT
    exact absurd (Heap.lt_size ea) (d_.mpr hT)
   ·rw [z] at hT
    exact absurd dlt (d_.mpr hT)
end
end XC
namespace XC
open PySem PySem.Spec PyProof.Rows L2 My
section
variable {X:Cx} {pins:List (Addr × Obj)} {σ:L2.St} {H H':Hp} {s:Shared}
theorem Eh {M:Model} {A:Around} {E:Value→Shared→Prop} {a C dx:Addr} {f:Str} {u:Value} {tb:Option Addr} {E2:Value→Shared→Prop} (hA:A.frames=X.A.frames) (I:Inv X pins σ H s) (hst:X.stack=X.env :: X.outer) (hfr:X.env.frame=some X.env.locals)
 (F:Fly s.heap a C dx f u tb) (La:Loose X pins H a) (Ld:Loose X pins H dx) (Lt:∀ T,tb=some T→Loose X pins H T)
 (h:∀ s' T,Inv X pins σ H s'→FlyN s'.heap a C dx f u T X.env.locals→s'.os=s.os→s'.gens=s.gens→Loose X pins H T→E2 (.ref a) s') :
 wpAny M A (noteFrame (.ref a) X.env) (fun _ s'=>cameBackBy M A X.env E2 (.ref a) s') E s:=by
 have fl:=I.stack
 rw [hst] at fl
 have fe:frs (X.env :: X.outer)=X.env.locals :: X.fs:=by unfold frs;rw [fP,hfr];rfl
 refine Ef (hA.trans (I.ok.frames.trans (by rw [hst]))) fl hfr F (by rw [fe];exact Ld.nofs I) fun h' T hT F' k1 k2=>?_
 have LT:Loose X pins H T:=Loose.of I hT (I.hok.fresh hT)
 refine h _ T ?_ F' rfl rfl LT
 rw [fe] at k1
 have ex:∀ b,H b ≠ none→b ≠ a∧tb ≠ some b∧b ∉ X.env.locals :: X.fs:=fun b hb=>by
  refine ⟨fun z=>hb (by rw [z];exact La.out),fun z=>hb (Lt b z).out,fun z=>hb ?_⟩
  exact I.stkFree b (by rw [hst,fe];exact z)
 obtain ⟨m,⟨o,es,ep,ho,r⟩,_⟩:=id I.loc
 obtain ⟨sl,hL⟩:=k2 _ o (Ne.symm La.loc) (fun z=>(Lt _ z).loc rfl) ho
 refine I.step (g':=s.gens) (d':=s.drawn) (t':=s.toks) (ch:=a :: tb.toList) (fun b hb=>?_) (fun b o z1 z2 z3 q _=>k1 b o (fun z=>z3 (by rw [z];exact aJ)) (fun z=>z3 (aH _ (by rw [z];exact aU.mpr rfl))) (fun z=>(aZ.mp z).elim z1 z2) q)
  (fun b o z1 z2 z3 q _=>k2 b o (fun z=>z3 (by rw [z];exact aJ)) (fun z=>z3 (aH _ (by rw [z];exact aU.mpr rfl))) q) (fun _ _ _ _ z=>z)
  (fun b o z3 q=>let ⟨_,w⟩:=k2 b o (fun z=>z3 (by rw [z];exact aJ)) (fun z=>z3 (aH _ (by rw [z];exact aU.mpr rfl))) q;⟨_,w⟩) (fun _ _ e=>e) (fun _ _ _ e=>e) (fun _ _ _ e=>e) (fun m' hm=>?_) (fun b w e=>?_) I.bare
 ·rcases aZ.mp hb with e | e
  ·rw [e];exact ⟨.inr La.new,La.loc,La.cel,La.pin⟩
  ·cases tb with
   | none=>cases e
   | some T0 =>
    have e:b=T0:=by simpa using e
    have:=Lt T0 rfl
    rw [e];exact ⟨.inr this.new,this.loc,this.cel,this.pin⟩
 ·obtain ⟨o',es',ep',ho',r'⟩:=hm
  rw [ho] at ho';cases ho'
  exact ⟨_,es',ep',hL,r'⟩
 ·refine (I.hok b w e).stay (fun c v hc q=>?_) (fun _ q=>q) fun _ _ q=>q
  obtain ⟨z1,z2,z3⟩:=ex c (by
   rcases hc with z | z
   ·rw [z,e];simp
   ·rw [z];simp)
  exact k1 c v z1 z2 z3 q
theorem flight_again {M:Model} {A:Around} {E:Value→Shared→Prop} {Q:Unit→Shared→Prop} {a C dx T L:Addr} {f:Str} {u:Value} (fo:Option Addr) (I:Inv X pins σ H s) (F:FlyN s.heap a C dx f u T L) (LT:Loose X pins H T)
 (h:∀ s',Inv X pins σ H s'→(∃ vs sl,s'.heap.get? a=some ⟨.ref C,some dx,.fields vs,sl⟩∧vs[1]? = some (.ref T))→s'.heap.Ns1 dx (fun y=>if y=f then some u else none)→dx ≠ a →
  (T ≠ a∧T ≠ dx∧∃ oT ts,s'.heap.get? T=some oT∧oT.data = .fields ts∧ts[3]? = some (fo.elim Value.none fun f=>rawInt f))→Q () s'):wpAny M A (setFlight (.ref a) fo) Q E s:=by
 obtain ⟨⟨vs,sl,ea,e1⟩,hdic,hne,Ta,Td,oT,ts,t1,t2,t3⟩:=F
 unfold setFlight
 refine wpAny_bind (wpAny_field ea rfl e1 ?_)
 rw [if_pos (show ((Value.ref T) != Value.none)=true by simp)]
 refine wpAny_setField t1 t2 (cF.mp t3).1 ?_
 obtain ⟨h',e2⟩:∃ h',h'=s.heap.update T (Obj.mapFields (·.setIfInBounds 3 (fo.elim Value.none fun f=>rawInt f))):=⟨_,rfl⟩
 rw [← e2]
 have o2:∀ b,b ≠ T→h'.get? b=s.heap.get? b:=fun b z=>by rw [e2];exact Heap.get?_update_other _ _ (Ne.symm z)
 have d4:=Obj.data_mapFields t2 (·.setIfInBounds 3 (fo.elim Value.none fun f=>rawInt f))
 have tT:h'.get? T=some (oT.mapFields (·.setIfInBounds 3 (fo.elim Value.none fun f=>rawInt f))):=by
  rw [e2];exact Heap.get?_update_self _ t1 (Obj.isFreed_of_fields d4)
 have I':Inv X pins σ H { s with heap:=h',toks:=s.toks }:=Inv.turned (t':=s.toks) I (fun b o z q=>(o2 b z).trans q) LT.out LT.loc (.inr LT.new) LT.cel LT.pin
 refine h _ I' ⟨vs,sl,(o2 a (Ne.symm Ta)).trans ea,e1⟩ ?_ hne ⟨Ta,Td,_,_,tT,d4,?_⟩
 ·obtain ⟨o,es,ep,r1,r2⟩:=hdic
  exact ⟨o,es,ep,(o2 dx (Ne.symm Td)).trans r1,r2⟩
 ·have:=(cF.mp t3).1
  simp [this]
theorem uU {M:Model} {A:Around} {E:Value→Shared→Prop} {Q:Unit→Shared→Prop} {a C dx T:Addr} {f:Str} {u:Value} (hfr:X.env.frame=some X.env.locals) (F:FlyN s.heap a C dx f u T X.env.locals) (h:Q () s):wpAny M A (noteFrame (.ref a) X.env) Q E s:=by
 obtain ⟨⟨vs,sl,ea,e1⟩,hdic,hne,Ta,Td,oT,ts,t1,t2,t3⟩:=F
 unfold noteFrame
 simp only [hfr]
 refine wpAny_bind (wpAny_field ea rfl e1 ?_)
 rw [if_pos (show ((Value.ref T) != Value.none)=true by simp)]
 refine wpAny_bind (wpAny_field t1 t2 t3 ?_)
 rw [if_pos (show (rawInt X.env.locals == rawInt X.env.locals)=true by simp)]
 exact wpAny_pure h
def XPX (X:Cx) (fld:Addr→Str) (E:XK):Value→Shared→Prop:=fun e s=>∃ pins σ H a C dx u,e = .ref a∧Inv X pins σ H s∧Loose X pins H a∧Loose X pins H dx∧E u (some C) H ∧
 ((∃ tb,Fly s.heap a C dx (fld C) u tb∧∀ T,tb=some T→Loose X pins H T)∨∃ T,FlyN s.heap a C dx (fld C) u T X.env.locals∧Loose X pins H T)
theorem Hl {fld:Addr→Str} {E:XK} (hst:X.stack=X.env :: X.outer) (hfr:X.env.frame=some X.env.locals):PassesOwn (model X.prog X.w) X.A X.env (XPX X fld E):=by
 rintro e s ⟨pins,σ,H,a,C,dx,u,rfl,I,La,Ld,q,F⟩
 rcases F with ⟨tb,F,Lt⟩ | ⟨T,F,LT⟩
 ·exact Eh rfl I hst hfr F La Ld Lt fun s' T I' F' _ _ LT=>⟨pins,σ,H,a,C,dx,u,rfl,I',La,Ld,q,.inr ⟨T,F',LT⟩⟩
 ·refine uU hfr F ?_
  unfold cameBackBy
  obtain ⟨vs,sl,ea,e1⟩:=F.obj
  refine wpAny_bind (wpAny_field ea rfl e1 ?_)
  rw [if_neg (show ¬ ((Value.ref T == Value.none)=true) by simp)]
  refine flight_again _ I F LT fun s' I' o1 o2 o3 o4=>⟨pins,σ,H,a,C,dx,u,rfl,I',La,Ld,q,.inr ⟨T,⟨o1,o2,o3,?_⟩,LT⟩⟩
  rw [hfr] at o4
  exact o4
end
section
variable {P:Program} {w:World} {K:PySem.W.Frag} {mg:Str→Option Value} {base:Heap} {N:List Str} {qual:Str} {scope:Scope} {fa:Addr} {cdv:Value} {A:Around} {outer:List Env} {s₀:Shared} {H₀:Hp} {E:XK} {fld:Addr→Str}
theorem O7 {e:Value} {s:Shared} (h:XPX (fM (CXE P w fld) P w K mg base N qual scope fa cdv A outer s₀ H₀ E) fld E e s):(fM (CXE P w fld) P w K mg base N qual scope fa cdv A outer s₀ H₀ E).xe e s:=by
 obtain ⟨pins,σ,H,a,C,dx,u,rfl,I,La,Ld,q,F⟩:=h
 rcases F with ⟨tb,F,Lt⟩ | ⟨T,F,LT⟩
 ·exact Hh I F La Ld Lt q
 ·show wpAny _ _ (leaving _ (.ref a)) _ _ s
  unfold leaving
  refine wpAny_bind (uU (X:=fM (CXE P w fld) P w K mg base N qual scope fa cdv A outer s₀ H₀ E) rfl F ?_)
  refine flight_again none I F LT fun s' I' o1 o2 o3 o4=>?_
  exact ⟨a,C,dx,T,u,H,rfl,I'.os,I'.bare,I'.base,I'.hok,⟨o1,o2,o3,fun T' z=>by cases z;exact o4⟩,La.new,Ld.new,LT.new,La.out,Ld.out,LT.out,q⟩
end
end XC
namespace XC
open PySem PySem.Spec PyProof.Rows L2 My D3
section
variable {X:Cx} {E:XK} {fl:List Fl} {body:List Stmt} {fx:FX} {pos:Pos}
theorem PI.nox {tg iter:Expr} {t:TI} (h:PI X.nox tg iter t):PI X tg iter t:=fun pins s σ H R I hw =>
 wpAny_mono (h pins s σ H R (I.wish _) hw) (fun v s1 q=>wpAny_mono q (fun itv s2 q=>by
  obtain ⟨it,fp,tn,J,H',e,I',T,t0,fo,r⟩:=q
  exact ⟨it,fp,tn,J,H',e,I'.wish _,T,t0,fun b hb=>fo b hb,r⟩) fun _ _ z=>z.elim) fun _ _ z=>z.elim
theorem PG.nox {tg:Expr} {t:TG} (h:PG X.nox tg t):PG X tg t:=fun pins s σ H v u Q I r hw =>
 wpAny_mono (h pins s σ H v u Q (I.wish _) r hw) (fun _ s' q=>by
  obtain ⟨σ',H',I',q⟩:=q
  exact ⟨σ',H',I'.wish _,q⟩) fun _ _ z=>z.elim
theorem O8 {tg iter:Expr} {L:List Nat} {T:List Nat} {fi:FA} {g:FG} (hp:PassesOwn (model X.prog X.w) X.A X.env X.xe) (hc:X.calm=true) (hi:DI X.nox fl L tg iter fi) (hg:DG X.nox (lock L fl) T tg g) (hb:DXs X E (lock L fl) body fx)
 (hs:∀ x,foldedSetIterable iter X.env x=pure x:=by intro _;rfl):DX1 X E fl (.For tg iter body [] pos) (KC fi g fx):=PS.imp (Gi hp hc (PI.nox hi) (PG.nox hg) hb hs) fun Dn σ H h=>by
 obtain ⟨G,ow,δ,o,R0,hf,q⟩:=h
 obtain ⟨l,e1,e2⟩:=bind1 hf
 refine ⟨G,ow,δ,l,R0,e1,fun J H1 s wk=>?_⟩
 have R1:=R0.grow s
 have RL:=R1.lock L
 refine ⟨fun i m σ' H'=>m=l.length - i∧∃ ow' δ',Rel X.K (lock L fl) (ghL (lock L fl) G ow H1) ow' σ' H' δ'∧mR g fx (l.drop i) δ'=some o,⟨_,rfl,ow,δ,RL,by simpa using e2⟩,?_⟩
 rintro i m σ' H' ⟨rfl,ow',δ',R',hd⟩
 have kept:∀ b o,H1 b=some o→(∀ i,ow i=some b→i ∈ L)→(∀ i,b ∉ ow.n i)→H' b=some o:=fun b o hb hl hn=>R'.s1 b o (by
  rw [jT]
  ·exact hb
  ·rintro (⟨j,e,hj⟩ | ⟨j,e,_⟩)
   ·exact (xO hj).2 (hl j e)
   ·exact hn j e)
 obtain ⟨w1,w2⟩:=wk H' kept i
 by_cases hlt:i < l.length
 ·have hdrop:l.drop i=l[i] :: l.drop (i + 1):=jk hlt
  rw [hdrop,mR] at hd
  obtain ⟨δ1,e3,hd⟩:=bind1 hd
  obtain ⟨o1,e4,hd⟩:=bind1 hd
  obtain ⟨go,yl⟩:=w1 l[i] (aV hlt)
  refine .inr ⟨go,fun σ' H'=>∃ ow' δ',Rel X.K (lock L fl) (ghL (lock L fl) G ow H1) ow' σ' H' δ'∧mR g fx (l.drop (i + 1)) δ'=some o,fun σ2 H2 ⟨ow2,δ2,R2,h2⟩=>⟨l.length - (i + 1),by omega,rfl,ow2,δ2,R2,h2⟩,fun x H3 hy=>?_⟩
  obtain ⟨s3,r3⟩:=yl x H3 hy
  have sub:∀ b,okA ow b∧H1 b ≠ none→okA ow' b:=fun b z=>by
   obtain ⟨z1,z2⟩:=z
   refine ⟨fun j e=>?_,fun j e=>?_⟩
   ·rcases (R'.own j b e).2.1 with ⟨_,hz⟩ | ⟨hz,_⟩
    ·have:(ghL (lock L fl) G ow H1).HF b=H1 b:=jT (by rintro (⟨j',e',_⟩ | ⟨j',e',_⟩);exact z1.1 j' e';exact z1.2 j' e')
     rw [this] at hz
     exact z2 hz
    ·have e':ow' j=ow j:=R'.pin j hz
     rw [e'] at e
     exact z1.1 j e
   ·rcases (R'.nt j b e).2.2 with ⟨_,hz⟩ | w
    ·have:(ghL (lock L fl) G ow H1).HF b=H1 b:=jT (by rintro (⟨j',e',_⟩ | ⟨j',e',_⟩);exact z1.1 j' e';exact z1.2 j' e')
     rw [this] at hz
     exact z2 hz
    ·have e':ow'.n j=ow.n j:=R'.np j w
     rw [e'] at e
     exact z1.2 j e
  refine ⟨_,ow',δ',_,δ1,R'.grow s3,r3.imp sub (fun z=>z),e3,fun σ4 R4 _=>⟨_,ow',δ1,o1,R4,e4,?_⟩⟩
  ·cases o1 with
   | ex c v=>cases hd;exact q
   | o o1 =>
    cases o1 with
    | nx δ2=>exact fun ow2 σ2 H2 R2=>⟨ow2,δ2,R2,hd⟩
    | ct δ2=>exact fun ow2 σ2 H2 R2=>⟨ow2,δ2,R2,hd⟩
    | bk δ2=>cases hd;exact fun ow2 σ2 H2 R2=>q ow2 σ2 H2 (R1.unlock R2)
    | rt d=>cases hd;exact q
    | ex c f v=>cases hd;exact q
 ·have e:l.drop i=[]:=jE (by omega)
  rw [e,mR] at hd
  cases hd
  exact .inl ⟨w2 (by omega),q ow' σ' H' (R1.unlock R')⟩
end
def cxL (P:Program) (w:World) (K:PySem.W.Frag) (mg:Str→Option Value) (base:Heap) (N:List Str) (qual:Str) (scope:Scope) (fa:Addr) (cdv:Value) (A:Around) (outer:List Env) (s₀:Shared) (H₀:Hp) (E:XK) (fld:Addr→Str):Cx :=
 (fM (CXE P w fld) P w K mg base N qual scope fa cdv A outer s₀ H₀ E).wish (XPX (fM (CXE P w fld) P w K mg base N qual scope fa cdv A outer s₀ H₀ E) fld E)
section
variable {P:Program} {w:World} {K:PySem.W.Frag} {mg:Str→Option Value} {base:Heap} {N:List Str} {qual:Str} {scope:Scope} {fa:Addr} {cdv:Value} {A:Around} {outer:List Env} {s₀:Shared} {H₀:Hp} {E:XK} {fld:Addr→Str}
variable {fl:List Fl} {cn f:Str} {arg:Expr} {fe:FE} {p pos rpos:Pos} {k:Nat}
theorem R6:PassesOwn (model (cxL P w K mg base N qual scope fa cdv A outer s₀ H₀ E fld).prog (cxL P w K mg base N qual scope fa cdv A outer s₀ H₀ E fld).w) (cxL P w K mg base N qual scope fa cdv A outer s₀ H₀ E fld).A (cxL P w K mg base N qual scope fa cdv A outer s₀ H₀ E fld).env (cxL P w K mg base N qual scope fa cdv A outer s₀ H₀ E fld).xe :=
 Hl (X:=fM (CXE P w fld) P w K mg base N qual scope fa cdv A outer s₀ H₀ E) rfl rfl
theorem Ei (Ex:ExcF K mg fld cn f) (hr:Room (k + 2) (A.deeper (envOfC qual scope s₀.heap.objs.size fa cdv)))
 (ha:DE (cxL P w K mg base N qual scope fa cdv A outer s₀ H₀ E fld).nox fl .P arg fe) (hg:Gl (cxL P w K mg base N qual scope fa cdv A outer s₀ H₀ E fld) cn:=by rfl) (hdb:(cn == ("__debug__" : Str))=false:=by decide)
 (he:starEach [arg] (cxL P w K mg base N qual scope fa cdv A outer s₀ H₀ E fld).env=(false,eval arg (cxL P w K mg base N qual scope fa cdv A outer s₀ H₀ E fld).env) :: starEach [] (cxL P w K mg base N qual scope fa cdv A outer s₀ H₀ E fld).env:=by exact dD rfl)
 (hpl:(backTo pos (starEach [] (cxL P w K mg base N qual scope fa cdv A outer s₀ H₀ E fld).env)).any (·.1)=false:=by exact nO rfl) :
 DX1 (cxL P w K mg base N qual scope fa cdv A outer s₀ H₀ E fld) E fl (.Raise (some (.Call (.Name cn p) [arg] [] pos)) none rpos) (rQ cn fe):=by
 intro pins s σ H Dn J h
 obtain ⟨C,I0,Ex,hC⟩:=Ex.ex
 obtain ⟨G,ow,δ,o,R,hf,q⟩:=h
 obtain ⟨d,e1,e2⟩:=bind1 hf
 cases e2
 refine Hi (R:=fun v H1=>Same H H1∧RA K ok1 true H1 v d) Ex hr hg hdb (PE.nox ha) J ⟨G,ow,δ,d,R,e1,fun v H' s r=>⟨s,r⟩⟩ (fun v H1 a dx u s' r rv J' Fl La Ld=>?_) he hpl
 rw [← hC] at Fl
 exact ⟨pins,σ,H1,a,C,dx,u,rfl,J'.unwish,⟨La.new,La.loc,La.cel,La.pin,La.out⟩,⟨Ld.new,Ld.loc,Ld.cel,Ld.pin,Ld.out⟩,q C v u H1 Ex.mgC (R.same0.trans r.1) r.2 rv,.inl ⟨none,Fl,fun T z=>by cases z⟩⟩
end
section
variable {P:Program} {w:World} {K:PySem.W.Frag} {mg:Str→Option Value} {base:Heap} {fld:Addr→Str} {x:Str} {ps N ks:List Str} {st:Stmt} {k n:Nat} {f:FX} {fl:List Fl} {dvs:List V} {sp:Sp}
theorem O9 {fa:Addr} {cdv:Value} {A:Around} {outer:List Env} {s:Shared} {H:Hp} {E:XK} {sts:List Stmt} {t:TS} (h:PSs (cxL P w K mg base N x (aO st) fa cdv A outer s H E fld) sts t):PSs (fM (CXE P w fld) P w K mg base N x (aO st) fa cdv A outer s H E) sts t:=fun pins s1 σ H1 D I hw =>
 wpAny_mono (h pins s1 σ H1 D (I.wish _) hw) (fun fl s' q=>SP.unwish q) fun e s' z=>O7 z
theorem KN (Dd:Dg K mg x st ps) (S:FnScope N ps (aO st)) (hp:∀ i,i < ps.length→fl[i]? = some .A) (hN:ps.length ≤ N.length)
 (hbody:∀ (fa:Addr) (cdv:Value) (A:Around) (outer:List Env) (s:Shared) (H:Hp) (E:XK),Room k (A.deeper (envOfC x (aO st) s.heap.objs.size fa cdv))→DXs (cxL P w K mg base N x (aO st) fa cdv A outer s H E fld) E fl (gG st) f) :
 HasX P w K mg base fld (k + 1) x ps (spX K mg (fnX ps.length (N.length - ps.length) f)) [] :=
 pP Dd S hp hN fun fa cdv A outer s H E hr=>O9 (hbody fa cdv A outer s H E hr)
end
end XC
namespace XC
open PySem PySem.Spec PyProof.Rows L2 My D3
section
variable {P:Program} {w:World} {K:PySem.W.Frag} {mg:Str→Option Value} {base:Heap} {N:List Str} {qual:Str} {scope:Scope} {fa:Addr} {cdv:Value} {A:Around} {outer:List Env} {s₀:Shared} {H₀:Hp} {E:XK} {fld:Addr→Str}
variable {fl:List Fl} {n:Nat} {x:Str} {ps:List Str} {F:List D→Option Or} {dvs:List V} {dd:List D} {e:Expr} {es:List Expr} {fs:FA} {p pos pos2:Pos}
end
end XC
namespace XC
open PySem PySem.Spec PyProof.Rows L2 My D3
section
variable {X:Cx} {pins:List (Addr × Obj)} {σ:L2.St} {H:Hp} {s:Shared} {fld:Addr→Str} {k:Nat} {f:Addr} {fd:FuncData} {ps:List Str} {sp:Sp} {dvs:List V} {ds:List Value} {EX:XK}
variable {x y:Str} {p np pos pos2:Pos} {e:Expr} {es:List Expr} {ta:TA} {i:Nat}
end
end XC
namespace XC
open PySem PySem.Spec PyProof.Rows L2 My D3
section
variable {X:Cx} {fl:List Fl} {fld:Addr→Str} {n i j:Nat} {x y ic en:Str} {ps cs:List Str} {F:List D→Option Or} {dvs:List V} {dd:List D} {e:Expr} {es:List Expr} {fa:FA} {p yp pos pos2 np hpos tpos:Pos} {b0:Stmt} {suite:List Stmt} {fS:Str→D→DS→Option D}
end
end XC
namespace XC
open PySem PySem.Spec PyProof.Rows L2 My D3
structure RoomQ (k:Nat) (A:Around):Prop where
 dp:A.depth + 3 * k + 5 < recursionLimit
 un:A.units + 16 * k + 200 < cLine
theorem RoomQ.mono {j k:Nat} {A:Around} (r:RoomQ k A) (h:j ≤ k):RoomQ j A:=⟨by have:=r.dp;omega,by have:=r.un;omega⟩
theorem RoomQ.deeper {k:Nat} {A:Around} (r:RoomQ (k + 1) A) (env:Env):RoomQ k (A.deeper env) :=
 ⟨by have:=r.dp;show A.depth + 1 + 3 * k + 5 < _;omega,by have:=r.un;show A.units + 3 + 16 * k + 200 < _;omega⟩
theorem RoomQ.depth {k:Nat} {A:Around} (r:RoomQ k A):A.depth < recursionLimit:=by have:=r.dp;omega
theorem RoomQ.units {k:Nat} {A:Around} (r:RoomQ k A):A.units + 64 < cLine:=by have:=r.un;omega
structure FnOkP (P:Program) (w:World) (K:PySem.W.Frag) (mg:Str→Option Value) (base:Heap) (Pre:Around→List Env→Shared→Hp→Prop) (k:Nat) (f:Addr) (fd:FuncData) (ps:List Str) (sp:Sp):Prop where
 len:∀ vs H Q E,sp vs H Q E→vs.length=ps.length
 run:∀ (A:Around) (outer:List Env) (s:Shared) (H:Hp) (args:Args) (us:List Value) (vs:List V) (Q:VK) (E:XK),RoomQ k A→Env0 P w K mg base A outer s H→BindsTo s fd args (ps.zip us)→Vals vs us→Pre A outer s H→sp vs H Q E →
  codeAny (model P w) A (.call (.ref f) args) (CR CX0 outer P w H s Q E) s
abbrev Ho (P:Program) (w:World) (K:PySem.W.Frag) (mg:Str→Option Value) (base:Heap) (k:Nat) (f:Addr) (fd:FuncData) (ps:List Str) (sp:Sp):Prop:=FnOkP P w K mg base (fun _ _ _ _=>True) k f fd ps sp
def cxQ (P:Program) (w:World) (K:PySem.W.Frag) (mg:Str→Option Value) (base:Heap) (N:List Str) (qual:Str) (scope:Scope) (f:Addr) (cd:Value) (A:Around) (outer:List Env) (s:Shared) (H:Hp) (E:XK):Cx :=
 { fM CX0 P w K mg base N qual scope f cd A outer s H E with calm:=false }
theorem Ay {P:Program} {w:World} {K:PySem.W.Frag} {mg:Str→Option Value} {base:Heap} {N ps:List Str} {qual:Str} {scope:Scope} {f:Addr} {cd:Value} {A:Around} {outer:List Env} {s s1:Shared} {H:Hp} {E:XK} {us:List Value} {vs:List V}
 (S:FnScope N ps scope) (e0:Env0 P w K mg base A outer s H) (hl:vs.length=ps.length) (r:Vals vs us)
 (x:InCallC s s.heap.objs.size (bindL (envOfC qual scope s.heap.objs.size f cd).kindOf (ps.zip us) fun _=>none) (cellsFrom (s.heap.objs.size + 1) scope.names []) (bindC (envOfC qual scope s.heap.objs.size f cd).kindOf (ps.zip us) fun _=>none) s1) :
 Inv (cxQ P w K mg base N qual scope f cd A outer s H E) [] (start N vs) H s1:=by
 have e1:Env0 P w K mg base { A with handled:=none } outer s H:=⟨e0.frames,e0.mod,e0.bs,e0.bsz,e0.funs,e0.frf,e0.hok,e0.bare⟩
 have I:=v5 (CX:=CX0) (E:=E) (qual:=qual) (f:=f) (cd:=cd) S (A:={ A with handled:=none }) rfl e1 hl r x
 exact ⟨⟨I.ok.mod,I.ok.kind,I.ok.glob,I.ok.blt,I.ok.above,I.ok.inj,I.ok.has,I.ok.cab,fun z=>(by cases z),I.ok.frames,I.ok.stk,I.ok.exf,I.ok.bs,I.ok.bsz,I.ok.noex,I.ok.exfs,I.ok.funs,I.ok.frf⟩,I.os,I.bare,I.base,I.loc,I.cell,I.free,I.freeC,I.pin,I.hok,I.len⟩
theorem Hq {Pre:Around→List Env→Shared→Hp→Prop} {P:Program} {w:World} {K:PySem.W.Frag} {mg:Str→Option Value} {base:Heap} {k:Nat} {f:Addr} {name qual:Str} {params:Arguments} {body:List Stmt} {scope:Scope} {dV kV doc pm cdv ct oc:Value} {an od:Option Addr}
 {osl:Array (Option Value)} {N ps:List Str} {sp:Sp} (lk:K.lookup f=some ⟨oc,od,.func (PySem.W.fnOf name qual params body scope dV kV doc pm an cdv ct),osl⟩) (hcd:PySem.W.codeIn K cdv qual=true) (S:FnScope N ps scope)
 (len:∀ vs H Q E,sp vs H Q E→vs.length=ps.length)
 (hbody:∀ (A:Around) (outer:List Env) (s:Shared) (H:Hp) (vs:List V) (Q:VK) (E:XK),RoomQ k (A.deeper (envOfC qual scope s.heap.objs.size f cdv))→Pre A outer s H→sp vs H Q E →
  ∃ t,PSs (cxQ P w K mg base N qual scope f cdv A outer s H E) body t∧t { nx:=fun _ H'=>Q .non H',rt:=Q } (start N vs) H) :
 FnOkP P w K mg base Pre (k + 1) f (PySem.W.fnOf name qual params body scope dV kV doc pm an cdv ct) ps sp:=by
 refine ⟨len,fun A outer s H args us vs Q E hr e0 hb r hpr hsp=>?_⟩
 have hl:=len _ _ _ _ hsp
 have KX:K.In s.heap:=e0.mod.kin.keeps fun b o e=>(e0.bs b o e).1
 have lim:s.heap.NoLimit:=e0.mod.nolimit.keeps fun b o e=>(e0.bs b o e).1
 have hkind:∀ y ∈ ps.zip us,scope.names.lookup y.1=some .local∨(scope.names.lookup y.1=some .cell∧((cellsFrom (s.heap.objs.size + 1) scope.names []).lookup y.1).isSome=true):=fun ⟨n,v⟩ hy=>by
  rcases S.par n (jy hy).1 with q | q
  ·exact .inl q
  ·exact .inr ⟨q,PySem.W.cellsFrom_some _ _ _ (.inl q)⟩
 refine codeAny_call_function hr.depth (KX _ _ lk) rfl S.co S.gen rfl (PySem.W.codeRec_of KX hcd) (hb _ _ _ _ ?_)
 refine wpAny_newFunctionEnv_cells S.kind hkind fun env he s1 x=>?_
 subst he
 refine ⟨lim.keeps x.toInCall.keep,codeAny_func ?_⟩
 obtain ⟨t,ht,hq⟩:=hbody A outer s H vs Q E (hr.deeper _) hpr hsp
 have I:Inv (cxQ P w K mg base N qual scope f cdv A outer s H E) [] (start N vs) H s1:=Ay S e0 hl r x
 refine wpAny_mono (ht [] s1 (start N vs) H _ I hq) (fun fl s' hs=>?_) fun e s' hs=>hs
 have fin:∀ {σ':L2.St} {H':Hp} {v:V} {u:Value},Inv (cxQ P w K mg base N qual scope f cdv A outer s H E) [] σ' H' s'→RelV v u→Q v H'→CE outer P w H s Q u s' :=
  fun {σ' H' v u} J rv q=>⟨v,H',J.os,J.bare,J.base,J.hok,rv,q⟩
 cases fl with
 | ret u =>
  obtain ⟨v,σ',H',J,rv,q⟩:=hs
  exact fin J rv q
 | next =>
  obtain ⟨σ',H',J,q⟩:=hs
  exact fin (v:=V.non) (u:=Value.none) J rfl q
 | brk =>
  obtain ⟨_,_,_,q⟩:=hs
  exact False.elim q
 | cont =>
  obtain ⟨_,_,_,q⟩:=hs
  exact False.elim q
section
variable {X:Cx} {pins:List (Addr × Obj)} {σ:L2.St} {H:Hp} {s:Shared} {k:Nat} {f:Addr} {fd:FuncData} {ps:List Str} {sp:Sp}
theorem CK {Pre:Around→List Env→Shared→Hp→Prop} {Q:VK} {E':Value→Shared→Prop} {us:List Value} {vs:List V} (F:FnOkP X.prog X.w X.K X.mg X.base Pre k f fd ps sp) (hr:RoomQ k X.A) (hb:Binds X.K fd ps []) (J:Inv X pins σ H s) (r:Vals vs us) (hpr:Pre X.A X.stack s H) (h:sp vs H Q (fun _ _ _=>False)) :
 wpAny (model X.prog X.w) X.A (PySem.call (.ref f) us) (EP X pins σ Q) E' s:=by
 have hl:us.length=ps.length:=by
  rw [← r.length]
  exact F.len _ _ _ _ h
 have hb':=hb s us J.kIn (by rw [dR];exact hl)
 rw [dR] at hb'
 refine wpAny_call (codeAny_mono (F.run X.A X.stack s H ⟨us,[]⟩ us vs Q (fun _ _ _=>False) hr J.env0 hb' r hpr h) fun rr s' q=>?_)
 cases rr with
 | error e=>exact False.elim q
 | ok fl =>
  cases fl with
  | ret u=>exact J.after q
  | next=>exact q.elim
  | brk=>exact q.elim
  | cont=>exact q.elim
theorem KQ {Q:VK} {E':Value→Shared→Prop} {us:List Value} {vs:List V} (F:Ho X.prog X.w X.K X.mg X.base k f fd ps sp) (hr:RoomQ k X.A) (hb:Binds X.K fd ps []) (J:Inv X pins σ H s) (r:Vals vs us) (h:sp vs H Q (fun _ _ _=>False)) :
 wpAny (model X.prog X.w) X.A (PySem.call (.ref f) us) (EP X pins σ Q) E' s:=CK F hr hb J r trivial h
end
end XC
namespace XC
open PySem PySem.Spec PyProof.Rows L2 My D3
structure HasQ (P:Program) (w:World) (K:PySem.W.Frag) (mg:Str→Option Value) (base:Heap) (n:Nat) (x:Str) (ps:List Str) (sp:Sp):Prop where
 ex:∃ (f:Addr) (fd:FuncData),Ho P w K mg base n f fd ps sp∧Binds K fd ps []∧PySem.W.keepIn K (.ref f)=true∧mg x=some (.ref f)
section
variable {P:Program} {w:World} {K:PySem.W.Frag} {mg:Str→Option Value} {base:Heap} {x:Str} {ps N:List Str} {st:Stmt} {k n:Nat} {fs:FS} {fl:List Fl}
theorem KR {f:Addr} {fd:FuncData} (Fn:FunD K x st f fd) (S:FnScope N ps (aO st)) (hp:∀ i,i < ps.length→fl[i]? = some .A) (hN:ps.length ≤ N.length)
 (hbody:∀ (f:Addr) (cdv:Value) (A:Around) (outer:List Env) (s:Shared) (H:Hp) (E:XK),RoomQ k (A.deeper (envOfC x (aO st) s.heap.objs.size f cdv))→DSs (cxQ P w K mg base N x (aO st) f cdv A outer s H E).nox fl (gG st) fs) :
 Ho P w K mg base (k + 1) f fd ps (spD K (fnD ps.length (N.length - ps.length) fs)):=by
 obtain ⟨oc,od,dV,kV,doc,pm,an,cdv,ct,osl,rfl,lk,hcd⟩:=Fn.ex
 refine Hq lk hcd S (fun vs H Q E h=>?_) fun A outer s H vs Q E hr _ h=>?_
 ·obtain ⟨ds,d,r,hf,_⟩:=h
  unfold fnD at hf
  by_cases z:ds.length=ps.length
  ·rw [r.2.length];exact z
  ·rw [if_neg z] at hf;cases hf
 ·obtain ⟨ds,d,r,hf,q⟩:=h
  refine ⟨_,(hbody f cdv A outer s H E hr).nox,?_⟩
  unfold fnD at hf
  by_cases z:ds.length=ps.length
  ·rw [if_pos z] at hf
   split at hf
   ·next d' e =>
    cases hf
    exact ⟨_,_,_,_,gY ps.length hp z hN r,e,fun v H' s r=>q v H' s r⟩
   ·next δ' e =>
    cases hf
    exact ⟨_,_,_,_,gY ps.length hp z hN r,e,fun ow' σ' H' R'=>q .non H' R'.same0 .non⟩
   ·cases hf
  ·rw [if_neg z] at hf;cases hf
theorem O_ (Dd:Dg K mg x st ps) (S:FnScope N ps (aO st)) (hp:∀ i,i < ps.length→fl[i]? = some .A) (hN:ps.length ≤ N.length)
 (hbody:∀ (f:Addr) (cdv:Value) (A:Around) (outer:List Env) (s:Shared) (H:Hp) (E:XK),RoomQ k (A.deeper (envOfC x (aO st) s.heap.objs.size f cdv))→DSs (cxQ P w K mg base N x (aO st) f cdv A outer s H E).nox fl (gG st) fs) :
 HasQ P w K mg base (k + 1) x ps (spD K (fnD ps.length (N.length - ps.length) fs)):=by
 obtain ⟨f,fd,Fn,b,m⟩:=Dd.ex
 exact ⟨f,fd,KR Fn S hp hN hbody,b,Fn.kp,m⟩
end
section
variable {X:Cx} {fl:List Fl} {e:Expr} {es:List Expr} {t:TA} {fa:FA} {pos p:Pos} {x:Str} {n:Nat} {ps:List Str} {sp:Sp} {F:List D→Option D}
theorem Hr (h:HasQ X.prog X.w X.K X.mg X.base n x ps sp) (hr:RoomQ n X.A) (ha:PA X (e :: es) t) (hg:Gl X x:=by rfl) (hdb:(x == ("__debug__" : Str))=false:=by decide)
 (he:starEach (e :: es) X.env=(false,eval e X.env) :: starEach es X.env:=by rfl) (hpl:(backTo pos (starEach es X.env)).any (·.1)=false:=by rfl) :
 PE X (.Call (.Name x p) (e :: es) [] pos) (fun σ H Q=>t σ H fun vs H1=>sp vs H1 Q (fun _ _ _=>False)):=by
 obtain ⟨f,fd,F,b,kp,m⟩:=h.ex
 intro pins s σ H Q J hh
 refine wpAny_Call_Name_kw (lK J hg m ?_ hdb)
 refine PySem.W.callWith_K (h₀:=X.base) J.ok.mod.kin kp (thn (ha pos pins s σ H _ J hh) fun us s1 q=>?_) he hpl
 obtain ⟨vs,H1,J1,r,q⟩:=q
 exact ⟨J1.kIn,KQ F hr b J1 r q⟩
end
end XC
namespace XC
open PySem PySem.Spec PyProof.Rows L2 My D3
structure ExA (K:PySem.W.Frag) (C:Addr):Prop where
 ga:PySem.W.findIn K (.ref C) "__getattribute__" = some (some (.builtin "BaseException.__getattribute__"))
 gh:PySem.W.findIn K (.ref C) "__getattr__" = some none
 hb:PySem.W.mroIn K C (.type "BaseException")=some true
section
variable {prog:Program} {w:World} {A:Around} {E:Value→Shared→Prop} {s:Shared} {K:PySem.W.Frag} {x C:Addr} {ox:Obj} {od:Option Obj} {name:Str} {v:Value}
theorem Ej {M:Model} {nameV:Value} {Q:Unit→Shared→Prop} (N:ExA K C) (X:K.In s.heap) (I:PySem.W.InstAt s.heap x ox C od) (hq:Q () s):wpAny M A (checkBuiltinCall "BaseException.__getattribute__" ⟨[.ref x,nameV],[]⟩) Q E s:=by
 have hk:builtinKind "BaseException.__getattribute__" = some .slot:=by decide +kernel
 have hsplit:splitId "BaseException.__getattribute__" = some ("BaseException", "__getattribute__"):=by decide +kernel
 have ha:=PySem.F.args_bexc_ga (.ref x) nameV
 obtain ⟨hh,g,d,t,os⟩:=s
 have L0:=I.type (M:=M)
 have L1:=PySem.W.looks_mroIn (M:=M) X N.hb
 simp only [checkBuiltinCall,hk,hsplit]
 refine wpAny_bind ?_
 unfold isInstance
 repeat (first | (with_reducible refine L0.at ?_) | (with_reducible refine L1.at ?_) | wp_step)
 exact hq
theorem KY {tk:Tok} {Q:Fin→Shared→Prop} (X:K.In s.heap) (I:PySem.W.InstAt s.heap x ox C od) (hf:PySem.W.findObj K C od name=some (.value v)) (hq:Q (.done (.ret v)) s) :
 wpAny (model prog w) A (Builtin.«object.__getattribute__» ⟨[.ref x,.str name tk],[]⟩) Q E s:=by
 obtain ⟨hh,g,d,t,os⟩:=s
 have L0:=I.type (M:=model prog w)
 have L1:=PySem.W.looks_find (M:=model prog w) X I hf
 unfold Builtin.«object.__getattribute__»
 refine wpAny_bind ?_
 refine wpAny_pure ?_
 refine wpAny_bind (wpAny_pure (wpAny_bind (L0.at (wpAny_bind (L1.at ?_)))))
 exact wpAny_pure hq
theorem KZ {tk:Tok} {Q:Fin→Shared→Prop} (X:K.In s.heap) (I:PySem.W.InstAt s.heap x ox C od) (hm:PySem.W.mroIn K C (.type "object")=some true)
 (hf:PySem.W.findObj K C od name=some (.bind (.builtin "getset_descriptor.__get__") (.builtin "object.__class__"))) (hq:Q (.done (.ret (.ref C))) s) :
 wpAny (model prog w) A (Builtin.«object.__getattribute__» ⟨[.ref x,.str name tk],[]⟩) Q E s:=by
 obtain ⟨hh,g,d,t,os⟩:=s
 have L0:=I.type (M:=model prog w)
 have L1:=PySem.W.looks_find (M:=model prog w) X I hf
 unfold Builtin.«object.__getattribute__»
 refine wpAny_bind ?_
 refine wpAny_pure ?_
 refine wpAny_bind (wpAny_pure (wpAny_bind (L0.at (wpAny_bind (L1.at ?_)))))
 show wpAny _ _ (holding [.builtin "object.__class__"] (PySem.call (.builtin "getset_descriptor.__get__") [.builtin "object.__class__", .ref x,.ref C]) >>= ret) _ _ _
 refine wpAny_bind (wpAny_holding (wpAny_call (PySem.W.class_get (s:=⟨hh,g,d,t,os⟩) (ox:=ox) (od:=od) X I hm ?_)))
 exact wpAny_pure hq
theorem Hs {nameV:Value} {fill expr:Bool} {Q:Value→Shared→Prop} (N:ExA K C) (X:K.In s.heap) (I:PySem.W.InstAt s.heap x ox C od) (hh:PySem.W.handedIn v=true)
 (he:∀ {A:Around} {E:Value→Shared→Prop} {Q:Fin→Shared→Prop},Q (.done (.ret v)) s→wpAny (model prog w) A (Builtin.«object.__getattribute__» ⟨[.ref x,nameV],[]⟩) Q E s) (hq:Q v s) :
 wpAny (model prog w) A (getAttrBy (.ref x) nameV fill expr) Q E s:=by
 obtain ⟨h0,g,d,t,os⟩:=s
 have L0:=I.type (M:=model prog w)
 have L1:=PySem.W.looks_findIn (M:=model prog w) X N.ga
 have L2:=PySem.W.looks_findIn (M:=model prog w) X N.gh
 have f3:=PySem.F.attr_ValueError.ga.bind (.ref x)
 have hx0:(expr && onTheHeap (Value.builtin "BaseException.__getattribute__"))=false:=by cases expr <;> rfl
 have hx2:(Value.builtin "BaseException.__getattribute__" == Value.builtin "object.__getattribute__")=false:=by decide +kernel
 have hx1:(onTheHeap (Value.ref C) && Value.builtin "BaseException.__getattribute__" == Value.builtin "object.__getattribute__")=false:=by rw [hx2];rfl
 repeat (any_goals (first | assumption | (with_reducible refine L0.at ?_) | (with_reducible refine L1.at ?_) | (with_reducible refine L2.at ?_) | wp_step))
 refine codeAny_call_builtin PySem.F.attr_ValueError.ga.plain PySem.F.entry_bexc_ga (Ej (s:=⟨h0,g,d,t,os⟩) N X I (he ?_))
 repeat (any_goals (first | assumption | (with_reducible exact PySem.W.handed_on hh hq) | wp_step))
theorem Ht {expr:Bool} {Q:Value→Shared→Prop} (N:ExA K C) (X:K.In s.heap) (I:PySem.W.InstAt s.heap x ox C od) (hf:PySem.W.findObj K C od name=some (.value v)) (hh:PySem.W.handedIn v=true) (hq:Q v { s with toks:=s.toks + 1 }) :
 wpAny (model prog w) A (getAttr (.ref x) name expr) Q E s:=by
 obtain ⟨h0,g,d,t,os⟩:=s
 unfold getAttr
 refine wpAny_bind (wpAny_mkText ?_)
 exact Hs (s:=⟨h0,g,d,t + 1,os⟩) N X I hh (fun z=>KY (s:=⟨h0,g,d,t + 1,os⟩) X I hf z) hq
theorem Ek {Q:Option Value→Shared→Prop} (N:ExA K C) (X:K.In s.heap) (I:PySem.W.InstAt s.heap x ox C od) (hm:PySem.W.mroIn K C (.type "object")=some true)
 (hf:PySem.W.findObj K C od "__class__" = some (.bind (.builtin "getset_descriptor.__get__") (.builtin "object.__class__"))) (hq:Q (some (.ref C)) { s with toks:=s.toks + 1 }) :
 wpAny (model prog w) A (getAttr? (.ref x) "__class__") Q E s:=by
 obtain ⟨h0,g,d,t,os⟩:=s
 unfold getAttr? getAttrBy?
 refine wpAny_bind (wpAny_mkText (wpAny_bind (wpAny_attempt ?_)))
 refine Hs (s:=⟨h0,g,d,t + 1,os⟩) N X I rfl (fun z=>KZ (s:=⟨h0,g,d,t + 1,os⟩) X I hm hf z) ?_
 exact wpAny_pure hq
theorem zm {x D:Addr} {ox od:Obj} (N:ExA K D) (hdct:PySem.W.hasDictIn K D=true) (ha:PySem.W.findIn K (.ref D) "__class__" = some (some (.builtin "object.__class__")))
 (hn:PySem.W.specialIn K (.builtin "object.__class__") "__get__" = some (some (.builtin "getset_descriptor.__get__"))) (htk:PySem.W.takesIn K (.builtin "object.__class__")=some true) (hm:PySem.W.mroIn K D (.type "object")=some true) :
 PySem.W.KitX K (.ref x) (.ref D) (fun h=>PySem.W.InstAt h x ox D (some od)) where
 ty:=fun _ _ _ I=>I.type
 it:=fun _ _ X _=>by
  obtain ⟨cdD,hcD,_⟩:=PySem.W.any_some hdct
  unfold PySem.W.clsIn at hcD
  split at hcD
  ·rename_i c' d' cd' sl' ho
   intro A' Q' E' s' k q
   unfold isType loadHead
   exact wpAny_bind (wpAny_loadPart (k _ _ (X _ _ ho)) (wpAny_pure q))
  ·cases hcD
 ne:=fun h tp dd its n sl X htp=>by
  obtain ⟨cdD,hcD,_⟩:=PySem.W.any_some hdct
  refine Bool.eq_false_iff.mpr fun q=>?_
  have e:D=tp:=Value.ref.inj (beq_iff_eq.mp q)
  subst e
  unfold PySem.W.clsIn at hcD
  split at hcD
  ·rename_i c' d' cd' sl' ho
   have z:=(X _ _ ho).symm.trans htp
   cases z
  ·cases hcD
 ca:=fun X I k=>Ek N X I hm (PySem.W.findObj_data (by obtain ⟨cd,hc,_⟩:=PySem.W.any_some hdct;rw [hc];rfl) ha hn htk) k
end
end XC
namespace XC
open PySem PySem.Spec PyProof.Rows L2 My D3
structure AttE (K:PySem.W.Frag) (C:Addr) (f:Str):Prop where
 ea:ExA K C
 hd:PySem.W.hasDictIn K C=true
 no:PySem.W.findIn K (.ref C) f=some none
section
variable {X:Cx} {a C D dx:Addr} {oa od:Obj} {u:Value} {v:V} {f n:Str} {i:Nat} {p1 pos:Pos}
theorem R7 (N:AttE X.K C f) (hoa:oa.cls = .ref C) (hod:oa.dict=some dx) (hnc:PySem.W.notCls oa=true) (hdx:∀ h:Heap,h.get? dx=some od→h.Ns1 dx (fun z=>if z=f then some u else none)) (rv:RelV v u)
 (hi:X.N[i]? = some n) (hv:Vis X.env.scope n) (hdn:(n == ("__debug__" : Str))=false:=by decide) (hcn:(n == ("__classdict__" : Str))=false:=by decide) (hb:attributeBase (.Name n p1) f X.env (eval (.Name n p1) X.env)=eval (.Name n p1) X.env:=by rfl) :
 PE (bU X a oa dx od) (.Attribute (.Name n p1) f pos) (fun σ H Q=>σ[i]? = some (some (.ref a))∧Q v H):=by
 intro pins s σ H Q I h
 refine JM hb (thn ((lg (X:=bU X a oa dx od) hi hv hdn hcn) pins s σ H (fun x H1=>x = .ref a∧Q v H1) I ⟨_,h.1,rfl,h.2⟩) fun w s1 ⟨x,H1,I1,rx,ex,q⟩=>?_)
 subst ex
 cases rx
 have ha:=(I1.pin (a,oa) (bD _ (aQ _ aJ))).1
 have hd:=(I1.pin (dx,od) (bD _ (aQ _ (aH _ aJ)))).1
 obtain ⟨od',e1,e2⟩:=vV (hdx _ hd)
 rw [hd] at e1
 cases e1
 refine Ht (ox:=oa) (od:=some od) N.ea I1.kIn ⟨ha,hoa,hnc,?_⟩ (PySem.W.findObj_own N.hd N.no rfl (by rw [e2,if_pos rfl])) (Dz rv) ⟨v,H1,I1.tok _,rv,q⟩
 rw [hod]
 exact hd
end
end XC
namespace XC
open PySem PySem.Spec PyProof.Rows L2 My D3
structure KitE (K:PySem.W.Frag) (C:Addr):Prop where
 ea:ExA K C
 hd:PySem.W.hasDictIn K C=true
 fd:PySem.W.findIn K (.ref C) "__class__" = some (some (.builtin "object.__class__"))
 sp:PySem.W.specialIn K (.builtin "object.__class__") "__get__" = some (some (.builtin "getset_descriptor.__get__"))
 tk:PySem.W.takesIn K (.builtin "object.__class__")=some true
 mr:PySem.W.mroIn K C (.type "object")=some true
theorem wH:∀ {Ds:List Addr} {us:List Value},Vals (Ds.map V.ref) us→us=Ds.map Value.ref
 | [],_,h=>by cases h;rfl
 | D :: Ds,_,h=>by
  cases h with
  | cons h1 h2 =>
   cases h1
   rw [wH h2]
   rfl
section
variable {X:Cx} {a C D dx:Addr} {oa od:Obj} {b:Bool}
theorem Hu {pins:List (Addr × Obj)} {σ:L2.St} {H:Hp} {s:Shared} (I:Inv (bU X a oa dx od) pins σ H s) (hoa:oa.cls = .ref C) (hod:oa.dict=some dx) (hnc:PySem.W.notCls oa=true):PySem.W.InstAt s.heap a oa C (some od):=by
 have ha:=(I.pin (a,oa) (bD _ (aQ _ aJ))).1
 have hd:=(I.pin (dx,od) (bD _ (aQ _ (aH _ aJ)))).1
 refine ⟨ha,hoa,hnc,?_⟩
 rw [hod]
 exact hd
theorem Hv (N:KitE X.K C) (hoa:oa.cls = .ref C) (hod:oa.dict=some dx) (hnc:PySem.W.notCls oa=true):lq (bU X a oa dx od) (.builtin "isinstance") (fun xs H Q=>∃ (tp:Addr) (Ds:List Addr),xs=[.ref a,.ref tp]∧H tp=some (.tup (Ds.map V.ref))∧PySem.W.kitAny X.K (.ref C) (Ds.map Value.ref)=some b∧Q (.bl b) H):=by
 intro pins s σ H xs us Q I r h
 obtain ⟨tp,Ds,rfl,ht,e,q⟩:=h
 obtain ⟨u1,u2,rfl,r1,r2⟩:∃ u1 u2,us=[u1,u2]∧RelV (.ref a) u1∧RelV (.ref tp) u2:=by
  cases r with
  | cons r1 r=>cases r with
   | cons r2 r=>cases r;exact ⟨_,_,rfl,r1,r2⟩
 cases r1;cases r2
 obtain ⟨_,its,rv,o,ho,hc,hd⟩:=(show jw (bU X a oa dx od).prog (bU X a oa dx od).w H s.heap tp (.tup (Ds.map V.ref)) from I.hok tp _ ht)
 obtain rfl:=wH rv
 obtain ⟨oc,odi,oda,osl⟩:=o
 dsimp only at hc hd
 subst hc
 obtain ⟨nn,rfl⟩:=hd
 exact PySem.W.kia_tup (zm (ox:=oa) (od:=od) N.ea N.hd N.fd N.sp N.tk N.mr) I.kIn (Hu I hoa hod hnc) ho e (fun z=>nomatch z) fun tk=>⟨.bl b,H,I.tok _,rfl,q⟩
theorem Hw (N:KitE X.K C) (hoa:oa.cls = .ref C) (hod:oa.dict=some dx) (hnc:PySem.W.notCls oa=true):lq (bU X a oa dx od) (.builtin "isinstance") (fun xs H Q=>∃ (D:Addr),xs=[.ref a,.ref D]∧PySem.W.kitOne X.K (.ref C) (.ref D)=some b∧Q (.bl b) H):=by
 intro pins s σ H xs us Q I r h
 obtain ⟨D,rfl,e,q⟩:=h
 obtain ⟨u1,u2,rfl,r1,r2⟩:∃ u1 u2,us=[u1,u2]∧RelV (.ref a) u1∧RelV (.ref D) u2:=by
  cases r with
  | cons r1 r=>cases r with
   | cons r2 r=>cases r;exact ⟨_,_,rfl,r1,r2⟩
 cases r1;cases r2
 exact PySem.W.kia_one (zm (ox:=oa) (od:=od) N.ea N.hd N.fd N.sp N.tk N.mr) I.kIn (Hu I hoa hod hnc) e (fun z=>nomatch z) fun tk=>⟨.bl b,H,I.tok _,rfl,q⟩
end
end XC
namespace XC
open PySem PySem.Spec PyProof.Rows L2 My D3
theorem xV {δ:DS} {i j:Nat} {x:U} (h:(δ.set i none)[j]? = some (some x)):j ≠ i∧δ[j]? = some (some x):=by
 by_cases e:j=i
 ·subst e
  by_cases l:j < δ.length
  ·rw [cj l] at h;cases h
  ·rw [bI (by rw [bK];omega)] at h;cases h
 ·rw [aY (Ne.symm e)] at h
  exact ⟨e,h⟩
theorem Rel.forget {K:PySem.W.Frag} {fl:List Fl} {G:Gh} {ow:Ow} {σ:L2.St} {H:Hp} {δ:DS} {i:Nat} {x:Option V} (R:Rel K fl G ow σ H δ) (hfl:fl[i]? = some .A):Rel K fl G ow (σ.set i x) H (δ.set i none):=by
 have no:∀ a,ow i ≠ some a:=fun a z=>by
  obtain ⟨_,hz,_⟩:=R.own i a z
  rw [hfl] at hz
  rcases hz with ⟨z,_⟩ | ⟨z,_⟩ <;> cases z
 refine ⟨R.s0,R.s1,by rw [bK,bK];exact R.len,fun j a h=>?_,R.inj,R.pin,fun j d' h1 hn h2=>?_,fun j d' h1 hn h2 h3=>?_,R.nt,R.nd,R.ns,R.np,fun j d' hn h1=>?_⟩
 ·have hj:j ≠ i:=fun z=>no a (z ▸ h)
  obtain ⟨h0,hf,xs,ds,h1,h2,h3,h4⟩:=R.own j a h
  exact ⟨h0,hf,xs,ds,by rw [aY (Ne.symm hj)];exact h1,h2,h3,by rw [aY (Ne.symm hj)];exact h4⟩
 ·obtain ⟨hj,e⟩:=xV h1
  obtain ⟨v',h3,h4⟩:=R.dat j d' e hn h2
  exact ⟨v',by rw [aY (Ne.symm hj)];exact h3,h4⟩
 ·obtain ⟨hj,e⟩:=xV h1
  exact R.oo j d' e hn h2 h3
 ·obtain ⟨hj,e⟩:=xV h1
  obtain ⟨v',h3,h4⟩:=R.nr j d' hn e
  exact ⟨v',by rw [aY (Ne.symm hj)];exact h3,h4⟩
def tEt (i:Nat) (a:Addr) (b:Bool):TE:=fun σ H Q=>σ[i]? = some (some (.ref a))∧∀ H',Same H H'→Q (.bl b) H'
section
variable {X S:Cx} {a C I0 D dx:Addr} {oa od:Obj} {u:Value} {v:V} {f n cn:Str} {i j:Nat} {p p1 p2 pos:Pos} {cond a1 b1:Expr} {rest es:List Expr} {b:Bool} {k:Nat}
theorem Hx (h:IsE S i a cond):PE S cond (tEt i a true):=PE.imp h fun σ H Q z=>⟨z.1,z.2 H (Same.refl H)⟩
theorem Pa {Ds:List Addr} {x1} (N:KitE X.K C) (hk:PySem.W.kitAny X.K (.ref C) (Ds.map Value.ref)=some b) (hoa:oa.cls = .ref C) (hod:oa.dict=some dx) (hnc:PySem.W.notCls oa=true) (hes:PA (bU X a oa dx od) es (fun _ H Q=>Q (Ds.map V.ref) H)) (hl:Ds.length ≤ sizeLine)
 (hgi:Gl X "isinstance") (hmi:X.mg "isinstance" = none) (hi:X.N[i]? = some n) (hv:Vis X.env.scope n) (hdn:(n == ("__debug__" : Str))=false:=by decide) (hcn:(n == ("__classdict__" : Str))=false:=by decide) :
 PE (bU X a oa dx od) (.Call (.Name "isinstance" p) [.Name n p1,.Tuple es x1 p2] [] pos) (tEt i a b) :=
 PE.imp (ou (X:=bU X a oa dx od) (Hv (b:=b) N hoa hod hnc) hgi hmi boot_isinstance (eV (lg (X:=bU X a oa dx od) hi hv hdn hcn) (eV (Gq hes) jo (by exact dD rfl)) (by exact dD rfl)) (by decide) (by decide) (by exact dD rfl) (by exact nO rfl)) fun σ H Q h=>by
  refine ⟨_,h.1,?_⟩
  show _∧_
  refine ⟨by rw [aW];exact hl,fun q hq=>?_⟩
  exact ⟨q,Ds,rfl,gk,hk,h.2 _ (gn hq _)⟩
end
end XC
namespace XC
open PySem PySem.Spec PyProof.Rows L2 My D3
structure SuiG (K:PySem.W.Frag) (mg:Str→Option Value) (fld:Addr→Str) (cn f ic n1 n2 n3:Str):Prop where
 ex:∃ C I D1 D2 D3,Exc K mg cn f C I∧fld C=f∧mg ic=some (.ref I)∧KitE K C∧AttE K C f∧mg n1=some (.ref D1)∧mg n2=some (.ref D2)∧mg n3=some (.ref D3)∧PySem.W.kitAny K (.ref C) [.ref D1,.ref D2,.ref D3]=some false
theorem Room.q {k:Nat} {A:Around} {o:Option Value} (r:Room k A):RoomQ k (A.mark o):=⟨r.dp,r.un⟩
section
variable {X:Cx} {fl:List Fl} {fld:Addr→Str} {c f ic n1 n2 n3 n y g s0 s1:Str} {gp:List Str} {i j k:Nat} {W:List D→Option D} {rowE:Expr} {fr:FE}
variable {yp ap spos a1 a2 a3 a4 a5 a6 a7 a8 a9 b1 b2 b3 b4 b5 b6 b7 q0 q1 q2 q3 q4 q5 q6 q7 q8 q9 q10 q11 q12 q13 q14 rpos:Pos} {x1 j0 j1:Nat}
end
end XC
namespace XC
open PySem PySem.Spec PyProof.Rows L2 My D3
def tXE (K:PySem.W.Frag) (mg:Str→Option Value) (fl:List Fl) (f:FX):Ends→XK→L2.St→Hp→Prop:=fun Dn EX σ H=>∃ G ow δ o,Rel K fl G ow σ H δ∧f δ=some o∧match o with
 | .o (.nx δ')=>∀ ow' σ' H',Rel K fl G ow' σ' H' δ'→Dn.nx σ' H'
 | .ex c d=>∀ (C:Addr) (v:V) (u:Value) (H':Hp),mg c=some (.ref C)→Same H H'→RA K ok1 true H' v d→RelV v u→EX u (some C) H'
 | _=>False
abbrev DXE (X:Cx) (fld:Addr→Str) (fl:List Fl) (st:Stmt) (f:FX):Prop:=PSE fld X st (tXE X.K X.mg fl f)
section
variable {X:Cx} {fl:List Fl} {fld:Addr→Str} {n i j:Nat} {x y ic en:Str} {ps cs:List Str} {F:List D→Option Or} {dvs:List V} {dd:List D} {e c:Expr} {es:List Expr} {fa:FA} {ft:FT} {f f1 f2:FX} {p yp pos pos2 np hpos tpos:Pos} {b0 st s1 s2:Stmt} {suite:List Stmt} {fS:Str→D→DS→Option D}
theorem Hy (h:HasX X.prog X.w X.K X.mg X.base fld n x ps (spX X.K X.mg F) dvs) (hdd:∀ H,RAs X.K ok1 true H dvs dd) (hr:Room n X.A) (ha:DB X fl .P (e :: es) fa) (hx:X=X.nox:=by rfl) (hg:Gl X x:=by rfl) (hdb:(x == ("__debug__" : Str))=false:=by decide)
 (he:starEach (e :: es) X.env=(false,eval e X.env) :: starEach es X.env:=by exact dD rfl) (hpl:(backTo pos (starEach es X.env)).any (·.1)=false:=by exact nO rfl) (hsw:swapsWith (.Call (.Name x p) (e :: es) [] pos) none pos2.line X.env=pure false:=by rfl) :
 DXE X fld fl (.Expr (.Call (.Name x p) (e :: es) [] pos) pos2) (jl F dd fa):=by
 intro pins s σ H Dn EX J h0
 obtain ⟨G,ow,δ,o,R,hf,q⟩:=h0
 obtain ⟨ds,e1,e2⟩:=bind1 hf
 obtain ⟨f,fd,dv,Fo,b,vv,kp,m⟩:=h.ex
 have ha':DB X.nox fl .P (e :: es) fa:=by rw [← hx];exact ha
 refine qH (X:=X) (dvs:=dvs) Fo hr hg m kp b vv ha' hdb he hpl hsw pins s σ H Dn EX J ⟨G,ow,δ,ds,R,e1,fun vs H1 sm r=>?_⟩
 split at e2
 ·next d eF =>
  cases e2
  exact ⟨ds++dd,_,⟨R.tb.same sm,r.append (hdd H1)⟩,eF,fun v H' sm' rv=>q ow _ H' (R.grow (sm.trans sm'))⟩
 ·next c f d eF =>
  cases e2
  exact ⟨ds++dd,_,⟨R.tb.same sm,r.append (hdd H1)⟩,eF,fun v H' sm' rv=>q ow _ H' (R.grow (sm.trans sm'))⟩
 ·next c d eF =>
  cases e2
  exact ⟨ds++dd,_,⟨R.tb.same sm,r.append (hdd H1)⟩,eF,fun C' v u H' mc sm' r' rv=>q C' v u H' mc (sm.trans sm') r' rv⟩
 ·cases e2
end
section
variable {P:Program} {w:World} {K:PySem.W.Frag} {mg:Str→Option Value} {base:Heap} {fld:Addr→Str} {x:Str} {ps N ks:List Str} {st:Stmt} {k n:Nat} {f:FX} {fl:List Fl} {dvs:List V}
end
end XC
namespace XC
open PySem PySem.Spec PyProof.Rows L2 My D3
structure SuiH (K:PySem.W.Frag) (mg:Str→Option Value) (fld:Addr→Str) (cn f ic n1 n2:Str):Prop where
 ex:∃ C I D1 D2,Exc K mg cn f C I∧fld C=f∧mg ic=some (.ref I)∧KitE K C∧AttE K C f∧mg n1=some (.ref D1)∧mg n2=some (.ref D2)∧PySem.W.kitAny K (.ref C) [.ref D1,.ref D2]=some false∧PySem.W.kitOne K (.ref C) (.ref I)=some true
structure SuiA (K:PySem.W.Frag) (mg:Str→Option Value) (fld:Addr→Str) (cn f ic:Str):Prop where
 ex:∃ C I,Exc K mg cn f C I∧fld C=f∧mg ic=some (.ref I)∧AttE K C f
section
variable {X:Cx} {a C D dx:Addr} {oa od:Obj} {ic n:Str} {i:Nat} {p p1 p2 pos:Pos} {b:Bool}
theorem Pb (N:KitE X.K C) (hk:PySem.W.kitOne X.K (.ref C) (.ref D)=some b) (hoa:oa.cls = .ref C) (hod:oa.dict=some dx) (hnc:PySem.W.notCls oa=true) (hic:X.mg ic=some (.ref D)) (hgi:Gl X "isinstance") (hmi:X.mg "isinstance" = none) (hg:Gl X ic) (hi:X.N[i]? = some n) (hv:Vis X.env.scope n)
 (hdb:(ic == ("__debug__" : Str))=false:=by decide) (hdn:(n == ("__debug__" : Str))=false:=by decide) (hcn:(n == ("__classdict__" : Str))=false:=by decide) :
 PE (bU X a oa dx od) (.Call (.Name "isinstance" p) [.Name n p1,.Name ic p2] [] pos) (tEt i a b) :=
 PE.imp (ou (X:=bU X a oa dx od) (Hw (b:=b) N hoa hod hnc) hgi hmi boot_isinstance (eV (lg (X:=bU X a oa dx od) hi hv hdn hcn) (eV (wW (X:=bU X a oa dx od) (v:=.ref D) hg hic rfl hdb) jo (by exact dD rfl)) (by exact dD rfl)) (by decide) (by decide) (by exact dD rfl) (by exact nO rfl)) fun σ H Q h=>by
  exact ⟨_,h.1,D,rfl,hk,h.2 H (Same.refl H)⟩
end
section
variable {X:Cx} {fl:List Fl} {fld:Addr→Str} {c f ic n1 n2 n g s0 s1:Str} {gp:List Str} {i k:Nat} {W:List D→Option D}
variable {ap spos a1 a2 a3 a4 a5 b1 b2 b3 b4 b6 b7 q0 q1 q2 q3 q4 q5 q6 q7 q8 q9 q10 q11 rpos rp2:Pos} {x1 x2 x3 j0 j1 j2:Nat}
end
end XC
namespace XC
open PySem PySem.Spec PyProof.Rows L2 My D3
section
variable {P:Program} {w:World} {K:PySem.W.Frag} {mg:Str→Option Value} {base:Heap} {N:List Str} {qual:Str} {scope:Scope} {fa:Addr} {cdv:Value} {A:Around} {outer:List Env} {s₀:Shared} {H₀:Hp} {E:XK} {fld:Addr→Str}
variable {fl:List Fl} {n:Nat} {x:Str} {ps:List Str} {F:List D→Option Or} {dvs:List V} {dd:List D} {e:Expr} {es:List Expr} {fs:FA} {p pos pos2:Pos}
theorem jK (h:HasX P w K mg base fld n x ps (spX K mg F) dvs) (hdd:∀ H,RAs K ok1 true H dvs dd) (hr:Room n (A.deeper (envOfC qual scope s₀.heap.objs.size fa cdv))) (ha:DB (fM (CXE P w fld) P w K mg base N qual scope fa cdv A outer s₀ H₀ E).nox fl .P (e :: es) fs)
 (hg:Gl (fM (CXE P w fld) P w K mg base N qual scope fa cdv A outer s₀ H₀ E) x:=by rfl) (hdb:(x == ("__debug__" : Str))=false:=by decide)
 (he:starEach (e :: es) (fM (CXE P w fld) P w K mg base N qual scope fa cdv A outer s₀ H₀ E).env=(false,eval e (fM (CXE P w fld) P w K mg base N qual scope fa cdv A outer s₀ H₀ E).env) :: starEach es (fM (CXE P w fld) P w K mg base N qual scope fa cdv A outer s₀ H₀ E).env:=by exact dD rfl) (hpl:(backTo pos (starEach es (fM (CXE P w fld) P w K mg base N qual scope fa cdv A outer s₀ H₀ E).env)).any (·.1)=false:=by exact nO rfl) (hsw:swapsWith (.Call (.Name x p) (e :: es) [] pos) none pos2.line (fM (CXE P w fld) P w K mg base N qual scope fa cdv A outer s₀ H₀ E).env=pure false:=by rfl) :
 DX1 (fM (CXE P w fld) P w K mg base N qual scope fa cdv A outer s₀ H₀ E) E fl (.Expr (.Call (.Name x p) (e :: es) [] pos) pos2) (jl F dd fs):=by
 intro pins s σ H Dn J h0
 obtain ⟨G,ow,δ,o,R,hf,q⟩:=h0
 obtain ⟨ds,e1,e2⟩:=bind1 hf
 obtain ⟨f,fd,dv,Fo,b,vv,kp,m⟩:=h.ex
 split at e2
 ·next d eF =>
  cases e2
  refine wpAny_mono (qH (X:=(fM (CXE P w fld) P w K mg base N qual scope fa cdv A outer s₀ H₀ E)) (dvs:=dvs) Fo hr hg m kp b vv ha hdb he hpl hsw pins s σ H { nx:=fun σ' H2=>σ'=σ∧Same H H2,rt:=fun _ _=>False,bk:=fun _ _=>False,ct:=fun _ _=>False } (fun _ _ _=>False) J ⟨G,ow,δ,ds,R,e1,fun vs H1 sm r=>⟨ds++dd,_,⟨R.tb.same sm,r.append (hdd H1)⟩,eF,fun v H' sm' _=>⟨rfl,sm.trans sm'⟩⟩⟩) (fun fl' s1 z=>?_) fun e s1 z=>?_
  ·cases fl' with
   | next =>
    obtain ⟨σ',H',I',rfl,sm⟩:=z
    exact ⟨_,H',I',q ow _ H' (R.grow sm)⟩
   | ret v=>obtain ⟨_,_,_,_,_,z⟩:=z;exact z.elim
   | brk=>obtain ⟨_,_,_,z⟩:=z;exact z.elim
   | cont=>obtain ⟨_,_,_,z⟩:=z;exact z.elim
  ·obtain ⟨_,_,_,_,_,_,_,_,_,_,_,_,z⟩:=z
   exact z.elim
 ·next c f d eF =>
  cases e2
  refine wpAny_mono (qH (X:=(fM (CXE P w fld) P w K mg base N qual scope fa cdv A outer s₀ H₀ E)) (dvs:=dvs) Fo hr hg m kp b vv ha hdb he hpl hsw pins s σ H { nx:=fun σ' H2=>σ'=σ∧Same H H2,rt:=fun _ _=>False,bk:=fun _ _=>False,ct:=fun _ _=>False } (fun _ _ _=>False) J ⟨G,ow,δ,ds,R,e1,fun vs H1 sm r=>⟨ds++dd,_,⟨R.tb.same sm,r.append (hdd H1)⟩,eF,fun v H' sm' _=>⟨rfl,sm.trans sm'⟩⟩⟩) (fun fl' s1 z=>?_) fun e s1 z=>?_
  ·cases fl' with
   | next =>
    obtain ⟨σ',H',I',rfl,sm⟩:=z
    exact ⟨_,H',I',q ow _ H' (R.grow sm)⟩
   | ret v=>obtain ⟨_,_,_,_,_,z⟩:=z;exact z.elim
   | brk=>obtain ⟨_,_,_,z⟩:=z;exact z.elim
   | cont=>obtain ⟨_,_,_,z⟩:=z;exact z.elim
  ·obtain ⟨_,_,_,_,_,_,_,_,_,_,_,_,z⟩:=z
   exact z.elim
 ·next c d eF =>
  cases e2
  refine wpAny_mono (qH (X:=(fM (CXE P w fld) P w K mg base N qual scope fa cdv A outer s₀ H₀ E)) (dvs:=dvs) Fo hr hg m kp b vv ha hdb he hpl hsw pins s σ H { nx:=fun σ' H2=>False,rt:=fun _ _=>False,bk:=fun _ _=>False,ct:=fun _ _=>False } E J ⟨G,ow,δ,ds,R,e1,fun vs H1 sm r=>⟨ds++dd,_,⟨R.tb.same sm,r.append (hdd H1)⟩,eF,fun C' v u H' mc sm' r' rv=>q C' v u H' mc (R.same0.trans (sm.trans sm')) r' rv⟩⟩) (fun fl' s1 z=>?_) fun e s1 z=>?_
  ·cases fl' with
   | next=>obtain ⟨_,_,_,z⟩:=z;exact z.elim
   | ret v=>obtain ⟨_,_,_,_,_,z⟩:=z;exact z.elim
   | brk=>obtain ⟨_,_,_,z⟩:=z;exact z.elim
   | cont=>obtain ⟨_,_,_,z⟩:=z;exact z.elim
  ·obtain ⟨a,C',dx,T,u,H',rfl,I',Fl,La,Ld,LT,z⟩:=z
   exact Hh I' Fl La Ld (fun T' y=>by cases y;exact LT) z
 ·cases e2
end
end XC
namespace D3
open PySem
def wI (i:Nat) (f:FX) (cs:List Str) (fS:Str→D→FS):FS:=fun δ=>(f δ).bind fun o=>match o with
 | .o (.nx δ')=>some (.nx δ')
 | .ex c d=>if c ∈ cs∧flat d=true then (fS c d (δ.set i none)).bind fun o=>match o with
  | .rt r=>some (.rt r)
  | .nx δ'=>some (.nx (δ'.set i none))
  | _=>none
  else none
 | _=>none
end D3
namespace XC
open PySem PySem.Spec PyProof.Rows L2 My D3
structure At (K:PySem.W.Frag) (i:Nat) (a:Addr) (v:V) (d:D) (σ:L2.St) (H:Hp):Prop where
 sl:σ[i]? = some (some (.ref a))
 ra:RA K ok0 false H v d
 fl:flat d=true
section
variable {K:PySem.W.Frag} {fl:List Fl} {i:Nat} {a:Addr} {v:V} {d:D} {σ:L2.St} {H H':Hp}
theorem At.grow (h:At K i a v d σ H) (s:Same H H'):At K i a v d σ H':=⟨h.sl,h.ra.same s,h.fl⟩
theorem At.set {j:Nat} {x:Option V} (h:At K i a v d σ H) (n:i ≠ j):At K i a v d (σ.set j x) H:=⟨by rw [aY (Ne.symm n)];exact h.sl,h.ra,h.fl⟩
end
def tU (K:PySem.W.Frag) (fl:List Fl) (i:Nat) (a:Addr) (v:V) (d:D) (k:Kd) (f:FE):TE:=fun σ H Q=>∃ G ow δ x,Rel K fl G ow σ H δ∧At K i a v d σ H∧f δ=some x∧∀ y H',Same H H'→Rs K G.H0 ow H H' k y x→Q y H'
def tUB (K:PySem.W.Frag) (fl:List Fl) (i:Nat) (a:Addr) (v:V) (d:D) (k:Kd) (f:FA):TA:=fun σ H Q=>∃ G ow δ ds,Rel K fl G ow σ H δ∧At K i a v d σ H∧f δ=some ds∧∀ vs H',Same H H'→RAs K (DY G.H0 ow H k) (Kl k) H' vs ds→Q vs H'
def tUT (K:PySem.W.Frag) (fl:List Fl) (i:Nat) (a:Addr) (v:V) (d:D) (f:FT):TT:=fun σ H Q=>∃ G ow δ b,Rel K fl G ow σ H δ∧At K i a v d σ H∧f δ=some b∧∀ H',Same H H'→Q b H'
def Vb (K:PySem.W.Frag) (fl:List Fl) (i:Nat) (a:Addr) (v:V) (d:D) (G:Gh) (Dn:Ends):Oc→Prop
 | .nx δ'=>∀ ow' σ' H',Rel K fl G ow' σ' H' δ'→At K i a v d σ' H'→Dn.nx σ' H'
 | .rt r=>∀ y H',Same G.H0 H'→RA K (okN G.H0) false H' y r→Dn.rt y H'
 | _=>False
def tUS (K:PySem.W.Frag) (fl:List Fl) (i:Nat) (a:Addr) (v:V) (d:D) (f:FS):TS:=fun Dn σ H=>∃ G ow δ o,Rel K fl G ow σ H δ∧At K i a v d σ H∧f δ=some o∧Vb K fl i a v d G Dn o
structure Sc where
 i:Nat
 a:Addr
 v:V
 d:D
abbrev UE (X:Cx) (fl:List Fl) (z:Sc) (k:Kd) (e:Expr) (f:FE):Prop:=PE X e (tU X.K fl z.i z.a z.v z.d k f)
abbrev UB (X:Cx) (fl:List Fl) (z:Sc) (k:Kd) (es:List Expr) (f:FA):Prop:=PA X es (tUB X.K fl z.i z.a z.v z.d k f)
abbrev UT (X:Cx) (fl:List Fl) (z:Sc) (e:Expr) (f:FT):Prop:=PT X e (tUT X.K fl z.i z.a z.v z.d f)
abbrev UW (X:Cx) (fl:List Fl) (z:Sc) (e:Expr) (f:FT):Prop:=PW X e (tUT X.K fl z.i z.a z.v z.d f)
abbrev US (X:Cx) (fl:List Fl) (z:Sc) (s:Stmt) (f:FS):Prop:=PS X s (tUS X.K fl z.i z.a z.v z.d f)
abbrev USs (X:Cx) (fl:List Fl) (z:Sc) (s:List Stmt) (f:FS):Prop:=PSs X s (tUS X.K fl z.i z.a z.v z.d f)
section
variable {X:Cx} {fl:List Fl} {z:Sc} {e a b c:Expr} {es rest:List Expr} {st:Stmt} {sts body orelse:List Stmt} {k:Kd} {f fa fb:FE} {fs gs:FS} {ft gt:FT} {fr:FA} {pos:Pos}
theorem Nb (h:DE X fl k e f):UE X fl z k e f:=PE.imp h fun σ H Q h=>by
 obtain ⟨G,ow,δ,x,R,_,hf,q⟩:=h
 exact ⟨G,ow,δ,x,R,hf,q⟩
theorem tX {k':Kd} (h:UE X fl z k e f) (hc:∀ (Hb H:Hp) (G:Gh) (ow:Ow) (σ:L2.St) (δ:DS) (v:V) (d:D),Rel X.K fl G ow σ Hb δ→Rs X.K G.H0 ow Hb H k v d→Rs X.K G.H0 ow Hb H k' v d):UE X fl z k' e f:=PE.imp h fun σ H Q h=>by
 obtain ⟨G,ow,δ,x,R,A,hf,q⟩:=h
 exact ⟨G,ow,δ,x,R,A,hf,fun v H' s r=>q v H' s (hc _ _ G ow σ δ v x R r)⟩
theorem Az (h:UE X fl z .FC e f):UE X fl z .C e f:=tX h fun _ _ _ _ _ _ _ _ R r=>r.FC_C
theorem R8 (h:UE X fl z .C e f):UE X fl z .A e f:=tX h fun _ _ _ _ _ _ _ _ R r=>r.C_A R
theorem R9 (h:UE X fl z .C e f):UE X fl z .R e f:=tX h fun _ _ _ _ _ _ _ _ R r=>r.C_R R
theorem Hz (h:UE X fl z .FC e f):UE X fl z .A e f:=R8 (Az h)
theorem Pg (h:UE X fl z .FC e f):UE X fl z .R e f:=R9 (Az h)
theorem Ph (h:UE X fl z .FC e f):UE X fl z .F e f:=tX h fun _ _ _ _ _ _ _ _ R r=>r.FC_F R
theorem CN {bb:Bool} (h:PE X e (tEt z.i z.a bb)):UE X fl z .FC e (dC (.bool bb)):=PE.imp h fun σ H Q h=>by
 obtain ⟨G,ow,δ,x,R,A,hf,q⟩:=h
 cases hf
 exact ⟨A.sl,fun H' s=>q _ H' s (.inl ⟨rfl,.bl _⟩)⟩
theorem Pj:UB X fl z k [] aP:=PA.imp jo fun σ H Q h=>by
 obtain ⟨G,ow,δ,ds,R,_,hf,q⟩:=h
 cases hf
 exact q [] H (Same.refl H) .nil
theorem K1 (hk:isR k=true) (h:UE X fl z k e f) (hr:UB X fl z k es fr) (hs:starEach (e :: es) X.env=(false,eval e X.env) :: starEach es X.env:=by exact dD rfl):UB X fl z k (e :: es) (aA f fr):=PA.imp (eV h hr hs) fun σ H Q h=>by
 obtain ⟨G,ow,δ,ds,R,A,hf,q⟩:=h
 obtain ⟨d,e1,hf⟩:=bind1 hf
 obtain ⟨r,e2,hf⟩:=bind1 hf
 cases hf
 refine ⟨G,ow,δ,d,R,A,e1,fun v H1 s1 r1=>⟨G,ow,δ,r,R.grow s1,A.grow s1,e2,fun vs H2 s2 r2=>?_⟩⟩
 exact q _ H2 (s1.trans s2) (.cons ((r1.ra hk).same s2) (r2.imp (wA s1 hk) (fun z=>z)))
theorem Pk (h:UB X fl z .C es fr):UE X fl z .FC (.List es pos) (gC fr):=PE.imp (Ad h) fun σ H Q h=>by
 obtain ⟨G,ow,δ,d,R,A,hf,q⟩:=h
 obtain ⟨l,e1,e2⟩:=bind1 hf
 by_cases z:l.length ≤ sizeLine
 ·rw [if_pos z] at e2
  cases e2
  refine ⟨G,ow,δ,l,R,A,e1,fun vs H' s r=>⟨by rw [r.length];exact z,fun p hp=>?_⟩⟩
  have g:=gn hp (.lst vs)
  exact q _ _ (s.trans g) (.inr ⟨p,vs,l,rfl,rfl,s.free hp,gk,(r.track.imp (fun b w=>⟨w.1,fun e=>w.2 (e ▸ hp)⟩) (fun z=>z)).same g⟩)
 ·rw [if_neg z] at e2
  cases e2
theorem R_ {bb:Bool} (h:PE X e (tEt z.i z.a bb)) (he:∀ whole,isTrue e X.env whole=(do let v ← whole;standAt e.pos;holding [v] (truthy v)):=by intro _;rfl):UT X fl z e (fun _=>some bb):=PT.imp (ug h he) fun σ H Q h=>by
 obtain ⟨G,ow,δ,x,R,A,hf,q⟩:=h
 cases hf
 exact ⟨A.sl,fun H' s=>⟨bb,rfl,q H' s⟩⟩
theorem Pn (h:UE X fl z .FC e f) (he:∀ whole,isTrue e X.env whole=(do let v ← whole;standAt e.pos;holding [v] (truthy v)):=by intro _;rfl):UT X fl z e (bf f):=PT.imp (ug h he) fun σ H Q h=>by
 obtain ⟨G,ow,δ,c,R,A,hf,q⟩:=h
 obtain ⟨d,e1,e2⟩:=bind1 hf
 cases d <;> first | (cases e2;done) | skip
 cases e2
 refine ⟨G,ow,δ,_,R,A,e1,fun v H' s r=>?_⟩
 rcases r with ⟨_,r⟩ | ⟨_,_,_,_,r,_⟩
 ·obtain rfl:=RA.blE r
  exact ⟨_,rfl,q H' s⟩
 ·cases r
theorem K3 (h:UE X fl z .C e f) (he:∀ whole,isTrue e X.env whole=(do let v ← whole;standAt e.pos;holding [v] (truthy v)):=by intro _;rfl):UT X fl z e (bf f):=PT.imp (ug h he) fun σ H Q h=>by
 obtain ⟨G,ow,δ,c,R,A,hf,q⟩:=h
 obtain ⟨d,e1,e2⟩:=bind1 hf
 cases d <;> first | (cases e2;done) | skip
 cases e2
 refine ⟨G,ow,δ,_,R,A,e1,fun v H' s r=>?_⟩
 obtain rfl:=RA.blE (show RA X.K (okN H) false H' v _ from r)
 exact ⟨_,rfl,q H' s⟩
theorem HB (h:UT X fl z a ft):UT X fl z (.UnaryOp .Not a pos) (D3.jN ft):=PT.imp (zZ h) fun σ H Q h=>by
 obtain ⟨G,ow,δ,t,R,A,hf,q⟩:=h
 unfold D3.jN at hf
 cases e:ft δ with
 | none=>rw [e] at hf;cases hf
 | some x =>
  rw [e] at hf
  cases hf
  exact ⟨G,ow,δ,x,R,A,e,fun H' s=>q H' s⟩
theorem Pq (h:UT X fl z a ft):UW X fl z (.BoolOp .Or [a] pos) ft:=FQ h
theorem Nf (h1:UT X fl z a ft) (h2:UW X fl z (.BoolOp .Or (b :: rest) pos) gt):UW X fl z (.BoolOp .Or (a :: b :: rest) pos) (D3.tOr ft gt):=PW.imp (FW h1 h2) fun σ H Q h=>by
 obtain ⟨G,ow,δ,t,R,A,hf,q⟩:=h
 obtain ⟨x,e1,e2⟩:=bind1 hf
 refine ⟨G,ow,δ,x,R,A,e1,fun H1 s1=>?_⟩
 cases x with
 | true=>cases e2;exact pL (q H1 s1)
 | false=>exact qg ⟨G,ow,δ,t,R.grow s1,A.grow s1,e2,fun H2 s2=>q H2 (s1.trans s2)⟩
theorem Vc (h:UW X fl z a ft):UT X fl z a ft:=PW.pt h
theorem K4:USs X fl z [] eH:=PSs.imp BW fun Dn σ H h=>by
 obtain ⟨G,ow,δ,o,R,A,hf,q⟩:=h
 cases hf
 exact q ow σ H R A
theorem uV (h1:US X fl z st fs) (h2:USs X fl z sts gs):USs X fl z (st :: sts) (bF fs gs):=PSs.imp (uh h1 h2) fun Dn σ H h=>by
 obtain ⟨G,ow,δ,o,R,A,hf,q⟩:=h
 obtain ⟨o1,e1,e2⟩:=bind1 hf
 refine ⟨G,ow,δ,o1,R,A,e1,?_⟩
 cases o1 with
 | nx δ'=>exact fun ow' σ' H' R' A'=>⟨G,ow',δ',o,R',A',e2,q⟩
 | rt d=>cases e2;exact q
 | bk d=>cases e2;exact q.elim
 | ct d=>cases e2;exact q.elim
 | ex c f v=>cases e2;exact q.elim
theorem xW (h1:US X fl z st fs):USs X fl z [st] fs:=PSs.imp (wX h1) fun _ _ _ h=>h
theorem Sd (hc:UT X fl z c ft) (h1:USs X fl z body fs) (h2:USs X fl z orelse gs):US X fl z (.If c body orelse pos) (sIf ft fs gs):=PS.imp (BZ hc h1 h2) fun Dn σ H h=>by
 obtain ⟨G,ow,δ,o,R,A,hf,q⟩:=h
 obtain ⟨t,e1,e2⟩:=bind1 hf
 refine ⟨G,ow,δ,t,R,A,e1,fun H' s=>?_⟩
 cases t with
 | true=>exact pL ⟨G,ow,δ,o,R.grow s,A.grow s,e2,q⟩
 | false=>exact qg ⟨G,ow,δ,o,R.grow s,A.grow s,e2,q⟩
theorem HD (h:UE X fl z .R e f):US X fl z (.Return (some e) pos) (cP f):=PS.imp (z9 h) fun Dn σ H h=>by
 obtain ⟨G,ow,δ,o,R,A,hf,q⟩:=h
 obtain ⟨d,e1,e2⟩:=bind1 hf
 cases e2
 exact ⟨G,ow,δ,d,R,A,e1,fun v H' s r=>q v H' (R.same0.trans s) r⟩
theorem K5 {j:Nat} {x:Str} {pos':Pos} (hij:z.i ≠ j) (hfl:fl[j]? = some .A) (hN:X.N.Nodup) (hi:X.N[j]? = some x) (hv:X.env.scope.names.lookup x=some .local∨X.env.scope.names.lookup x=some .cell) (h:UE X fl z .A e f)
 (hs:swapsWith e (some (.Name x pos')) pos.line X.env=pure false:=by rfl) (hfn:X.fn x=true∨X.env.scope.names.lookup x=some .local:=by first | exact .inl rfl | exact .inr rfl) :
 US X fl z (.Assign [.Name x pos'] e pos) (bx j f):=PS.imp (wY (i:=j) hN hi hv h hs hfn) fun Dn σ H h=>by
 obtain ⟨G,ow,δ,o,R,A,hf,q⟩:=h
 unfold bx at hf
 by_cases hl:j < δ.length
 ·rw [if_pos hl] at hf
  obtain ⟨d,e1,e2⟩:=bind1 hf
  cases e2
  exact ⟨G,ow,δ,d,R,A,e1,fun v H' s r=>q ow _ H' ((R.grow s).setA hfl (oZ R hl) r) ((A.grow s).set hij)⟩
 ·rw [if_neg hl] at hf
  cases hf
end
end XC
namespace XC
open PySem PySem.Spec PyProof.Rows L2 My D3
section
variable {X:Cx} {pins:List (Addr × Obj)} {σ:L2.St} {H:Hp} {s:Shared} {a C I0 dx T D:Addr} {cn f ic n:Str} {u:Value} {i:Nat} {b0:Stmt} {suite:List Stmt} {np hpos:Pos}
theorem A_ {M:Model} {A:Around} {E:Value→Shared→Prop} {Q:Unit→Shared→Prop} (I:Inv X pins σ H s) (hi:X.N[i]? = some n) (hN:X.N.Nodup) (hl:X.env.scope.names.lookup n=some .local)
 (h:∀ s',Inv X pins (σ.set i none) H s'→Q () s'):wpAny M A (do bindName X.env n .none;unbindBehindTheSuite X.env n hpos) Q E s:=by
 obtain ⟨m,hn,hm⟩:=id I.loc
 have cls:(X.env.scope.kind == .class || (X.env.scope.kind == .module && X.env.locals != X.env.globals))=false:=by rw [I.ok.kind];rfl
 refine wpAny_nameGoes_keeps hl hn cls fun h' v0 hn' hs=>h _ ?_
 have neL:∀ b o,X.s₀.heap.get? b=some o→b ≠ X.env.locals:=fun b o e z=>by
  rw [z] at e
  exact absurd (Heap.lt_size e) (d_.mpr I.ok.above)
 refine ⟨I.ok,I.os,I.bare,⟨fun b o e z1 z2 z3=>(hs.2 b (neL b o e)).trans (I.base.keep b o e z1 z2 z3),fun b o e z1 z2 z3=>?_,I.base.free,fun b o e z1=>?_,I.base.tups,I.base.frzs,I.base.tbls⟩,⟨_,hn',fun j y v e1 e2 e3=>?_⟩,fun y c e=>?_,I.free,I.freeC,fun p hp=>?_,fun b ob e=>?_,by rw [bK];exact I.len⟩
 ·obtain ⟨sl,w⟩:=I.base.slot b o e z1 z2 z3
  exact ⟨sl,(hs.2 b (neL b o e)).trans w⟩
 ·obtain ⟨o',w⟩:=I.base.there b o e z1
  exact ⟨o',(hs.2 b (neL b o e)).trans w⟩
 ·have hj:j ≠ i:=fun z=>by
   subst z
   by_cases l:j < σ.length
   ·rw [cj l] at e2;cases e2
   ·rw [bI (by rw [bK];omega)] at e2;cases e2
  rw [aY (Ne.symm hj)] at e2
  obtain ⟨u',r',q⟩:=hm j y v e1 e2 e3
  refine ⟨u',r',?_⟩
  rcases q with ⟨k,e⟩ | ⟨k,c,e,z⟩
  ·refine .inl ⟨k,?_⟩
   have:y ≠ n:=fun e=>hj (ud hN e1 (e ▸ hi))
   simp [this,e]
  ·exact .inr ⟨k,c,e,z.sameBut hs (I.cne y c e)⟩
 ·obtain ⟨w,z⟩:=I.cell y c e
  exact ⟨w,z.sameBut hs (I.cne y c e)⟩
 ·obtain ⟨e,z1,z2,z3,z4⟩:=I.pin p hp
  exact ⟨(hs.2 p.1 z2).trans e,z1,z2,z3,z4⟩
 ·refine (I.hok b ob e).stay (fun c w hc q=>(hs.2 c fun z=>?_).trans q) (fun _ q=>q) fun _ _ q=>q
  rcases hc with y | y
  ·rw [← y,z,I.free] at e;cases e
  ·rw [z,I.free] at y;cases y
theorem Sg {Dn:Ends} {ts:TS} (I:Inv X pins σ H s) (F:Fly s.heap a C dx f u (some T)) (La:Loose X pins H a) (Ld:Loose X pins H dx) (LT:Loose X pins H T) (Ex:Exc X.K X.mg cn f C I0) (hD:D=C∨D=I0) (hic:X.mg ic=some (.ref D)) (hg:Gl X ic) (hdb:(ic == ("__debug__" : Str))=false)
 (hi:X.N[i]? = some n) (hN:X.N.Nodup) (hl:X.env.scope.names.lookup n=some .local)
 (hs:∀ oa od,s.heap.get? a=some oa→s.heap.get? dx=some od→PSs (bU X a oa dx od) (b0 :: suite) ts∧ts { nx:=fun σ' H'=>Dn.nx (σ'.set i none) H',rt:=Dn.rt } (σ.set i (some (.ref a))) H) :
 wpAny (model X.prog X.w) X.A (handleBy (.ref a) X.env [.ExceptHandler (some (.Name ic np)) (some n) (b0 :: suite) hpos]) (SP X pins Dn) X.xe s:=by
 obtain ⟨oa,od,ea,ed,IS⟩:=Ed I F La Ld
 obtain ⟨hps,ht⟩:=hs oa od ea ed
 obtain ⟨mgC,kp,hB,N,fI,mN,mI,TK,_⟩:=Ex
 have TT:=TK _ I.kIn
 obtain ⟨vs,sl,e1,_⟩:=F.obj
 refine wpAny_handleBy_cons (codeAny_handlers_test (lK (X:=bU X a oa dx od) IS hg hic ?_ hdb)) (by intro q;cases q)
 have go:∀ {E':Value→Shared→Prop} {Q':Bool→Shared→Prop},Q' true s→wpAny (model X.prog X.w) (X.A.mark (some (.ref a))) (excMatches (.ref a) (.ref D)) Q' E' s:=fun {E' Q'} q=>by
  obtain ⟨hp,g,d,tk,os⟩:=s
  rcases hD with rfl | rfl
  ·exact TT.match_self e1 rfl (by decide) q
  ·exact TT.match_up e1 rfl (by decide) q
 refine go ?_
 refine codeAny_handlers_suite_as ?_
 have LT':∀ p ∈ (bU X a oa dx od).pn++pins,p.1 ≠ T:=fun p hp=>by
  obtain ⟨Ta,Td,_⟩:=F.hd T rfl
  have hp:p ∈ (X.pn++[(a,oa),(dx,od)])++pins:=hp
  rcases bZ.mp hp with hp | hp
  ·rcases bZ.mp hp with hp | hp
   ·exact LT.pin p (bD _ hp)
   ·rcases aZ.mp hp with rfl | hp
    ·exact Ne.symm Ta
    ·rw [aU.mp hp];exact Ne.symm Td
  ·exact LT.pin p (aQ _ hp)
 refine Aw IS F LT.out LT.loc LT.new LT.cel LT' fun s1 I1 _=>?_
 refine uf (X:=bU X a oa dx od) (i:=i) (v:=V.ref a) I1 hN hi (.inl hl) rfl (fun s2 I2=>?_) (.inr hl)
 refine wpAny_mono (hps pins s2 _ H _ I2 ht) (fun fl s3 q=>?_) fun _ _ z=>z.elim
 cases fl with
 | ret v =>
  obtain ⟨v',σ',H',I3,rv,q3⟩:=q
  exact name_goes (jU I.ok I3) hl fun s4 I4=>⟨v',_,H',I4,rv,q3⟩
 | next =>
  obtain ⟨σ',H',I3,q3⟩:=q
  exact A_ (jU I.ok I3) hi hN hl fun s4 I4=>⟨_,H',I4,q3⟩
 | brk =>
  obtain ⟨_,_,_,z⟩:=q
  exact z.elim
 | cont =>
  obtain ⟨_,_,_,z⟩:=q
  exact z.elim
end
def HJ (X:Cx) (fl:List Fl) (fld:Addr→Str) (ic:Str) (i:Nat) (b0:Stmt) (suite:List Stmt) (fS:Str→D→FS) (c:Str):Prop :=
 ∃ C I0 Dc,Exc X.K X.mg c (fld C) C I0∧(Dc=C∨Dc=I0)∧X.mg ic=some (.ref Dc)∧∀ (a:Addr) (oa:Obj) (dx:Addr) (od:Obj) (u:Value) (v:V) (d:D),oa.cls = .ref C→oa.dict=some dx→PySem.W.notCls oa=true→(∀ h:Heap,h.get? dx=some od→h.Ns1 dx (fun z=>if z=fld C then some u else none))→RelV v u→flat d=true →
  USs (bU X a oa dx od) fl ⟨i,a,v,d⟩ (b0 :: suite) (fS c d)
section
variable {X:Cx} {fl:List Fl} {fld:Addr→Str} {i:Nat} {ic en:Str} {cs:List Str} {f:FX} {np hpos tpos:Pos} {b0 st:Stmt} {suite:List Stmt} {fS:Str→D→FS}
theorem K6 (h:DXE X fld fl st f) (hcs:∀ c ∈ cs,HJ X fl fld ic i b0 suite fS c) (hfi:fl[i]? = some .A)
 (hi:X.N[i]? = some en) (hN:X.N.Nodup) (hl:X.env.scope.names.lookup en=some .local) (hst:X.stack=X.env :: X.outer:=by rfl) (hfr:X.env.frame=some X.env.locals:=by rfl) (hx:X=X.nox:=by rfl)
 (hgi:Gl X ic:=by rfl) (hdi:(ic == ("__debug__" : Str))=false:=by decide) :
 DS1 X fl (.Try [st] [.ExceptHandler (some (.Name ic np)) (some en) (b0 :: suite) hpos] [] [] tpos) (wI i f cs fS):=by
 intro pins s σ H Dn J h0
 obtain ⟨G,ow,δ,o,R,hf,q⟩:=h0
 obtain ⟨o1,e1,e2⟩:=bind1 hf
 refine wpAny_Try_except ?_
 have one:∀ (D:Ends) (EX:XK),(tXE X.K X.mg fl f) D EX σ H→(∀ s',SP X pins D .next s'→SP X pins Dn .next s')→(∀ e s',XP fld X pins σ EX e s'→wpAny (model X.prog X.w) X.A (noteFrame e X.env) (fun _ s₂=>wpAny (model X.prog X.w) X.A (setFlight e none) (fun _ s₃=>wpAny (model X.prog X.w) X.A (handleBy e X.env [.ExceptHandler (some (.Name ic np)) (some en) (b0 :: suite) hpos]) (SP X pins Dn) X.xe s₃) X.xe s₂) X.xe s')→(D.rt=fun _ _=>False)→(D.bk=fun _ _=>False)→(D.ct=fun _ _=>False)→wpAny (model X.prog X.w) X.A (execs [st] X.env) (fun f s₁=>match f with | .next=>wpAny (model X.prog X.w) X.A (execs [] X.env) (SP X pins Dn) X.xe s₁ | f=>SP X pins Dn f s₁)
  (fun e s₁=>wpAny (model X.prog X.w) X.A (noteFrame e X.env) (fun _ s₂=>wpAny (model X.prog X.w) X.A (setFlight e none) (fun _ s₃=>wpAny (model X.prog X.w) X.A (handleBy e X.env [.ExceptHandler (some (.Name ic np)) (some en) (b0 :: suite) hpos]) (SP X pins Dn) X.xe s₃) X.xe s₂) X.xe s₁) s:=fun D EX hq hn hxx hD1 hD2 hD3=>by
  refine wpAny_execs_cons (wpAny_mono (h pins s σ H D EX J hq) (fun fl' s1 z=>?_) fun e s1 z=>hxx e s1 z)
  cases fl' with
  | next=>exact wpAny_execs_nil (wpAny_execs_nil (hn _ z))
  | ret v=>obtain ⟨_,_,_,_,_,z⟩:=z;rw [hD1] at z;exact z.elim
  | brk=>obtain ⟨_,_,_,z⟩:=z;rw [hD2] at z;exact z.elim
  | cont=>obtain ⟨_,_,_,z⟩:=z;rw [hD3] at z;exact z.elim
 split at e2
 ·next δ' =>
  cases e2
  refine one { nx:=fun σ' H2=>∃ ow',Rel X.K fl G ow' σ' H2 δ',rt:=fun _ _=>False,bk:=fun _ _=>False,ct:=fun _ _=>False } (fun _ _ _=>False) ⟨G,ow,δ,_,R,e1,fun ow' σ' H' R'=>⟨ow',R'⟩⟩ (fun s' z=>?_) (fun e s' z=>?_) rfl rfl rfl
  ·obtain ⟨σ',H',I',ow',R'⟩:=z
   exact ⟨σ',H',I',q ow' _ H' R'⟩
  ·obtain ⟨_,_,_,_,_,_,_,_,_,_,_,_,z⟩:=z
   exact z.elim
 ·next c d =>
  by_cases hc:c ∈ cs∧flat d=true
  case neg=>rw [if_neg hc] at e2;cases e2
  rw [if_pos hc] at e2
  obtain ⟨o2,e3,e4⟩:=bind1 e2
  obtain ⟨C,I0,Dc,Ex,hD,hic,hsu⟩:=hcs c hc.1
  refine one { nx:=fun σ' H2=>False,rt:=fun _ _=>False,bk:=fun _ _=>False,ct:=fun _ _=>False } (fun u C' H'=>C'=some C∧Same H H'∧∃ v,RelV v u∧RA X.K ok1 true H' v d) ⟨G,ow,δ,_,R,e1,fun C' v u H' mc sm' r' rv=>⟨by rw [Ex.mgC] at mc;cases mc;rfl,sm',v,rv,r'⟩⟩ (fun s' z=>?_) (fun e s' z=>?_) rfl rfl rfl
  ·obtain ⟨_,_,_,z⟩:=z;exact z.elim
  ·obtain ⟨a,C',dx,T,u,H',rfl,I',Fl,La,Ld,LT,hC,sm,v,rv,rd⟩:=z
   cases hC
   refine zf rfl I' hst hfr Fl La Ld (fun T' z=>by cases z;exact LT) fun s2 T2 I2 F2 o1 o2 LT2=>?_
   obtain ⟨vs,sl,w1,_⟩:=F2.obj
   obtain ⟨od,es1,ep1,w2,w3⟩:=F2.dic
   have t1:=hsu a ⟨.ref C,some dx,.fields vs,sl⟩ dx od u v d rfl rfl rfl (fun h' z=>⟨od,es1,ep1,z,w3⟩) rv hc.2
   have li:i < σ.length:=by
    rw [I2.len]
    exact (eN.mp hi).1
   refine Sg (D:=Dc) (i:=i) (ts:=tUS X.K fl i a v d (fS c d)) I2 F2 La Ld LT2 Ex hD hic hgi hdi hi hN hl fun oa od' ea ed=>?_
   rw [w1] at ea
   rw [w2] at ed
   cases ea
   cases ed
   refine ⟨t1,G,ow,_,_,Rel.forget (R.grow sm) hfi,⟨cj li,RA.flat hc.2 rd,hc.2⟩,e3,?_⟩
   split at e4
   ·cases e4
    exact fun y H2 s2 r2=>q y H2 s2 r2
   ·next δ' =>
    cases e4
    exact fun ow' σ' H2 R' _=>q ow' _ H2 (Rel.forget R' hfi)
   ·cases e4
 ·cases e2
end
structure SuiU (K:PySem.W.Frag) (mg:Str→Option Value) (fld:Addr→Str) (cn f ic:Str) (ts:List (Str × Bool)):Prop where
 ex:∃ C I,Exc K mg cn f C I∧fld C=f∧mg ic=some (.ref I)∧KitE K C∧AttE K C f∧∀ t ∈ ts,∃ D,mg t.1=some (.ref D)∧PySem.W.kitOne K (.ref C) (.ref D)=some t.2
def TsK (K:PySem.W.Frag) (mg:Str→Option Value) (C:Addr) (ts:List (Str × Bool)):Prop:=∀ t ∈ ts,∃ D,mg t.1=some (.ref D)∧PySem.W.kitOne K (.ref C) (.ref D)=some t.2
theorem K7 {K:PySem.W.Frag} {mg:Str→Option Value} {C:Addr}:TsK K mg C []:=gU _
theorem dO {K:PySem.W.Frag} {mg:Str→Option Value} {C D:Addr} {n:Str} {b:Bool} {ts:List (Str × Bool)} (m:mg n=some (.ref D)) (k:PySem.W.kitOne K (.ref C) (.ref D)=some b) (r:TsK K mg C ts):TsK K mg C ((n,b) :: ts):=gD.mpr ⟨⟨D,m,k⟩,r⟩
theorem K8 {K:PySem.W.Frag} {mg:Str→Option Value} {fld:Addr→Str} {cn f ic:Str} {ts:List (Str × Bool)} {C I:Addr} (E:Exc K mg cn f C I) (hf:fld C=f) (m:mg ic=some (.ref I)) (k:KitE K C) (a:AttE K C f) (t:TsK K mg C ts):SuiU K mg fld cn f ic ts:=⟨C,I,E,hf,m,k,a,t⟩
theorem SuiU.up {K:PySem.W.Frag} {mg:Str→Option Value} {fld:Addr→Str} {cn f ic:Str} {ts:List (Str × Bool)} (h:SuiU K mg fld cn f ic ts):ExcG K mg fld cn f ic:=by
 obtain ⟨C,I,E,hf,m,_⟩:=h.ex
 exact ⟨C,I,E,hf,m⟩
structure SuK (X:Cx) (f:Str) (ts:List (Str × Bool)) (i:Nat) (n:Str) (a:Addr) (oa:Obj) (dx:Addr) (od:Obj) (v:V):Prop where
 is:∀ (t:Str × Bool),t ∈ ts→Gl X t.1→(t.1 == ("__debug__" : Str))=false→∀ p p1 p2 pos,PE (bU X a oa dx od) (.Call (.Name "isinstance" p) [.Name n p1,.Name t.1 p2] [] pos) (tEt i a t.2)
 isv:X.mg "ValueError" = none→Gl X "ValueError" → ∀ p p1 p2 pos,PE (bU X a oa dx od) (.Call (.Name "isinstance" p) [.Name n p1,.Name "ValueError" p2] [] pos) (tEt i a true)
 att:∀ p1 pos,PE (bU X a oa dx od) (.Attribute (.Name n p1) f pos) (fun σ H Q=>σ[i]? = some (some (.ref a))∧Q v H)
section
variable {X:Cx} {fl:List Fl} {fld:Addr→Str} {c f ic n g:Str} {ts:List (Str × Bool)} {i k:Nat} {a dx:Addr} {oa od:Obj} {v:V} {d:D} {b0:Stmt} {suite:List Stmt} {fS:Str→D→FS} {gp:List Str} {W:List D→Option D}
theorem El {g:D→FS} (up:Bool) (Z:SuiU X.K X.mg fld c f ic ts) (hmi:X.mg "isinstance" = none) (hi:X.N[i]? = some n) (hS:∀ d,fS c d=g d)
 (hs:∀ a oa dx od v d C,X.mg c=some (.ref C)→oa.cls = .ref C→oa.dict=some dx→PySem.W.notCls oa=true→SuK X f ts i n a oa dx od v→flat d=true→USs (bU X a oa dx od) fl ⟨i,a,v,d⟩ (b0 :: suite) (g d))
 (hv:Vis X.env.scope n:=by first | exact Or.inl rfl | exact Or.inr (Or.inl rfl) | exact Or.inr (Or.inr rfl)) (hgi:Gl X "isinstance" := by rfl)
 (hdn:(n == ("__debug__" : Str))=false:=by decide) (hcn:(n == ("__classdict__" : Str))=false:=by decide)
 (hb:∀ p1,attributeBase (.Name n p1) f X.env (eval (.Name n p1) X.env)=eval (.Name n p1) X.env:=by intro _;rfl) :
 HJ X fl fld (if up=true then ic else c) i b0 suite fS c:=by
 obtain ⟨C,I0,Ex,hf,mI,Kt,At,hk⟩:=Z.ex
 have main:∀ (a:Addr) (oa:Obj) (dx:Addr) (od:Obj) (u:Value) (v:V) (d:D),oa.cls = .ref C→oa.dict=some dx→PySem.W.notCls oa=true→(∀ h:Heap,h.get? dx=some od→h.Ns1 dx (fun z=>if z=fld C then some u else none))→RelV v u→flat d=true→USs (bU X a oa dx od) fl ⟨i,a,v,d⟩ (b0 :: suite) (fS c d):=fun a oa dx od u v d hoa hod hnc hdx rv hfd=>by
  rw [hS]
  refine hs a oa dx od v d C Ex.mgC hoa hod hnc ⟨fun t ht hg hdb p p1 p2 pos=>?_,fun hmv hgv p p1 p2 pos=>?_,fun p1 pos=>?_⟩ hfd
  ·obtain ⟨D,m,ko⟩:=hk t ht
   exact Pb Kt ko hoa hod hnc m hgi hmi hg hi hv hdb hdn hcn
  ·exact Hx (CJ (a:=a) (oa:=oa) (dx:=dx) (od:=od) (T0 := "ValueError") Ex rfl (by decide) hoa hmv (by decide +kernel) hgi hmi hgv hi hv (by decide) (by decide) hdn hcn)
  ·exact R7 At hoa hod hnc (by rw [hf] at hdx;exact hdx) rv hi hv hdn hcn (hb p1)
 cases up with
 | true=>exact ⟨C,I0,I0,by rw [hf];exact Ex,.inr rfl,mI,main⟩
 | false=>exact ⟨C,I0,C,by rw [hf];exact Ex,.inl rfl,Ex.mgC,main⟩
theorem Pu (S:SuK X f ts i n a oa dx od v) {p1 pos:Pos}:UE (bU X a oa dx od) fl ⟨i,a,v,d⟩ .FC (.Attribute (.Name n p1) f pos) (dC d):=PE.imp (S.att p1 pos) fun σ H Q h=>by
 obtain ⟨G,ow,δ,x,R,A,hf,q⟩:=h
 cases hf
 exact ⟨A.sl,q v H (Same.refl H) (.inl ⟨A.fl,A.ra⟩)⟩
theorem HN (S:SuK X f ts i n a oa dx od v) (hq:HasQ X.prog X.w X.K X.mg X.base k g gp (spD X.K W)) (hr:Room k X.A) (hgg:Gl X g:=by rfl) (hdg:(g == ("__debug__" : Str))=false:=by decide) {p p1 p2 pos:Pos} :
 UE (bU X a oa dx od) fl ⟨i,a,v,d⟩ .C (.Call (.Name g p) [.Attribute (.Name n p1) f p2] [] pos) (fun _=>W [d]) :=
 PE.imp (Hr (X:=bU X a oa dx od) (p:=p) (pos:=pos) hq (Room.q hr) (eV (S.att p1 p2) jo (by exact dD rfl)) hgg hdg (by exact dD rfl) (by exact nO rfl)) fun σ H Q h=>by
  obtain ⟨G,ow,δ,x,R,A,hf,q⟩:=h
  exact ⟨A.sl,[d],x,⟨R.tb,.cons (RA.imp (fun _ z=>z.elim) (fun z=>by cases z) A.ra) .nil⟩,hf,fun y H' s r=>q y H' s r⟩
end
end XC
namespace XC
open PySem PySem.Spec PyProof.Rows L2 My D3
structure PreE (a:Addr) (oa:Obj) (dx:Addr) (od:Obj) (A:Around) (outer:List Env) (s:Shared) (H:Hp):Prop where
 hd:A.handled=some (.ref a)
 ga:s.heap.get? a=some oa
 gd:s.heap.get? dx=some od
 ha:H a=none
 hx:H dx=none
 fa:a ∉ frs outer
 fx:dx ∉ frs outer
 ca:∀ v,oa.data ≠ .cell v
 cx:∀ v,od.data ≠ .cell v
section
variable {P:Program} {w:World} {K:PySem.W.Frag} {mg:Str→Option Value} {base:Heap} {N:List Str} {qual:Str} {scope:Scope} {f:Addr} {cd:Value} {A:Around} {outer:List Env} {s:Shared} {H:Hp} {E:XK} {a dx:Addr} {oa od:Obj}
theorem HS {pins:List (Addr × Obj)} {σ:L2.St} {H':Hp} {s':Shared} (p:PreE a oa dx od A outer s H) (I:L2.Inv (cxQ P w K mg base N qual scope f cd A outer s H E) pins σ H' s') :
 L2.Inv (bU (cxQ P w K mg base N qual scope f cd A outer s H E) a oa dx od) pins σ H' s':=by
 refine ⟨⟨I.ok.mod,I.ok.kind,I.ok.glob,I.ok.blt,I.ok.above,I.ok.inj,I.ok.has,I.ok.cab,fun z=>(by cases z),I.ok.frames,I.ok.stk,I.ok.exf,I.ok.bs,I.ok.bsz,I.ok.noex,I.ok.exfs,I.ok.funs,I.ok.frf⟩,I.os,I.bare,I.base,I.loc,I.cell,I.free,I.freeC,fun q hq=>?_,I.hok,I.len⟩
 have hq:q ∈ (([]:List (Addr × Obj))++[(a,oa),(dx,od)])++pins:=hq
 have lt:∀ b o,s.heap.get? b=some o→b ≠ (cxQ P w K mg base N qual scope f cd A outer s H E).env.locals:=fun b o e z=>by
  have:=Heap.lt_size e
  rw [z] at this
  exact iM _ this
 rcases bZ.mp hq with hq | hq
 ·rcases aZ.mp hq with rfl | hq
  ·exact ⟨I.base.keep _ _ p.ga p.ha p.fa (fun z=>by cases z),I.base.free _ _ p.ga p.ha (fun z=>by cases z),lt _ _ p.ga,p.fa,p.ca⟩
  ·rw [aU.mp hq]
   exact ⟨I.base.keep _ _ p.gd p.hx p.fx (fun z=>by cases z),I.base.free _ _ p.gd p.hx (fun z=>by cases z),lt _ _ p.gd,p.fx,p.cx⟩
 ·exact I.pin q (aQ _ hq)
theorem Em {A:Around} {o:Value} {env:Env} (h:A.handled=some o):(A.deeper env).mark (some o)=A.deeper env:=by
 obtain ⟨hd,d,f,g,u⟩:=A
 cases h
 rfl
theorem En {sts:List Stmt} {t:TS} (p:PreE a oa dx od A outer s H) (h:PSs (bU (cxQ P w K mg base N qual scope f cd A outer s H E) a oa dx od) sts t):PSs (cxQ P w K mg base N qual scope f cd A outer s H E) sts t:=fun pins s1 σ H1 D I hw=>by
 have I2:=HS p I
 have g:=h pins s1 σ H1 D I2 hw
 have g:wpAny (model P w) ((A.deeper (envOfC qual scope s.heap.objs.size f cd)).mark (some (.ref a))) (execs sts (envOfC qual scope s.heap.objs.size f cd)) (SP (bU (cxQ P w K mg base N qual scope f cd A outer s H E) a oa dx od) pins D) (fun _ _=>False) s1:=g
 rw [Em p.hd] at g
 refine wpAny_mono g (fun fl s' q=>?_) fun _ _ z=>z.elim
 cases fl with
 | next=>obtain ⟨σ',H',J,q⟩:=q;exact ⟨σ',H',jU I.ok J,q⟩
 | ret u=>obtain ⟨v,σ',H',J,r,q⟩:=q;exact ⟨v,σ',H',jU I.ok J,r,q⟩
 | brk=>obtain ⟨σ',H',J,q⟩:=q;exact ⟨σ',H',jU I.ok J,q⟩
 | cont=>obtain ⟨σ',H',J,q⟩:=q;exact ⟨σ',H',jU I.ok J,q⟩
end
def spE (a:Addr) (b:Bool):Sp:=fun vs H Q _=>vs=[.ref a]∧Tb H∧∀ H',Same H H'→Q (.bl b) H'
structure HasE (P:Program) (w:World) (K:PySem.W.Frag) (mg:Str→Option Value) (base:Heap) (n:Nat) (x c:Str) (b:Bool):Prop where
 ex:∃ (f:Addr) (fd:FuncData) (q:Str) (C:Addr),mg c=some (.ref C)∧(∀ a oa dx od,oa.cls = .ref C→oa.dict=some dx→PySem.W.notCls oa=true→FnOkP P w K mg base (PreE a oa dx od) n f fd [q] (spE a b))∧Binds K fd [q] []∧PySem.W.keepIn K (.ref f)=true∧mg x=some (.ref f)
theorem FnOkP.mono {P:Program} {w:World} {K:PySem.W.Frag} {mg:Str→Option Value} {base:Heap} {Pre:Around→List Env→Shared→Hp→Prop} {k n:Nat} {f:Addr} {fd:FuncData} {ps:List Str} {sp:Sp} (h:FnOkP P w K mg base Pre k f fd ps sp) (l:k ≤ n):FnOkP P w K mg base Pre n f fd ps sp :=
 ⟨h.len,fun A outer s H args us vs Q E hr e0 hb r hp hs=>h.run A outer s H args us vs Q E (hr.mono l) e0 hb r hp hs⟩
theorem HasE.mono {P:Program} {w:World} {K:PySem.W.Frag} {mg:Str→Option Value} {base:Heap} {k n:Nat} {x c:Str} {b:Bool} (h:HasE P w K mg base k x c b) (l:k ≤ n):HasE P w K mg base n x c b:=by
 obtain ⟨f,fd,q,C,m,F,r⟩:=h.ex
 exact ⟨f,fd,q,C,m,fun a oa dx od h1 h2 h3=>(F a oa dx od h1 h2 h3).mono l,r⟩
theorem HW {K:PySem.W.Frag} {fl:List Fl} {σ:L2.St} {H:Hp} (t:Tb H):Rel K fl ⟨H,H,fun _=>none,fun _=>[],t⟩ ow0 σ H (aG σ.length none):=by
 have no:∀ (i:Nat) (x:U),(aG σ.length (none:Option U))[i]? = some (some x)→False:=fun i x h=>by
  rw [cH] at h
  split at h <;> cases h
 exact ⟨Same.refl _,Same.refl _,(by rw [aL]),(fun i a h=>by cases h),(fun i j a h=>by cases h),fun i _=>rfl,(fun i d h=>(no i _ h).elim),(fun i d h=>(no i _ h).elim),(fun i a h=>by cases h),(fun i j a h=>by cases h),(fun i j a h=>by cases h),fun i _=>rfl,fun i d _ h=>(no i _ h).elim⟩
section
variable {P:Program} {w:World} {K:PySem.W.Frag} {mg:Str→Option Value} {base:Heap} {x p c:Str} {N:List Str} {st:Stmt} {k n:Nat} {fs:FS} {fl:List Fl} {b:Bool}
theorem Px {C:Addr} (Dd:Dg K mg x st [p]) (S:FnScope N [p] (aO st)) (hC:mg c=some (.ref C)) (hN:N[0]? = some p) (hf:fs (aG N.length none)=some (.rt (.bool b)))
 (hbody:∀ (f:Addr) (cdv:Value) (A:Around) (outer:List Env) (s:Shared) (H:Hp) (E:XK) (a:Addr) (oa:Obj) (dx:Addr) (od:Obj),oa.cls = .ref C→oa.dict=some dx→PySem.W.notCls oa=true→RoomQ k (A.deeper (envOfC x (aO st) s.heap.objs.size f cdv)) →
  USs (bU (cxQ P w K mg base N x (aO st) f cdv A outer s H E) a oa dx od) fl ⟨0,a,.non,.none⟩ (gG st) fs) :
 HasE P w K mg base (k + 1) x c b:=by
 obtain ⟨f,fd,Fn,bb,m⟩:=Dd.ex
 refine ⟨f,fd,p,C,hC,fun a oa dx od h1 h2 h3=>?_,bb,Fn.kp,m⟩
 obtain ⟨oc,od',dV,kV,doc,pm,an,cdv,ct,osl,rfl,lk,hcd⟩:=Fn.ex
 refine Hq lk hcd S (fun vs H Q E h=>by rw [h.1];rfl) fun A outer s H vs Q E hr hp h=>?_
 obtain ⟨rfl,tb,q⟩:=h
 refine ⟨_,En hp (hbody f cdv A outer s H E a oa dx od h1 h2 h3 hr),_,_,_,Oc.rt (.bool b),HW tb,⟨?_,.non,rfl⟩,?_,?_⟩
 ·cases N with
  | nil=>cases hN
  | cons y N=>rfl
 ·have:(L2.start N [V.ref a]).length=N.length:=by
   cases N with
   | nil=>cases hN
   | cons y N=>simp [L2.start]
  rw [this]
  exact hf
 ·exact fun y H' s' r=>by
   obtain rfl:=RA.blE r
   exact q H' s'
end
section
variable {X:Cx} {fl:List Fl} {z:Sc} {e a b:Expr} {rest:List Expr} {f fa fb:FE} {pos:Pos}
theorem Py {op:BoolOp} (h:UE X fl z .FC a fa):UE X fl z .FC (.BoolOp op [a] pos) fa:=FZ h
theorem Ng (h1:UE X fl z .FC a fa) (h2:UE X fl z .FC (.BoolOp .Or (b :: rest) pos) fb):UE X fl z .FC (.BoolOp .Or (a :: b :: rest) pos) (dOr fa fb):=PE.imp (Rh h1 h2) fun σ H Q h=>by
 obtain ⟨G,ow,δ,d,R,A,hf,q⟩:=h
 obtain ⟨x,e1,e2⟩:=bind1 hf
 refine ⟨G,ow,δ,x,R,A,e1,fun v H1 s1 r1=>?_⟩
 have r1:RA X.K ok1 true H1 v x:=Rs.B_P (L:=[]) (Rs.A_B [] (Rs.F_A R (Rs.FC_F R r1)))
 split at e2
 ·obtain rfl:=RA.blE r1
  cases e2
  exact ⟨true,rfl,pL (q _ H1 s1 (Rs.of_flat rfl (.bl _)))⟩
 ·obtain rfl:=RA.blE r1
  exact ⟨false,rfl,qg ⟨G,ow,δ,d,R.grow s1,A.grow s1,e2,fun u H2 s2 r2=>q u H2 (s1.trans s2) (r2.back s1)⟩⟩
 ·cases e2
theorem Pz (h1:UE X fl z .FC a fa):UE X fl z .FC (.UnaryOp .Not a pos) (Ag fa):=PE.imp (Ga h1) fun σ H Q h=>by
 obtain ⟨G,ow,δ,d,R,A,hf,q⟩:=h
 obtain ⟨x,e1,e2⟩:=bind1 hf
 refine ⟨G,ow,δ,x,R,A,e1,fun v H1 s1 r1=>?_⟩
 have r1:RA X.K ok1 true H1 v x:=Rs.B_P (L:=[]) (Rs.A_B [] (Rs.F_A R (Rs.FC_F R r1)))
 split at e2
 ·obtain rfl:=RA.blE r1
  cases e2
  exact ⟨_,rfl,q _ H1 s1 (Rs.of_flat rfl (.bl _))⟩
 ·cases e2
theorem K9 {j:Nat} {x:Str} {pos':Pos} (hij:z.i ≠ j) (hfl:fl[j]? = some .O) (hN:X.N.Nodup) (hi:X.N[j]? = some x) (hv:X.env.scope.names.lookup x=some .local∨X.env.scope.names.lookup x=some .cell) (h:UE X fl z .F e f)
 (hs:swapsWith e (some (.Name x pos')) pos.line X.env=pure false:=by rfl) (hfn:X.fn x=true∨X.env.scope.names.lookup x=some .local:=by first | exact .inl rfl | exact .inr rfl) :
 US X fl z (.Assign [.Name x pos'] e pos) (bx j f):=PS.imp (wY (i:=j) hN hi hv h hs hfn) fun Dn σ H h=>by
 obtain ⟨G,ow,δ,o,R,A,hf,q⟩:=h
 unfold bx at hf
 by_cases hl:j < δ.length
 ·rw [if_pos hl] at hf
  obtain ⟨d,e1,e2⟩:=bind1 hf
  cases e2
  refine ⟨G,ow,δ,d,R,A,e1,fun v H' s r=>?_⟩
  obtain ⟨ow',R'⟩:=R.setO s hfl (oZ R hl) r
  exact q ow' _ H' R' ((A.grow s).set hij)
 ·rw [if_neg hl] at hf
  cases hf
theorem At.upd {K:PySem.W.Frag} {i:Nat} {a b:Addr} {v:V} {d:D} {σ:L2.St} {H:Hp} {u o:HO} [cu:Chg u] (h:At K i a v d σ H) (e:H b=some u):At K i a v d σ (upd H b o):=⟨h.sl,RA.upd e (fun z=>z.elim) h.ra,h.fl⟩
theorem Eo {j:Nat} {x:Str} {vpos apos cpos:Pos} (hfl:fl[j]? = some .O) (h:UE X fl z .A e f) (hN:X.N[j]? = some x) (hv:Vis X.env.scope x:=by first | exact Or.inl rfl | exact Or.inr (Or.inl rfl) | exact Or.inr (Or.inr rfl)) (hd:(x == ("__debug__" : Str))=false:=by decide)
 (hcd:(x == ("__classdict__" : Str))=false:=by decide)
 (hs:swapsWith (.Call (.Attribute (.Name x vpos) "append" apos) [e] [] cpos) none pos.line X.env=pure false:=by rfl)
 (hbase:attributeBase (.Name x vpos) "append" X.env (eval (.Name x vpos) X.env)=eval (.Name x vpos) X.env:=by rfl)
 (hfew:((backTo cpos (starEach [e] X.env)).all (fun x=>!x.1) && (backToKw cpos (keywordEach [] X.env)).all (fun x=>x.1.isSome)
  && decide (([e]:List Expr).length + ([]:List Keyword).length + (if ([]:List Keyword).isEmpty then 0 else 1) < 30))=true:=by rfl)
 (hline:(apos.endLine == cpos.line)=true:=by rfl) (hst:starEach [e] X.env=(false,eval e X.env) :: starEach [] X.env:=by exact dD rfl) (hplain:(backTo cpos (starEach [] X.env)).any (·.1)=false:=by rfl) :
 US X fl z (.Expr (.Call (.Attribute (.Name x vpos) "append" apos) [e] [] cpos) pos) (pq j f) :=
 PS.imp (BX (M6 PySem.F.plainAttrs_list PySem.F.slot_list_append PySem.F.type_list_append rE (lg hN hv hd hcd) (eV h jo hst) hbase hfew hline hst hplain) hs) fun Dn σ H h=>by
 obtain ⟨G,ow,δ,o,R,A,hf,q⟩:=h
 obtain ⟨x,e1,hf1⟩:=bind1 hf
 obtain ⟨d,e2,hf2⟩:=bind1 hf1
 clear hf hf1
 have hf:=hf2
 clear hf2
 split at hf
 case h_2=>cases hf
 next l =>
 by_cases hl:l.length < 1000000
 ·rw [if_pos hl] at hf
  cases hf
  obtain ⟨a,xs,ho,h1,h2,h3⟩:=Al R hfl e1
  refine ⟨_,h1,.inl ⟨rfl,_,SqL.of h2⟩,G,ow,δ,d,R,A,e2,fun v H' s r=>?_⟩
  have R':=R.grow s
  refine ⟨a,xs,v,rfl,rfl,s _ _ h2,by rw [h3.length];exact Nat.lt_trans hl (by decide),?_⟩
  exact q ow σ _ (R'.mut hfl ho ((h3.same s).append (.cons r .nil))) ((A.grow s).upd (s _ _ h2))
 ·rw [if_neg hl] at hf
  cases hf
end
def namesOf:List Expr→List Str→Prop
 | [],[]=>True
 | .Name n _ :: es,m :: ms=>n=m∧namesOf es ms
 | _,_=>False
theorem zp {K:PySem.W.Frag} {c:Value}:∀ {Ds:List Addr},(∀ D ∈ Ds,PySem.W.kitOne K c (.ref D)=some false)→PySem.W.kitAny K c (Ds.map Value.ref)=some false
 | [],_=>rfl
 | D :: Ds,h=>by
  rw [bC,PySem.W.kitAny,h D aJ]
  exact zp fun x hx=>h x (aH _ hx)
section
variable {X:Cx} {a C dx:Addr} {oa od:Obj} {i:Nat} {n:Str} {p p1 p2 pos:Pos} {x1:Nat}
theorem zq:∀ {es:List Expr} {ms:List Str} {ts:List (Str × Bool)},namesOf es ms→(∀ m ∈ ms,∃ t ∈ ts,t=(m,false)∧Gl X m∧(m == ("__debug__" : Str))=false)→TsK X.K X.mg C ts →
 ∃ Ds:List Addr,Ds.length=ms.length∧(∀ D ∈ Ds,PySem.W.kitOne X.K (.ref C) (.ref D)=some false)∧PA (bU X a oa dx od) es (fun _ H Q=>Q (Ds.map V.ref) H)
 | [],[],_,_,_,_=>⟨[],rfl,(fun _ h=>by cases h),jo⟩
 | .Name n p :: es,m :: ms,ts,⟨e,h⟩,hm,ht=>by
  subst e
  obtain ⟨Ds,l,k,g⟩:=zq h (fun m hm'=>hm m (aH _ hm')) ht
  obtain ⟨t,t1,rfl,t2,t3⟩:=hm n aJ
  obtain ⟨D,d1,d2⟩:=ht _ t1
  refine ⟨D :: Ds,by rw [cA,cA,l],fun x hx=>?_,PA.imp (eV (wW (X:=bU X a oa dx od) (v:=.ref D) t2 d1 rfl t3) g (dD rfl)) fun σ H Q q=>q⟩
  rcases aZ.mp hx with rfl | hx
  ·exact d2
  ·exact k x hx
end
structure SuT (X:Cx) (ts:List (Str × Bool)) (i:Nat) (n:Str) (a:Addr) (oa:Obj) (dx:Addr) (od:Obj):Prop where
 is:∀ (es:List Expr) (ms:List Str) x1,namesOf es ms→(∀ m ∈ ms,∃ t ∈ ts,t=(m,false)∧Gl X m∧(m == ("__debug__" : Str))=false)→ms.length ≤ 1000→∀ p p1 p2 pos,PE (bU X a oa dx od) (.Call (.Name "isinstance" p) [.Name n p1,.Tuple es x1 p2] [] pos) (tEt i a false)
 isv:X.mg "ValueError" = none→Gl X "ValueError" → ∀ p p1 p2 pos,PE (bU X a oa dx od) (.Call (.Name "isinstance" p) [.Name n p1,.Name "ValueError" p2] [] pos) (tEt i a true)
section
variable {X:Cx} {fl:List Fl} {fld:Addr→Str} {c f ic n g:Str} {ts:List (Str × Bool)} {i k:Nat} {a dx C:Addr} {oa od:Obj} {v:V} {d:D} {b:Bool}
theorem SuiU.at (Z:SuiU X.K X.mg fld c f ic ts) (hc:X.mg c=some (.ref C)):(∃ I,Exc X.K X.mg c f C I)∧KitE X.K C∧TsK X.K X.mg C ts:=by
 obtain ⟨C',I0,Ex,hf,mI,Kt,At,hk⟩:=Z.ex
 have:=Ex.mgC
 rw [hc] at this
 cases this
 exact ⟨⟨I0,Ex⟩,Kt,hk⟩
theorem PB (Z:SuiU X.K X.mg fld c f ic ts) (hc:X.mg c=some (.ref C)) (hoa:oa.cls = .ref C) (hod:oa.dict=some dx) (hnc:PySem.W.notCls oa=true) (hmi:X.mg "isinstance" = none) (hi:X.N[i]? = some n)
 (hv:Vis X.env.scope n:=by first | exact Or.inl rfl | exact Or.inr (Or.inl rfl) | exact Or.inr (Or.inr rfl)) (hgi:Gl X "isinstance" := by rfl)
 (hdn:(n == ("__debug__" : Str))=false:=by decide) (hcn:(n == ("__classdict__" : Str))=false:=by decide):SuT X ts i n a oa dx od:=by
 obtain ⟨⟨I0,Ex⟩,Kt,hk⟩:=Z.at hc
 refine ⟨fun es ms x1 hn hm hl p p1 p2 pos=>?_,fun hmv hgv p p1 p2 pos=>?_⟩
 ·obtain ⟨Ds,l,ko,pa⟩:=zq (a:=a) (oa:=oa) (dx:=dx) (od:=od) hn hm hk
  exact Pa Kt (zp ko) hoa hod hnc pa (by rw [l];exact bV hl (by decide)) hgi hmi hi hv hdn hcn
 ·exact Hx (CJ (a:=a) (oa:=oa) (dx:=dx) (od:=od) (T0 := "ValueError") Ex rfl (by decide) hoa hmv (by decide +kernel) hgi hmi hgv hi hv (by decide) (by decide) hdn hcn)
end
section
variable {X:Cx} {fl:List Fl} {c g n:Str} {i k:Nat} {a dx C:Addr} {oa od:Obj} {v:V} {d:D} {b:Bool} {p p1 pos:Pos}
theorem HX (h:HasE X.prog X.w X.K X.mg X.base k g c b) (hc:X.mg c=some (.ref C)) (hoa:oa.cls = .ref C) (hod:oa.dict=some dx) (hnc:PySem.W.notCls oa=true) (hr:Room k X.A) (hi:X.N[i]? = some n) (hst:X.stack=X.env :: X.outer:=by rfl) (hfr:X.env.frame=some X.env.locals:=by rfl)
 (hv:Vis X.env.scope n:=by first | exact Or.inl rfl | exact Or.inr (Or.inl rfl) | exact Or.inr (Or.inr rfl)) (hg:Gl X g:=by rfl) (hdb:(g == ("__debug__" : Str))=false:=by decide) (hdn:(n == ("__debug__" : Str))=false:=by decide) (hcn:(n == ("__classdict__" : Str))=false:=by decide) :
 UE (bU X a oa dx od) fl ⟨i,a,v,d⟩ .FC (.Call (.Name g p) [.Name n p1] [] pos) (dC (.bool b)):=by
 intro pins s σ H Q J hh
 obtain ⟨f,fd,q0,C',mc,F,bb,kp,m⟩:=h.ex
 rw [hc] at mc
 cases mc
 obtain ⟨G,ow,δ,x,R,A,hf,q⟩:=hh
 cases hf
 refine wpAny_Call_Name_kw (lK J hg m ?_ hdb)
 refine PySem.W.callWith_K (h₀:=(bU X a oa dx od).base) J.ok.mod.kin kp (thn ((eV (lg (X:=bU X a oa dx od) (pos:=p1) hi hv hdn hcn) jo (dD rfl)) pos pins s σ H (fun vs H1=>vs=[.ref a]∧H1=H) J ⟨_,A.sl,rfl,rfl⟩) fun us s1 z=>?_) (dD rfl) (nO rfl)
 obtain ⟨vs,H1,J1,r,rfl,rfl⟩:=z
 refine ⟨J1.kIn,CK (F a oa dx od hoa hod hnc) (Room.q hr) bb J1 r ?_ ⟨rfl,R.tb,fun H' s'=>q _ H' s' (.inl ⟨rfl,.bl _⟩)⟩⟩
 obtain ⟨g1,g2,g3,g4,g5⟩:=J1.pin (a,oa) (bD _ (aQ _ aJ))
 obtain ⟨k1,k2,k3,k4,k5⟩:=J1.pin (dx,od) (bD _ (aQ _ (aH _ aJ)))
 have fr:∀ b0:Addr,b0 ≠ X.env.locals→b0 ∉ frs X.outer→b0 ∉ frs X.stack:=fun b0 h1 h2=>by
  rw [hst]
  unfold frs
  rw [fP,hfr]
  intro z
  rcases aZ.mp z with z | z
  ·exact h1 z
  ·exact h2 z
 exact ⟨rfl,g1,k1,g2,k2,fr _ g3 g4,fr _ k3 k4,g5,k5⟩
end
end XC
namespace XC
open PySem PySem.Spec PyProof.Rows L2 My D3
theorem PW.nox {X:Cx} {e:Expr} {t:TT} (h:PW X.nox e t):PW X e t:=fun wh pins s σ H Q I hw =>
 wpAny_mono (h wh pins s σ H Q (I.wish _) hw) (fun b s' q=>by
  obtain ⟨H',J,q⟩:=q
  exact ⟨H',J.wish _,q⟩) fun _ _ z=>z.elim
section
variable {P:Program} {w:World} {K:PySem.W.Frag} {mg:Str→Option Value} {base:Heap} {N:List Str} {qual:Str} {scope:Scope} {fa:Addr} {cdv:Value} {A:Around} {outer:List Env} {s₀:Shared} {H₀:Hp} {E:XK} {fld:Addr→Str}
variable {fl:List Fl} {n:Nat} {x:Str} {ps:List Str} {F:List D→Option Or} {e b:Expr} {es rest:List Expr} {fs:FA} {ft:FT} {f g:FX} {body orelse:List Stmt} {p pos pos1 pos2 pos3:Pos}
theorem HY {ta:TA} {sp:Sp} {f:Addr} {fd:FuncData} (Fo:FnOk P w K mg base (CXE P w fld) n f fd ps sp) (hr:Room n (A.deeper (envOfC qual scope s₀.heap.objs.size fa cdv))) (hg:Gl (fM (CXE P w fld) P w K mg base N qual scope fa cdv A outer s₀ H₀ E) x) (hm:mg x=some (.ref f)) (hk:PySem.W.keepIn K (.ref f)=true) (hb:Binds K fd ps [])
 (ha:PA (fM (CXE P w fld) P w K mg base N qual scope fa cdv A outer s₀ H₀ E).nox (e :: es) ta) (hdb:(x == ("__debug__" : Str))=false)
 (he:starEach (e :: es) (fM (CXE P w fld) P w K mg base N qual scope fa cdv A outer s₀ H₀ E).env=(false,eval e (fM (CXE P w fld) P w K mg base N qual scope fa cdv A outer s₀ H₀ E).env) :: starEach es (fM (CXE P w fld) P w K mg base N qual scope fa cdv A outer s₀ H₀ E).env) (hpl:(backTo pos (starEach es (fM (CXE P w fld) P w K mg base N qual scope fa cdv A outer s₀ H₀ E).env)).any (·.1)=false) :
 PE (fM (CXE P w fld) P w K mg base N qual scope fa cdv A outer s₀ H₀ E) (.Call (.Name x p) (e :: es) [] pos) (fun σ H Q=>ta σ H fun vs H1=>sp (vs++[]) H1 Q E):=by
 intro pins s σ H Q J h
 refine wpAny_Call_Name_kw (lK J hg hm ?_ hdb)
 refine PySem.W.callWith_K (h₀:=base) J.ok.mod.kin hk (wpAny_mono (ha pos pins s σ H _ (J.wish _) h) (fun us s1 q=>?_) fun _ _ z=>z.elim) he hpl
 obtain ⟨vs,H1,J1,r,q⟩:=q
 have J1:L2.Inv (fM (CXE P w fld) P w K mg base N qual scope fa cdv A outer s₀ H₀ E) pins σ H1 s1:=J1.wish _
 refine ⟨J1.kIn,wpAny_mono (CG Fo hr hb .nil J1 r q) (fun u s2 w=>w) fun e s' z=>?_⟩
 obtain ⟨a,C',dx,T,u,H',rfl,I',Fl,La,Ld,LT,z⟩:=z
 exact Hh I' Fl La Ld (fun T' y=>by cases y;exact LT) z
theorem PJ (h:HasX P w K mg base fld n x ps (spX K mg F) []) (hr:Room n (A.deeper (envOfC qual scope s₀.heap.objs.size fa cdv))) (ha:DB (fM (CXE P w fld) P w K mg base N qual scope fa cdv A outer s₀ H₀ E).nox fl .P (e :: es) fs)
 (ht:DW (fM (CXE P w fld) P w K mg base N qual scope fa cdv A outer s₀ H₀ E).nox fl (.BoolOp .Or (b :: rest) pos2) ft) (h1:DXs (fM (CXE P w fld) P w K mg base N qual scope fa cdv A outer s₀ H₀ E) E fl body f) (h2:DXs (fM (CXE P w fld) P w K mg base N qual scope fa cdv A outer s₀ H₀ E) E fl orelse g)
 (hg:Gl (fM (CXE P w fld) P w K mg base N qual scope fa cdv A outer s₀ H₀ E) x:=by rfl) (hdb:(x == ("__debug__" : Str))=false:=by decide)
 (he:starEach (e :: es) (fM (CXE P w fld) P w K mg base N qual scope fa cdv A outer s₀ H₀ E).env=(false,eval e (fM (CXE P w fld) P w K mg base N qual scope fa cdv A outer s₀ H₀ E).env) :: starEach es (fM (CXE P w fld) P w K mg base N qual scope fa cdv A outer s₀ H₀ E).env:=by exact dD rfl) (hpl:(backTo pos (starEach es (fM (CXE P w fld) P w K mg base N qual scope fa cdv A outer s₀ H₀ E).env)).any (·.1)=false:=by exact nO rfl) :
 DX1 (fM (CXE P w fld) P w K mg base N qual scope fa cdv A outer s₀ H₀ E) E fl (.If (.BoolOp .Or (.UnaryOp .Not (.Call (.Name x p) (e :: es) [] pos) pos1 :: b :: rest) pos2) body orelse pos3) (Ec F fs ft f g):=by
 obtain ⟨f0,fd,dv,Fo,bb,vv,kp,m⟩:=h.ex
 cases vv
 refine PS.imp (BZ (PW.pt (FW (zZ (pos:=pos1) (ug (HY (p:=p) (pos:=pos) Fo hr hg m kp bb ha hdb he hpl) (by intro _;rfl))) (PW.nox ht))) h1 h2) fun Dn σ H hh=>?_
 obtain ⟨G,ow,δ,o,R,hf,q⟩:=hh
 obtain ⟨ds,e1,e2⟩:=bind1 hf
 refine ⟨G,ow,δ,ds,R,e1,fun vs H1 sm r=>?_⟩
 split at e2
 ·next bo eF =>
  refine ⟨ds++[],_,⟨R.tb.same sm,r.append .nil⟩,(by rw [dR];exact eF),fun v H' sm' rv=>?_⟩
  obtain rfl:=RA.blE rv
  refine ⟨bo,rfl,?_⟩
  cases bo with
  | true =>
   rw [if_pos rfl] at e2
   obtain ⟨t,e3,e4⟩:=bind1 e2
   refine qg ⟨G,ow,δ,t,R.grow (sm.trans sm'),e3,fun H2 s2=>?_⟩
   have R2:=R.grow ((sm.trans sm').trans s2)
   cases t with
   | true=>rw [if_pos rfl] at e4;exact pL ⟨G,ow,δ,o,R2,e4,q⟩
   | false=>rw [if_neg (by decide)] at e4;exact qg ⟨G,ow,δ,o,R2,e4,q⟩
  | false =>
   rw [if_neg (by decide)] at e2
   exact pL (pL ⟨G,ow,δ,o,R.grow (sm.trans sm'),e2,q⟩)
 ·next c d eF =>
  cases e2
  exact ⟨ds++[],_,⟨R.tb.same sm,r.append .nil⟩,(by rw [dR];exact eF),fun C' v u H' mc sm' r' rv=>q C' v u H' mc (R.same0.trans (sm.trans sm')) r' rv⟩
 ·cases e2
end
end XC
namespace D3
open PySem
end D3
namespace D3
open PySem
end D3
namespace D3
open PySem
end D3
namespace D3
open PySem
end D3
namespace D3
open PySem PySem.Spec PyProof.Rows L2 My
section
variable {X:Cx} {fl:List Fl} {e a b:Expr} {es:List Expr} {f fa fb:FE} {fr:FA} {k:Kd} {pos:Pos}
theorem vA (i:Nat) {x:Str} (hfl:fl[i]? = some .A:=by rfl) (hN:X.N[i]? = some x:=by rfl) (hv:Vis X.env.scope x:=by first | exact Or.inl rfl | exact Or.inr (Or.inl rfl) | exact Or.inr (Or.inr rfl)) (hd:(x == ("__debug__" : Str))=false:=by decide)
 (hcd:(x == ("__classdict__" : Str))=false:=by decide):DE X fl .A (.Name x pos) (ao i):=xH i hfl hN hv hd hcd
theorem vP (i:Nat) {x:Str} (hfl:fl[i]? = some .A:=by rfl) (hN:X.N[i]? = some x:=by rfl) (hv:Vis X.env.scope x:=by first | exact Or.inl rfl | exact Or.inr (Or.inl rfl) | exact Or.inr (Or.inr rfl)) (hd:(x == ("__debug__" : Str))=false:=by decide)
 (hcd:(x == ("__classdict__" : Str))=false:=by decide):DE X fl .P (.Name x pos) (ao i):=bN (xH i hfl hN hv hd hcd)
theorem vB (i:Nat) {x:Str} (hfl:fl[i]? = some .A:=by rfl) (hN:X.N[i]? = some x:=by rfl) (hv:Vis X.env.scope x:=by first | exact Or.inl rfl | exact Or.inr (Or.inl rfl) | exact Or.inr (Or.inr rfl)) (hd:(x == ("__debug__" : Str))=false:=by decide)
 (hcd:(x == ("__classdict__" : Str))=false:=by decide):DE X fl (.B []) (.Name x pos) (ao i):=j_ (xH i hfl hN hv hd hcd)
theorem iP {i j pos}:DE X fl .P (.Constant (.int i) j pos) (dC (.int i)):=aM rH
theorem iC {i j pos}:DE X fl .C (.Constant (.int i) j pos) (dC (.int i)):=dw rH
theorem dz:DB X fl k [] aP:=Ot
theorem dq (h:DE X fl k e f) (hr:DB X fl k es fr) (hk:isR k=true:=by rfl) (hs:starEach (e :: es) X.env=(false,eval e X.env) :: starEach es X.env:=by exact dD rfl):DB X fl k (e :: es) (aA f fr):=Km hk h hr hs
theorem dx {L:List Nat} (ha:DE X fl (.B L) a fa) (hb:DE X fl .P b fb) (hs:xg b:=by exact fun _ _=>rfl):DE X fl .A (.Subscript a b pos) (dOp gIx fa fb):=RN ha hb hs
theorem sA {i:Nat} {x:Str} {pos':Pos} (hN:X.N.Nodup) (h:DE X fl .A e f) (hfl:fl[i]? = some .A:=by rfl) (hi:X.N[i]? = some x:=by rfl) (hv:X.env.scope.names.lookup x=some .local∨X.env.scope.names.lookup x=some .cell:=by first | exact Or.inl rfl | exact Or.inr rfl)
 (hs:swapsWith e (some (.Name x pos')) pos.line X.env=pure false:=by rfl) (hfn:X.fn x=true∨X.env.scope.names.lookup x=some .local:=by first | exact .inl rfl | exact .inr rfl) :
 DS1 X fl (.Assign [.Name x pos'] e pos) (bx i f):=Kg hfl hN hi hv h hs hfn
theorem gN' {i:Nat} {x:Str} {pos:Pos} (hN:X.N.Nodup) (hfl:fl[i]? = some .A:=by rfl) (hi:X.N[i]? = some x:=by rfl) (hv:X.env.scope.names.lookup x=some .local∨X.env.scope.names.lookup x=some .cell:=by first | exact Or.inl rfl | exact Or.inr rfl)
 (hfn:X.fn x=true∨X.env.scope.names.lookup x=some .local:=by first | exact .inl rfl | exact .inr rfl):DG X fl [i] (.Name x pos) (gNl i):=Kh hfl hN hi hv hfn
end
theorem fsc {N P:List Str} {sc:Scope} (a:sc.kind = .function:=by rfl) (b:sc.isCoroutine=false:=by rfl) (c:sc.isGenerator=false:=by rfl) (d:N.Nodup:=by decide +kernel) (e:N.take P.length=P:=by rfl) (f:∀ x ∈ P,sc.names.lookup x=some .local∨sc.names.lookup x=some .cell:=by decide +kernel) (g:∀ y ∈ sc.names,y.2 ≠ .free:=by decide +kernel):FnScope N P sc:=⟨a,b,c,d,e,f,g⟩
end D3
namespace D3
open PySem
def qS (o:Option Oc) (b:FS):Option Oc:=match o with
 | some (.nx δ)=>b δ
 | some o=>some o
 | none=>none
def qI (o:Option Bool) (a b:FS) (δ:DS):Option Oc:=match o with
 | some true=>a δ
 | some false=>b δ
 | none=>none
def qO (g:D→D→Option D) (a b:Option D):Option D:=match a,b with
 | some x,some y=>g x y
 | _,_=>none
def qU (g:D→Option D) (a:Option D):Option D:=match a with
 | some x=>g x
 | none=>none
def qC (a:Option D) (r:Option (List D)):Option (List D):=match a,r with
 | some x,some l=>some (x :: l)
 | _,_=>none
def qF (F:List D→Option D) (l:Option (List D)):Option D:=match l with
 | some l=>F l
 | none=>none
def qR (a:Option D):Option Oc:=match a with
 | some d=>some (.rt d)
 | none=>none
def PK (i:Nat) (a:Option D) (δ:DS):Option Oc:=match a with
 | some d=>if i < δ.length then some (.nx (δ.set i (some (.d d)))) else none
 | none=>none
def Ep (a:Option D) (fb:FE) (δ:DS):Option D:=match a with
 | some (.bool true)=>fb δ
 | some (.bool false)=>some (.bool false)
 | _=>none
def qOr (a:Option D) (fb:FE) (δ:DS):Option D:=match a with
 | some (.bool true)=>some (.bool true)
 | some (.bool false)=>fb δ
 | _=>none
def qN (a:Option D):Option D:=match a with
 | some (.bool b)=>some (.bool (!b))
 | _=>none
def qB (a:Option D):Option Bool:=match a with
 | some (.bool b)=>some b
 | _=>none
def qTA (a:Option Bool) (b:FT) (δ:DS):Option Bool:=match a with
 | some true=>b δ
 | some false=>some false
 | none=>none
def qTO (a:Option Bool) (b:FT) (δ:DS):Option Bool:=match a with
 | some true=>some true
 | some false=>b δ
 | none=>none
def qTN (a:Option Bool):Option Bool:=match a with
 | some b=>some (!b)
 | none=>none
def qE (a:Option Bool) (fa fb:FE) (δ:DS):Option D:=match a with
 | some true=>fa δ
 | some false=>fb δ
 | none=>none
def qL (a:Option D):Option (List D):=match a with
 | some (.list l)=>some l
 | _=>none
def PL (a:Option (List D)) (g:FG) (b:FS) (δ:DS):Option Oc:=match a with
 | some l=>mJ g b l δ
 | none=>none
def qD (a:Option DS):Option Oc:=match a with
 | some δ=>some (.nx δ)
 | none=>none
def qG (a:Option D) (g:FG) (δ:DS):Option DS:=match a with
 | some d=>g d δ
 | none=>none
def qGs (a:Option DS) (r:List D→DS→Option DS) (l:List D):Option DS:=match a with
 | some δ=>r l δ
 | none=>none
def qT (a:Option (List D)):Option D:=match a with
 | some l=>if l.length ≤ sizeLine then some (.tuple l) else none
 | none=>none
def qK (a:Option (List D)):Option D:=match a with
 | some l=>if l.length ≤ sizeLine then some (.list l) else none
 | none=>none
def qFl (p:D→Bool) (a:Option D):Option D:=match a with
 | some d=>if p d=true then some d else none
 | none=>none
def qA (i:Nat) (x a:Option D) (δ:DS):Option Oc:=match x,a with
 | some (.list l),some d=>if l.length < 1000000 then some (.nx (δ.set i (some (.d (.list (l++[d])))))) else none
 | _,_=>none
def qP (i:Nat) (a x k:Option D) (δ:DS):Option Oc:=match a,x,k with
 | some d,some (.list l),some (.int j)=>(pIx l.length j).bind fun n=>some (.nx (δ.set i (some (.d (.list (l.set n d))))))
 | _,_,_=>none
def qCh (g':D→D→Option D) (z:Option D) (y:Option D) (fc:FE) (δ:DS):Option D:=match z with
 | some (.bool true)=>qO g' y (fc δ)
 | some (.bool false)=>some (.bool false)
 | _=>none
def qFn (o:Option Oc):Option D:=match o with
 | some (.rt d)=>some d
 | some (.nx _)=>some .none
 | _=>none
def qCo (a:Option (List D)) (g:FG) (c:FT) (e:FE) (t:Nat) (ix:List Nat) (δ:DS):Option D:=match a with
 | some l=>if l.length ≤ 100000 then (match jF g c e (jO t ix δ) l with | some r=>some (.list r) | none=>none) else none
 | none=>none
section
variable {a b:FS} {c c':FT} {fa fb fc:FE} {fr:FA} {δ:DS} {g:D→D→Option D} {h:D→Option D} {F:List D→Option D} {i:Nat} {G:FG} {d:D}
theorem Sh:bF a b δ=qS (a δ) b:=by
 unfold bF qS
 cases a δ with
 | none=>rfl
 | some o=>cases o <;> rfl
theorem H_ {δ':DS}:qS (some (.nx δ')) b=b δ':=rfl
theorem Ia:qS (some (.rt d)) b=some (.rt d):=rfl
theorem Ie {δ':DS}:qS (some (.bk δ')) b=some (.bk δ'):=rfl
theorem Ig {δ':DS}:qS (some (.ct δ')) b=some (.ct δ'):=rfl
theorem Sq:eH δ=some (.nx δ):=rfl
theorem Vd:sBk δ=some (.bk δ):=rfl
theorem Ve:sCt δ=some (.ct δ):=rfl
theorem Vf:sIf c a b δ=qI (c δ) a b δ:=by
 unfold sIf qI
 cases c δ with
 | none=>rfl
 | some t=>cases t <;> rfl
theorem PN:qI (some true) a b δ=a δ:=rfl
theorem PX:qI (some false) a b δ=b δ:=rfl
theorem v_op:dOp g fa fb δ=qO g (fa δ) (fb δ):=by
 unfold dOp qO
 cases fa δ <;> cases fb δ <;> rfl
theorem P_ {x y:D}:qO g (some x) (some y)=g x y:=rfl
theorem Vg:dUn h fa δ=qU h (fa δ):=by
 unfold dUn qU
 cases fa δ <;> rfl
theorem Qa {x:D}:qU h (some x)=h x:=rfl
theorem Qc:aP δ=some []:=rfl
theorem K_:aA fa fr δ=qC (fa δ) (fr δ):=by
 unfold aA qC
 cases fa δ <;> cases fr δ <;> rfl
theorem Er {x:D} {l:List D}:qC (some x) (some l)=some (x :: l):=rfl
theorem Qd:dCall F fr δ=qF F (fr δ):=by
 unfold dCall qF
 cases fr δ <;> rfl
theorem Ih {l:List D}:qF F (some l)=F l:=rfl
theorem Ss:cP fa δ=qR (fa δ):=by
 unfold cP qR
 cases fa δ <;> rfl
theorem Le:qR (some d)=some (.rt d):=rfl
theorem Qe:RJ δ=some (.rt .none):=rfl
theorem Sv:bx i fa δ=PK i (fa δ) δ:=by
 unfold bx RG PK
 cases fa δ with
 | none=>simp
 | some d=>rfl
theorem Lf:PK i (some d) δ=if i < δ.length then some (.nx (δ.set i (some (.d d)))) else none:=rfl
theorem v_c:dC d δ=some d:=rfl
theorem v_and:qm fa fb δ=Ep (fa δ) fb δ:=by
 unfold qm Ep
 cases fa δ with
 | none=>rfl
 | some x =>
  cases x <;> try rfl
  next b=>cases b <;> rfl
theorem Lg:Ep (some (.bool true)) fb δ=fb δ:=rfl
theorem Lh:Ep (some (.bool false)) fb δ=some (.bool false):=rfl
theorem v_or:dOr fa fb δ=qOr (fa δ) fb δ:=by
 unfold dOr qOr
 cases fa δ with
 | none=>rfl
 | some x =>
  cases x <;> try rfl
  next b=>cases b <;> rfl
theorem Qf:qOr (some (.bool true)) fb δ=some (.bool true):=rfl
theorem Qg:qOr (some (.bool false)) fb δ=fb δ:=rfl
theorem v_not:Ag fa δ=qN (fa δ):=by
 unfold Ag qN
 cases fa δ with
 | none=>rfl
 | some x=>cases x <;> rfl
theorem Li {b:Bool}:qN (some (.bool b))=some (.bool (!b)):=rfl
theorem Vh:bf fa δ=qB (fa δ):=by
 unfold bf qB
 cases fa δ with
 | none=>rfl
 | some x=>cases x <;> rfl
theorem Qh {b:Bool}:qB (some (.bool b))=some b:=rfl
theorem Qi:D3.n_ c c' δ=qTA (c δ) c' δ:=by
 unfold D3.n_ qTA
 cases c δ with
 | none=>rfl
 | some t=>cases t <;> rfl
theorem Ii:qTA (some true) c δ=c δ:=rfl
theorem Ij:qTA (some false) c δ=some false:=rfl
theorem Sw:D3.tOr c c' δ=qTO (c δ) c' δ:=by
 unfold D3.tOr qTO
 cases c δ with
 | none=>rfl
 | some t=>cases t <;> rfl
theorem Lj:qTO (some true) c δ=some true:=rfl
theorem Lk:qTO (some false) c δ=c δ:=rfl
theorem Qj:D3.jN c δ=qTN (c δ):=by
 unfold D3.jN qTN
 cases c δ <;> rfl
theorem Ik {b:Bool}:qTN (some b)=some (!b):=rfl
theorem v_ite:dIf c fa fb δ=qE (c δ) fa fb δ:=by
 unfold dIf qE
 cases c δ with
 | none=>rfl
 | some t=>cases t <;> rfl
theorem Ln:qE (some true) fa fb δ=fa δ:=rfl
theorem Lp:qE (some false) fa fb δ=fb δ:=rfl
theorem Sx:lG fa δ=qL (fa δ):=by
 unfold lG qL asList
 cases fa δ with
 | none=>rfl
 | some x=>cases x <;> rfl
theorem Lq {l:List D}:qL (some (.list l))=some l:=rfl
theorem Sy:nR fr G b δ=PL (fr δ) G b δ:=by
 unfold nR PL
 cases fr δ <;> rfl
theorem Lr {l:List D}:PL (some l) G b δ=mJ G b l δ:=rfl
theorem Es:mJ G b [] δ=some (.nx δ):=rfl
theorem SJ:J7 fa G δ=qD (qG (fa δ) G δ):=by
 unfold J7 qG qD
 cases fa δ with
 | none=>rfl
 | some d =>
  dsimp only [aK]
  cases G d δ <;> rfl
theorem Ls:qG (some d) G δ=G d δ:=rfl
theorem Lw {δ':DS}:qD (some δ')=some (.nx δ'):=rfl
theorem Vi:gNl i d δ=if i < δ.length then some (δ.set i (some (.d d))) else none:=rfl
theorem Vj {n:Nat} {gs:List D→DS→Option DS} {l:List D}:gTn n gs (.tuple l) δ=if l.length=n then gs l δ else none:=rfl
theorem SM:fZ [] δ=some δ:=rfl
theorem SN {gs:List D→DS→Option DS} {l:List D}:bM G gs (d :: l) δ=qGs (G d δ) gs l:=by
 show (G d δ).bind (fun δ'=>gs l δ')=qGs (G d δ) gs l
 cases G d δ <;> rfl
theorem Lx {gs:List D→DS→Option DS} {l:List D} {δ':DS}:qGs (some δ') gs l=gs l δ':=rfl
theorem SQ:dTup fr δ=qT (fr δ):=by
 unfold dTup qT
 cases fr δ <;> rfl
theorem Ly {l:List D}:qT (some l)=if l.length ≤ sizeLine then some (.tuple l) else none:=rfl
theorem Vk:gC fr δ=qK (fr δ):=by
 unfold gC qK
 cases fr δ <;> rfl
theorem Qk {l:List D}:qK (some l)=if l.length ≤ sizeLine then some (.list l) else none:=rfl
theorem Ql:cQ fa δ=qFl flat (fa δ):=by
 unfold cQ qFl
 cases fa δ <;> rfl
theorem SX:ql fa δ=qFl fl1 (fa δ):=by
 unfold ql qFl
 cases fa δ <;> rfl
theorem Qm {p:D→Bool}:qFl p (some d)=if p d=true then some d else none:=rfl
theorem S5:pq i fa δ=qA i (ao i δ) (fa δ) δ:=by
 unfold pq qA
 cases ao i δ with
 | none=>rfl
 | some x =>
  cases fa δ with
  | none=>cases x <;> rfl
  | some d=>cases x <;> rfl
theorem Lz {l:List D}:qA i (some (.list l)) (some d) δ=if l.length < 1000000 then some (.nx (δ.set i (some (.d (.list (l++[d])))))) else none:=rfl
theorem S6 {fk:FE}:nU i fk fa δ=qP i (fa δ) (ao i δ) (fk δ) δ:=by
 unfold nU qP
 cases fa δ with
 | none=>rfl
 | some d =>
  cases ao i δ with
  | none=>rfl
  | some x =>
   cases fk δ with
   | none=>cases x <;> rfl
   | some k=>cases x <;> cases k <;> rfl
theorem LC {l:List D} {j:Int}:qP i (some d) (some (.list l)) (some (.int j)) δ=(pIx l.length j).bind fun n=>some (.nx (δ.set i (some (.d (.list (l.set n d)))))):=rfl
theorem LK {g':D→D→Option D}:jG g g' fa fb fc δ=qCh g' (qO g (fa δ) (fb δ)) (fb δ) fc δ:=by
 unfold jG qCh qO
 cases fa δ with
 | none=>rfl
 | some x =>
  cases fb δ with
  | none=>rfl
  | some y =>
   dsimp only [aK]
   cases g x y with
   | none=>rfl
   | some z =>
    cases z <;> try rfl
    next b =>
    cases b with
    | false=>rfl
    | true=>dsimp only [aK];cases fc δ <;> rfl
theorem Et {g':D→D→Option D} {y:Option D}:qCh g' (some (.bool true)) y fc δ=qO g' y (fc δ):=rfl
theorem Eu {g':D→D→Option D} {y:Option D}:qCh g' (some (.bool false)) y fc δ=some (.bool false):=rfl
theorem S7 {p q:Nat} {ds:List D}:fnD p q b ds=if ds.length=p then qFn (b (ds.map (fun d=>some (.d d))++aG q none)) else none:=by
 unfold fnD qFn
 rfl
theorem LQ:qFn (some (.rt d))=some d:=rfl
theorem LR {δ':DS}:qFn (some (.nx δ'))=some .none:=rfl
theorem Qn {t:Nat} {ix:List Nat}:fQ fr G c fa t ix δ=qCo (fr δ) G c fa t ix δ:=by
 unfold fQ qCo
 cases fr δ with
 | none=>rfl
 | some l =>
  dsimp only [aK]
  by_cases z:l.length ≤ 100000
  ·rw [if_pos z,if_pos z]
   cases jF G c fa (jO t ix δ) l <;> rfl
  ·rw [if_neg z,if_neg z]
theorem Il {t:Nat} {ix:List Nat} {l:List D}:qCo (some l) G c fa t ix δ=if l.length ≤ 100000 then (match jF G c fa (jO t ix δ) l with | some r=>some (.list r) | none=>none) else none:=rfl
theorem S8:D3.gH δ=some true:=rfl
theorem Qo {r:DS} {x:D}:ao 0 (some (.d x) :: r)=some x:=rfl
theorem Qq {r:DS} {y:Option U}:ao (i + 1) (y :: r)=ao i r:=rfl
end
section
variable {i j:Int} {l m:List D} {d:D}
theorem S9:dH (.int i) (.int j)=some (.int (i + j)):=rfl
theorem S_:pI (.int i) (.int j)=some (.int (i - j)):=rfl
theorem Vl:gLt (.int i) (.int j)=some (.bool (decide (i < j))):=rfl
theorem Vm:gLe (.int i) (.int j)=some (.bool (decide (i ≤ j))):=rfl
theorem Vo:gGt (.int i) (.int j)=some (.bool (decide (j < i))):=rfl
theorem Vp:gGe (.int i) (.int j)=some (.bool (decide (j ≤ i))):=rfl
theorem Tc:gEq (.int i) (.int j)=some (.bool (decide (i=j))):=rfl
theorem Te:gNe (.int i) (.int j)=some (.bool (!decide (i=j))):=rfl
theorem Tf:jx [.list l]=some (.int l.length):=rfl
theorem Qs:jx [.tuple l]=some (.int l.length):=rfl
theorem rR:∀ ns:List Int,nJ (ns.map .int)=some ns
 | []=>rfl
 | n :: r=>by rw [bC,nJ,rR r];rfl
theorem zu {ns:List Int}:uD [.list (ns.map .int)]=some (.int ns.sum):=by
 show (nJ (ns.map .int)).map _=_
 rw [rR]
 rfl
theorem Tg:U3 [.int i]=some (.int (if i < 0 then -i else i)):=rfl
theorem Ti:wj [.int i,.int j]=some (.int (if j > i then j else i)):=rfl
theorem Tj:uE [.int i,.int j]=some (.int (if j < i then j else i)):=rfl
theorem Tp:jR (.int i)=some (.int (-i)):=rfl
theorem Vq:gIx (.list l) (.int i)=pAt l i:=rfl
theorem Tq:gIx (.tuple l) (.int i)=pAt l i:=rfl
theorem Nh:qp (.list l) (.list m)=if l.length + m.length ≤ 1000000 then some (.list (l++m)) else none:=rfl
theorem Qt:pC (.list l)=some (.list l):=rfl
theorem L_:pC (.tuple l)=some (.list l):=rfl
theorem Tr:pAt (d :: l) 0=some d:=by
 unfold pAt pIx
 rw [if_pos (by decide),if_pos (by simp)]
 rfl
end
def Qu (i j:Nat) (a:Option (List D)) (δ:DS):Option Oc:=match a with
 | some l=>match l with
  | [x,y]=>if i < δ.length∧j < δ.length then some (.nx ((δ.set i (some (.d x))).set j (some (.d y)))) else none
  | _=>none
 | none=>none
def nP (a:Option (List D)):Option (List D):=match a with
 | some l=>match l with
  | [.int j]=>if uz j=true then some (gB 0 j) else none
  | _=>none
 | none=>none
def Ni (a:Option (List D)):Option (List D):=match a with
 | some l=>match l with
  | [.int i,.int j]=>if (uz i && uz j)=true then some (gB i j) else none
  | _=>none
 | none=>none
def qSl (x:Option D) (a b:Option (Option Int)):Option D:=match x,a,b with
 | some (.list l),some a,some b=>some (.list (cutD l a b))
 | _,_,_=>none
def qOP (x:Option D):Option (Option Int):=match x with
 | some (.int i)=>some (some i)
 | _=>none
def qEn (x:Option D):Option (List D):=match x with
 | some (.list l)=>some (jB l)
 | _=>none
section
variable {a b:FS} {fa:FE} {fr:FA} {δ:DS} {i j:Nat} {g:FG}
theorem Tt:RK i j fr δ=Qu i j (fr δ) δ:=by
 unfold RK Qu
 cases fr δ with
 | none=>rfl
 | some l=>rfl
theorem Ma {x y:D}:Qu i j (some [x,y]) δ=if i < δ.length∧j < δ.length then some (.nx ((δ.set i (some (.d x))).set j (some (.d y)))) else none:=rfl
theorem Qw:j9 fr δ=nP (fr δ):=by
 unfold j9 nP
 cases fr δ with
 | none=>rfl
 | some l=>rfl
theorem uW {k:Int} (h : -(2 ^ 62) ≤ k) (h2:k < 2 ^ 62):nP (some [.int k])=some (gB 0 k):=by
 show (if uz k=true then some (gB 0 k) else none)=_
 rw [if_pos]
 unfold uz
 rw [dTr h,dTr h2]
 rfl
theorem Qx:M7 fr δ=Ni (fr δ):=by
 unfold M7 Ni
 cases fr δ with
 | none=>rfl
 | some l=>rfl
theorem Vr {lo hi:FO}:dSl fa lo hi δ=qSl (fa δ) (lo δ) (hi δ):=by
 unfold dSl qSl
 cases fa δ with
 | none=>rfl
 | some x =>
  dsimp only [aK]
  cases lo δ with
  | none=>cases x <;> rfl
  | some p =>
   dsimp only [aK]
   cases hi δ with
   | none=>cases x <;> rfl
   | some r=>cases x <;> rfl
theorem Qy {l:List D} {p r:Option Int}:qSl (some (.list l)) (some p) (some r)=some (.list (cutD l p r)):=rfl
theorem Vs:uF δ=some none:=rfl
theorem Vt:sU fa δ=qOP (fa δ):=by
 unfold sU qOP
 cases fa δ with
 | none=>rfl
 | some x=>cases x <;> rfl
theorem Qz {k:Int}:qOP (some (.int k))=some (some k):=rfl
theorem QB:lO fa δ=qEn (fa δ):=by
 unfold lO qEn
 cases fa δ with
 | none=>rfl
 | some x=>cases x <;> rfl
theorem Im {l:List D}:qEn (some (.list l))=some (jB l):=rfl
theorem o9 (Inv:Nat→DS→Prop):∀ (l:List D) (δ:DS),Inv 0 δ→(∀ i d δ,l[i]? = some d→Inv i δ→∃ δ1 δ',g d δ=some δ1∧(b δ1=some (.nx δ')∨b δ1=some (.ct δ'))∧Inv (i + 1) δ')→∃ δ',mJ g b l δ=some (.nx δ')∧Inv l.length δ':=by
 have key:∀ (l:List D) (k:Nat) (δ:DS),Inv k δ→(∀ i d δ,l[i]? = some d→Inv (k + i) δ→∃ δ1 δ',g d δ=some δ1∧(b δ1=some (.nx δ')∨b δ1=some (.ct δ'))∧Inv (k + i + 1) δ')→∃ δ',mJ g b l δ=some (.nx δ')∧Inv (k + l.length) δ':=by
  intro l
  induction l with
  | nil=>exact fun k δ h _=>⟨δ,rfl,h⟩
  | cons d r ih =>
   intro k δ h hs
   obtain ⟨δ1,δ',e1,e2,e3⟩:=hs 0 d δ rfl h
   obtain ⟨δ2,e4,e5⟩:=ih (k + 1) δ' e3 fun i d' δ'' hd hi=>by
    have:=hs (i + 1) d' δ'' (by simpa using hd) (by rw [show k + (i + 1)=k + 1 + i by omega];exact hi)
    rw [show k + (i + 1) + 1=k + 1 + i + 1 by omega] at this
    exact this
   refine ⟨δ2,?_,by rw [cA,show k + (r.length + 1)=k + 1 + r.length by omega];exact e5⟩
   rw [mJ,e1,aK]
   rcases e2 with e2 | e2
   ·rw [e2];exact e4
   ·rw [e2];exact e4
 intro l δ h hs
 have:=key l 0 δ h fun i d δ hd hi=>by
  have:=hs i d δ hd (by rw [iz] at hi;exact hi)
  rw [iz]
  exact this
 rw [iz] at this
 exact this
end
def qX (a:Option D) (δ:DS):Option Oc:=match a with
 | some _=>some (.nx δ)
 | none=>none
theorem QC {fa:FE} {δ:DS}:oE fa δ=qX (fa δ) δ:=by
 unfold oE qX
 cases fa δ <;> rfl
theorem Io {d:D} {δ:DS}:qX (some d) δ=some (.nx δ):=rfl
theorem Ip {g g' g'':D→D→Option D} {fa fb fc fd:FE} {δ:DS}:tL g g' g'' fa fb fc fd δ=Ep (qO g (fa δ) (fb δ)) (jG g' g'' fb fc fd) δ:=by
 unfold tL Ep jG qO
 cases fa δ with
 | none=>rfl
 | some x =>
  cases fb δ with
  | none=>rfl
  | some y =>
   dsimp only [aK]
   cases g x y with
   | none=>rfl
   | some z =>
    cases z <;> try rfl
    next b=>cases b <;> rfl
def qZ (a b:Option D):Option (List D):=match a,b with
 | some (.list l),some (.list m)=>some (rG l m)
 | _,_=>none
theorem Tv {f g:FE} {δ:DS}:J8 f g δ=qZ (f δ) (g δ):=by
 unfold J8 qZ
 cases f δ with
 | none=>rfl
 | some x =>
  cases g δ with
  | none=>cases x <;> rfl
  | some y=>cases x <;> cases y <;> rfl
theorem Mf {l m:List D}:qZ (some (.list l)) (some (.list m))=some (rG l m):=rfl
theorem Vu {fa:FE} {δ:DS}:dN1 fa δ=qFl (fun d=>decide (nl d ≤ 1)) (fa δ):=by
 unfold dN1 qFl
 cases fa δ <;> rfl
theorem Tw:flat .none=true:=rfl
theorem Vv {b:Bool}:flat (.bool b)=true:=rfl
theorem f_int {i:Int}:flat (.int i)=true:=rfl
theorem Tz {x:Str}:flat (.str x)=true:=rfl
theorem TF {l:List D}:flat (.list l)=false:=rfl
theorem f_tup {l:List D}:flat (.tuple l)=flats l:=rfl
theorem TJ:flats []=true:=rfl
theorem QD {d:D} {l:List D}:flats (d :: l)=(flat d && flats l):=rfl
theorem QF:fl1 .none=true:=rfl
theorem TQ {b:Bool}:fl1 (.bool b)=true:=rfl
theorem QG {i:Int}:fl1 (.int i)=true:=rfl
theorem QH {x:Str}:fl1 (.str x)=true:=rfl
theorem QJ {l:List D}:fl1 (.list l)=flats l:=rfl
theorem QK {l:List D}:fl1 (.tuple l)=flats l:=rfl
theorem Vw {c:String} {d:D}:gIs c d=some (.bool (isT c (tyD d))):=rfl
theorem TX {d:D}:xu d=some (.bool (isNone d)):=rfl
theorem QL {d:D}:pB d=some (.bool (!isNone d)):=rfl
theorem TY:isNone .none=true:=rfl
theorem Vx {b:Bool}:isNone (.bool b)=false:=rfl
theorem T3 {i:Int}:isNone (.int i)=false:=rfl
theorem T4 {x:Str}:isNone (.str x)=false:=rfl
theorem T5 {l:List D}:isNone (.list l)=false:=rfl
theorem T6 {l:List D}:isNone (.tuple l)=false:=rfl
theorem T7 {l:List (D × D)}:isNone (.dict l)=false:=rfl
def EVL:=And.intro @Tw <| And.intro @Vv <| And.intro @f_int <| And.intro @Tz <| And.intro @TF <| And.intro @f_tup <| And.intro @TJ <| And.intro @QD <| And.intro @QF <| And.intro @TQ <| And.intro @QG <| And.intro @QH <| And.intro @QJ <| And.intro @QK <| And.intro @Vw <| And.intro @TX <| And.intro @QL <| And.intro @TY <| And.intro @Vx <| And.intro @T3 <| And.intro @T4 <| And.intro @T5 <| And.intro @T6 <| And.intro @T7 <| And.intro @cA.{0} <| And.intro @dU.{0} <| And.intro @bC.{0,0} <| And.intro @p8.{0,0} <| And.intro @b_.{0} <| And.intro @List.replicate_zero.{0} <| And.intro @List.cons_append.{0} <| And.intro @nH.{0} <| And.intro @dR.{0} <| And.intro @pH.{0} <| And.intro @kZ.{0} <| And.intro @iz <| And.intro @if_true.{1} <| And.intro @decide_true <| And.intro @decide_false <| And.intro @Int.cast_ofNat_Int <| And.intro @jr <| And.intro @iZ <| @Bool.and_self
def EV:=And.intro EVL <| And.intro @Vu <| And.intro @Tv <| And.intro @Mf <| And.intro @QC <| And.intro @Io <| And.intro @Ip <| And.intro @Sh (And.intro @H_ (And.intro @Ia (And.intro @Ie (And.intro @Ig (And.intro @Sq (And.intro @Vd (And.intro @Ve (And.intro @Vf (And.intro @PN (And.intro @PX (And.intro @v_op (And.intro @P_ (And.intro @Vg (And.intro @Qa (And.intro @Qc (And.intro @K_ (And.intro @Er (And.intro @Qd (And.intro @Ih (And.intro @Ss (And.intro @Le (And.intro @Qe (And.intro @Sv (And.intro @Lf (And.intro @v_c (And.intro @v_and (And.intro @Lg (And.intro @Lh (And.intro @v_or (And.intro @Qf (And.intro @Qg (And.intro @v_not (And.intro @Li (And.intro @Vh (And.intro @Qh (And.intro @Qi (And.intro @Ii (And.intro @Ij (And.intro @Sw (And.intro @Lj (And.intro @Lk (And.intro @Qj (And.intro @Ik (And.intro @v_ite (And.intro @Ln (And.intro @Lp (And.intro @Sx (And.intro @Lq (And.intro @Sy (And.intro @Lr (And.intro @Es (And.intro @SJ (And.intro @Ls (And.intro @Lw (And.intro @Vi (And.intro @Vj (And.intro @SM (And.intro @SN (And.intro @Lx (And.intro @SQ (And.intro @Ly (And.intro @Vk (And.intro @Qk (And.intro @Ql (And.intro @SX (And.intro @Qm (And.intro @S5 (And.intro @Lz (And.intro @S6 (And.intro @LC (And.intro @LK (And.intro @Et (And.intro @Eu (And.intro @S7 (And.intro @LQ (And.intro @LR (And.intro @Qn (And.intro @Il (And.intro @S8 (And.intro @Qo (And.intro @Qq (And.intro @S9 (And.intro @S_ (And.intro @Vl (And.intro @Vm (And.intro @Vo (And.intro @Vp (And.intro @Tc (And.intro @Te (And.intro @Tf (And.intro @Qs (And.intro @Tg (And.intro @Ti (And.intro @Tj (And.intro @Tp (And.intro @Vq (And.intro @Tq (And.intro @Nh (And.intro @Qt (And.intro @L_ (And.intro @Tr (And.intro @Tt (And.intro @Ma (And.intro @Qw (And.intro @Qx (And.intro @Vr (And.intro @Qy (And.intro @Vs (And.intro @Vt (And.intro @Qz (And.intro @QB @Im)))))))))))))))))))))))))))))))))))))))))))))))))))))))))))))))))))))))))))))))))))))))))))))))))))))))))))))))
end D3
namespace My
def lW (ns:List Int) (i:Int):Int :=
 if i < (ns.length:Int) then ns.getD i.toNat 0 % 1000000007
 else if ns=[] then 7919 * i + 5000011
 else ns.getD (i * 7 % (ns.length:Int)).toNat 0 % 1000000007 + 7919 * i
def divs (n:Int):Nat→Int
 | 0=>n
 | k + 1=>divs n k / 1000003
def CP (c i k m:Int):Int :=
 (((c + 65537 * i + 3) * (1299709 + 15485863 * k) % 2147483629 * ((c + 65537 * i + 3) * (1299709 + 15485863 * k) % 2147483629) % 1500450271 + 104729) *
  ((c + 65537 * i + 3) * (1299709 + 15485863 * k) % 2147483629 * ((c + 65537 * i + 3) * (1299709 + 15485863 * k) % 2147483629) % 1500450271 + 104729)) % 715827883 / 64 % m
def qJ (ns:List Int) (i k m:Int):Int :=
 if i < (ns.length:Int)∧10 ^ 40 ≤ ns.getD i.toNat 0∧0 < divs (ns.getD i.toNat 0) k.toNat then divs (ns.getD i.toNat 0) k.toNat % 1000003 % m
 else CP (lW ns i) i k m
theorem zx (ns:List Int) (i k:Int) {m:Int} (h:0 < m):0 ≤ qJ ns i k m∧qJ ns i k m < m:=by
 unfold qJ CP
 split
 ·exact ⟨iH _ (by omega),gj _ h⟩
 ·exact ⟨iH _ (by omega),gj _ h⟩
theorem Ew {ns:List Int} {i k m:Int} (h1:i < (ns.length:Int)) (h2:10 ^ 40 ≤ ns.getD i.toNat 0) (h3:0 < divs (ns.getD i.toNat 0) k.toNat) :
 qJ ns i k m=divs (ns.getD i.toNat 0) k.toNat % 1000003 % m:=by
 unfold qJ
 rw [if_pos ⟨h1,h2,h3⟩]
theorem pQ {ns:List Int} {i k m:Int} (h:¬ (i < (ns.length:Int)∧10 ^ 40 ≤ ns.getD i.toNat 0∧0 < divs (ns.getD i.toNat 0) k.toNat)) :
 qJ ns i k m=CP (lW ns i) i k m:=by
 unfold qJ
 rw [if_neg h]
end My
namespace Com
open PySem D3
noncomputable def lu:List D→Option D:=fnD 1 0 (cP (qm (dUn (gIs "int") (ao 0)) (Ag (dUn (gIs "bool") (ao 0)))))
noncomputable def h_:List D→Option D:=fnD 2 0 (bF (sIf (bf (dOp gLt (ao 1) (dCall jx (aA (ao 0) (aP))))) (cP (dOp cU (dOp gIx (ao 0) (ao 1)) (dC (.int 1000000007)))) (eH))
 (bF (sIf (bf (dOp gEq (ao 0) (gC (aP)))) (cP (dOp dH (dOp iY (dC (.int 7919)) (ao 1)) (dC (.int 5000011)))) (eH))
 (cP (dOp dH (dOp cU (dOp gIx (ao 0) (dOp cU (dOp iY (ao 1) (dC (.int 7))) (dCall jx (aA (ao 0) (aP))))) (dC (.int 1000000007))) (dOp iY (dC (.int 7919)) (ao 1))))))
noncomputable def ig:List D→Option D:=fnD 4 2 (bF (sIf (D3.n_ (bf (dOp gLt (ao 1) (dCall jx (aA (ao 0) (aP))))) (bf (dOp gGe (dOp gIx (ao 0) (ao 1)) (dOp mK (dC (.int 10)) (dC (.int 40)))))) (bF (bx 4 (dOp gIx (ao 0) (ao 1)))
 (bF (nR (j9 (aA (ao 2) (aP))) (gNl 5) (bx 4 (dOp yQ (ao 4) (dC (.int 1000003)))))
 (sIf (bf (dOp gGt (ao 4) (dC (.int 0)))) (cP (dOp cU (dOp cU (ao 4) (dC (.int 1000003))) (ao 3))) (eH)))) (eH))
 (bF (bx 4 (dOp cU (dOp iY (dOp dH (dOp dH (dCall h_ (aA (ao 0) (aA (ao 1) (aP)))) (dOp iY (dC (.int 65537)) (ao 1))) (dC (.int 3))) (dOp dH (dC (.int 1299709)) (dOp iY (dC (.int 15485863)) (ao 2)))) (dC (.int 2147483629))))
 (bF (bx 4 (dOp dH (dOp cU (dOp iY (ao 4) (ao 4)) (dC (.int 1500450271))) (dC (.int 104729))))
 (cP (dOp cU (dOp yQ (dOp cU (dOp iY (ao 4) (ao 4)) (dC (.int 715827883))) (dC (.int 64))) (ao 3))))))
noncomputable def dF:List D→Option D:=fnD 1 0 (cP (qm (dUn (gIs "int") (ao 0)) (Ag (dUn (gIs "bool") (ao 0)))))
noncomputable def jL:List D→Option D:=fnD 2 0 (cP (jG gLe gLt (dOp gIx (ao 0) (dC (.int 0))) (ao 1) (dOp gIx (ao 0) (dC (.int 1)))))
noncomputable def jA:List D→Option D:=fnD 2 0 (cP (dCall jx (aA (fQ (lG (ao 0)) (gNl 0) (bf (dCall jL (aA (ao 0) (aA (ao 1) (aP))))) (cQ (ao 0)) 1 [1]) (aP))))
noncomputable def dj:List D→Option D:=fnD 3 0 (cP (fQ (j9 (aA (ao 2) (aP))) (gNl 0) (gH) (dCall ig (aA (ao 1) (aA (ao 2) (aA (ao 0) (aA (dOp mK (dC (.int 10)) (dC (.int 6))) (aP)))))) 1 [0,1]))
noncomputable def fD:List D→Option D:=fnD 1 0 (cP (dTup (aA (cQ (dOp gIx (ao 0) (dC (.int 0)))) (aA (cQ (dOp gIx (ao 0) (dC (.int 1)))) (aP)))))
noncomputable def iu:List D→Option D:=fnD 1 0 (cP (dCall vI (aA (fQ (J8 (ao 0) (dSl (ao 0) (sU (dC (.int 1))) uF)) (gTn 2 (bM (gNl 0) (bM (gNl 1) (fZ)))) (gH) (dOp gLt (ao 0) (ao 1)) 2 []) (aP))))
noncomputable def cO:List D→Option D:=fnD 2 0 (cP (qm (tL gLe gLt gLe (dC (.int 0)) (dOp gIx (ao 0) (dC (.int 0))) (dOp gIx (ao 0) (dC (.int 1))) (dCall jx (aA (ao 1) (aP)))) (jG gLe gLe (dC (.int 0)) (dOp gIx (ao 0) (dC (.int 2))) (dC (.int 1000000000)))))
noncomputable def je:List D→Option D:=fnD 2 2 (nR (lO (ao 0)) (gTn 2 (bM (gNl 2) (bM (gNl 3) (fZ)))) (sIf (D3.jN (bf (dCall cO (aA (ao 3) (aA (ao 1) (aP)))))) ((fun _=>none)) (eH)))
noncomputable def pR:List D→Option D:=fnD 3 0 (cP (dCall uD (aA (fQ (lG (ao 0)) (gTn 2 (bM (gNl 0) (bM (gNl 1) (fZ)))) (bf (jG gLe gLt (ao 2) (ao 0) (ao 3))) (cQ (ao 1)) 2 [1,2]) (aP))))
noncomputable def gq:List D→Option D:=fnD 2 0 (cP (dCall uD (aA (fQ (lG (ao 1)) (gNl 0) (gH) (cQ (dOp gIx (dOp gIx (ao 1) (ao 0)) (dC (.int 2)))) 1 [0]) (aP))))
noncomputable def j7:List D→Option D:=fnD 2 0 (cP (dOp pI (dOp gIx (ao 0) (dC (.int 2))) (dCall pR (aA (ao 1) (aA (dOp gIx (ao 0) (dC (.int 0))) (aA (dOp gIx (ao 0) (dC (.int 1))) (aP)))))))
noncomputable def pU:List D→Option D:=fnD 3 1 (bF (oE (dCall je (aA (ao 0) (aA (ao 1) (aP)))))
 (bF (bx 3 (dCall uD (aA (fQ (lG (ao 2)) (gTn 2 (bM (gNl 0) (bM (gNl 1) (fZ)))) (gH) (dOp iY (dOp gIx (ao 2) (ao 0)) (ao 1)) 2 [1]) (aP))))
 (cP (dOp dH (ao 3) (dCall uD (aA (fQ (lG (ao 0)) (gNl 0) (gH) (dCall wj (aA (dC (.int 0)) (aA (dCall j7 (aA (ao 0) (aA (ao 1) (aP)))) (aP)))) 1 [2]) (aP)))))))
noncomputable def iw:List D→Option D:=fnD 2 4 (bF (bx 2 (dCall dj (aA (ao 0) (aA (dC (.int 1)) (aA (dC (.int 5)) (aP))))))
 (bF (bx 3 (dCall dj (aA (ao 0) (aA (dC (.int 60)) (aA (ao 1) (aP))))))
 (bF (bx 4 (dOp cU (dOp gIx (ao 2) (dC (.int 0))) (dC (.int 4))))
 (bF (sIf (bf (dOp gEq (ao 4) (dC (.int 0)))) (cP (ql (dOp rF (gC (aA (dOp dH (dC (.int 1)) (dOp cU (dOp gIx (ao 2) (dC (.int 1))) (dC (.int 3)))) (aP))) (ao 1)))) (eH))
 (bF (sIf (bf (dOp gEq (ao 4) (dC (.int 1)))) (cP (fQ (j9 (aA (ao 1) (aP))) (gNl 0) (gH) (dOp cU (dOp gIx (ao 1) (ao 0)) (dC (.int 3))) 1 [3])) (eH))
 (bF (sIf (bf (dOp gEq (ao 4) (dC (.int 2)))) (cP (fQ (j9 (aA (ao 1) (aP))) (gNl 0) (gH) (cQ (dOp gIx (gC (aA (dC (.int 0)) (aA (dC (.int 1)) (aA (dC (.int 2)) (aA (dC (.int 5)) (aA (dC (.int 11)) (aA (dC (.int 12)) (aP)))))))) (dOp cU (dOp gIx (ao 1) (ao 0)) (dC (.int 6))))) 1 [3])) (eH))
 (bF (bx 5 (dOp cU (dOp gIx (ao 2) (dC (.int 2))) (dOp dH (ao 1) (dC (.int 1)))))
 (cP (ql (dOp qp (dOp rF (gC (aA (dOp cU (dOp gIx (ao 2) (dC (.int 3))) (dC (.int 4))) (aP))) (ao 5)) (dOp rF (gC (aA (dOp cU (dOp gIx (ao 2) (dC (.int 4))) (dC (.int 4))) (aP))) (dOp pI (ao 1) (ao 5)))))))))))))
noncomputable def gb:List D→Option D:=fnD 3 6 (bF (bx 3 (gC (aP)))
 (bF (nR (j9 (aA (ao 2) (aP))) (gNl 4) (bF (bx 5 (dCall dj (aA (ao 0) (aA (dOp dH (dC (.int 4)) (ao 4)) (aA (dC (.int 7)) (aP))))))
 (bF (bx 6 (dOp cU (dOp gIx (ao 5) (dC (.int 0))) (ao 1)))
 (bF (bx 7 (dCall uE (aA (ao 1) (aA (dOp dH (dOp dH (ao 6) (dC (.int 1))) (dOp cU (dOp gIx (ao 5) (dC (.int 1))) (dOp gIx (gC (aA (dC (.int 3)) (aA (ao 1) (aP)))) (dOp cU (dOp gIx (ao 5) (dC (.int 2))) (dC (.int 2)))))) (aP)))))
 (bF (bx 8 (gC (aA (dOp cU (dOp gIx (ao 5) (dC (.int 3))) (dC (.int 10))) (aA (dOp iY (dC (.int 5)) (dOp pI (ao 7) (ao 6))) (aA (dOp cU (dOp dH (dOp iY (dOp gIx (ao 5) (dC (.int 3))) (dOp mK (dC (.int 10)) (dC (.int 6)))) (dOp gIx (ao 5) (dC (.int 6)))) (dOp dH (dOp mK (dC (.int 10)) (dC (.int 9))) (dC (.int 1)))) (aP))))))
 (bF (bx 8 (dOp qp (ao 8) (gC (aA (dOp mK (dC (.int 10)) (dC (.int 9))) (aA (dOp dH (dC (.int 1)) (dOp cU (dOp gIx (ao 5) (dC (.int 3))) (dC (.int 100)))) (aP))))))
 (sIf (D3.n_ (bf (dOp gEq (dOp cU (dOp gIx (ao 5) (dC (.int 5))) (dC (.int 5))) (dC (.int 0)))) (bf (dOp gNe (ao 3) (gC (aP))))) (pq 3 (dOp gIx (ao 3) (dOp cU (dOp gIx (ao 5) (dC (.int 3))) (dCall jx (aA (ao 3) (aP)))))) (pq 3 (dTup (aA (ao 6) (aA (ao 7) (aA (dOp gIx (ao 8) (dOp cU (dOp gIx (ao 5) (dC (.int 4))) (dC (.int 5)))) (aP)))))))))))))
 (cP (ql (ao 3)))))
noncomputable def d8:List D→Option D:=fnD 3 0 (cP (dCall jA (aA (fQ (lG (ao 1)) (gNl 0) (gH) (dCall fD (aA (dOp gIx (ao 1) (ao 0)) (aP))) 1 [0]) (aA (ao 2) (aP)))))
noncomputable def oR:List D→Option D:=fnD 3 0 (cP (dCall vI (aA (fQ (lO (ao 1)) (gTn 2 (bM (gNl 0) (bM (gNl 1) (fZ)))) (gH) (dOp gLe (dCall d8 (aA (ao 2) (aA (ao 3) (aA (ao 0) (aP))))) (ao 1)) 2 [0,2]) (aP))))
noncomputable def lA:List D→Option D:=fnD 4 0 (cP (dCall vI (aA (fQ (lG (ao 3)) (gTn 2 (bM (gNl 0) (bM (gNl 1) (fZ)))) (gH) (dOp gEq (dCall d8 (aA (ao 2) (aA (ao 3) (aA (ao 0) (aP))))) (dOp gIx (ao 4) (ao 0))) 2 [0,2,1]) (aP))))
noncomputable def fG:List D→Option D:=fnD 3 0 (bF (sIf (bf (dOp gIn (ao 1) (ao 2))) (cP (dTup (aA (cQ (dOp gIx (ao 0) (dC (.int 1)))) (aA (cQ (dOp gIx (ao 0) (dC (.int 0)))) (aA (cQ (dOp gIx (ao 0) (dC (.int 2)))) (aA (cQ (ao 1)) (aP))))))) (eH))
 (cP (dTup (aA (cQ (dOp gIx (ao 0) (dC (.int 0)))) (aA (cQ (dOp gIx (ao 0) (dC (.int 1)))) (aA (dUn jR (dOp gIx (ao 0) (dC (.int 2)))) (aA (cQ (ao 1)) (aP))))))))
noncomputable def iB:List D→Option D:=fnD 3 3 (bF (bx 3 (fQ (j9 (aA (dCall jx (aA (ao 1) (aP))) (aP))) (gNl 0) (gH) (cQ (dTup (aA (ao 0) (aA (dOp dH (ao 0) (dC (.int 1))) (aA (dC (.int 0)) (aA (dC (.none)) (aP))))))) 1 []))
 (bF (bx 4 (fQ (lO (ao 1)) (gTn 2 (bM (gNl 0) (bM (gNl 1) (fZ)))) (bf (dOp gLt (dCall d8 (aA (ao 2) (aA (ao 3) (aA (ao 0) (aP))))) (ao 1))) (cQ (ao 0)) 2 [0,2]))
 (bF (bx 5 (fQ (Om (ao 4)) (gNl 0) (gH) (cQ (dTup (aA (dOp dH (ao 0) (dC (.int 1))) (aA (ao 0) (aA (dC (.int 0)) (aA (dC (.none)) (aP))))))) 1 []))
 (cP (ql (dOp qp (dOp qp (ao 3) (ao 5)) (fQ (lO (ao 0)) (gTn 2 (bM (gNl 0) (bM (gNl 1) (fZ)))) (gH) (dCall fG (aA (ao 1) (aA (ao 0) (aA (ao 2) (aP))))) 2 [2])))))))
noncomputable def iD:List D→Option D:=fnD 2 6 (bF (bx 2 (dUn pC (ao 0)))
 (bF (bx 3 (dOp rF (gC (aA (dC (.none)) (aP))) (dCall jx (aA (ao 0) (aP)))))
 (bF (bx 4 (dC (.bool true)))
 (bF (pO (bf (ao 4)) (bF (bx 4 (dC (.bool false)))
 (nR (lG (ao 1)) (gNl 5) (bF (bx 6 (dOp gIx (ao 2) (dOp gIx (ao 5) (dC (.int 0)))))
 (bF (bx 7 (dOp gIx (ao 2) (dOp gIx (ao 5) (dC (.int 1)))))
 (sIf (D3.n_ (bf (dUn pB (ao 6))) (D3.tOr (bf (dUn xu (ao 7))) (bf (dOp gLt (dOp dH (ao 6) (dOp gIx (ao 5) (dC (.int 2)))) (ao 7))))) (bF (nU 2 (dOp gIx (ao 5) (dC (.int 1))) (dOp dH (ao 6) (dOp gIx (ao 5) (dC (.int 2)))))
 (bF (nU 3 (dOp gIx (ao 5) (dC (.int 1))) (ao 5))
 (bx 4 (dC (.bool true))))) (eH)))))))
 (cP (dTup (aA (ql (ao 2)) (aA (ql (ao 3)) (aP)))))))))
noncomputable def dJ:List D→Option D:=fnD 3 3 (bF (bx 3 (gC (aP)))
 (bF (bx 4 (ao 2))
 (bF (pO (bf (dOp gNe (ao 4) (ao 1))) (bF (bx 5 (dOp gIx (ao 0) (ao 4)))
 (bF (sIf (bf (dUn pB (dOp gIx (ao 5) (dC (.int 3))))) (pq 3 (dOp gIx (ao 5) (dC (.int 3)))) (eH))
 (bx 4 (dOp gIx (ao 5) (dC (.int 0)))))))
 (cP (ql (ao 3))))))
noncomputable def dW:List D→Option D:=fnL 4 5 (bF (bx 4 (dOp gIx (ao 0) (ao 3)))
 (bF (bx 5 (dOp rF (gC (aA (dC (.none)) (aP))) (dOp dH (dCall jx (aA (ao 1) (aP))) (dC (.int 1)))))
 (bF (nU 5 (dOp gIx (ao 4) (dC (.int 1))) (dC (.int 0)))
 (bF (bx 6 (dCall iD (aA (ao 5) (aA (dCall iB (aA (dSl (ao 0) uF (sU (ao 3))) (aA (ao 1) (aA (ao 2) (aP))))) (aP)))))
 (bF (bx 7 (dOp gIx (dOp gIx (ao 6) (dC (.int 0))) (dOp gIx (ao 4) (dC (.int 0)))))
 (bF (sIf (D3.tOr (bf (dUn xu (ao 7))) (bf (dOp gGe (ao 7) (dOp gIx (ao 4) (dC (.int 2)))))) (uQ (ao 2)) (eH))
 (bF (bx 8 (dOp qp (dCall dJ (aA (dOp gIx (ao 6) (dC (.int 1))) (aA (dOp gIx (ao 4) (dC (.int 1))) (aA (dOp gIx (ao 4) (dC (.int 0))) (aP))))) (gC (aA (ao 3) (aP)))))
 (uQ (fQ (j9 (aA (dOp dH (ao 3) (dC (.int 1))) (aP))) (gNl 0) (bf (dOp gNe (dOp gIn (ao 0) (ao 1)) (dOp gIn (ao 0) (ao 2)))) (cQ (ao 0)) 1 [2,8])))))))))
noncomputable def iy:List D→Option D:=fnD 3 2 (bF (bx 3 (dOp gIx (dCall iD (aA (dOp rF (gC (aA (dC (.int 0)) (aP))) (dOp dH (dCall jx (aA (ao 1) (aP))) (dC (.int 1)))) (aA (dCall iB (aA (ao 0) (aA (ao 1) (aA (ao 2) (aP))))) (aP)))) (dC (.int 0))))
 (bF (bx 4 (fQ (j9 (aA (dCall jx (aA (ao 1) (aP))) (aP))) (gNl 0) (gH) (cQ (dTup (aA (ao 0) (aA (dOp pI (dOp gIx (ao 1) (ao 0)) (dOp gIx (ao 1) (dOp dH (ao 0) (dC (.int 1))))) (aP))))) 1 [3]))
 (cP (fQ (lG (ao 4)) (gTn 2 (bM (gNl 0) (bM (gNl 1) (fZ)))) (bf (dOp gGt (ao 1) (dC (.int 0)))) (cQ (dTup (aA (ao 0) (aA (ao 1) (aP))))) 2 []))))
noncomputable def Ba:List D→Option D:=fnL 2 2 (bF (oE (dCall je (aA (ao 0) (aA (ao 1) (aP)))))
 (bF (bx 2 (gC (aP)))
 (bF (nR (j9 (aA (dCall jx (aA (ao 0) (aP))) (aP))) (gNl 3) (bx 2 (dCall dW (aA (ao 0) (aA (ao 1) (aA (ao 2) (aA (ao 3) (aP))))))))
 (uQ (dTup (aA (dCall gq (aA (ao 0) (aA (ao 2) (aP)))) (aA (ao 2) (aA (dCall iy (aA (ao 0) (aA (ao 1) (aA (ao 2) (aP))))) (aP)))))))))
noncomputable def iG:List D→Option D:=fnD 4 1 (bF (bx 4 (fQ (lO (ao 1)) (gTn 2 (bM (gNl 0) (bM (gNl 1) (fZ)))) (bf (dCall jL (aA (dCall fD (aA (ao 4) (aP))) (aA (ao 0) (aP))))) (dOp pI (ao 1) (dCall d8 (aA (ao 2) (aA (ao 3) (aA (ao 0) (aP)))))) 2 [0,2,3]))
 (cP (dOp gGt (dCall uG (aA (ao 4) (aP))) (dC (.int 0)))))
noncomputable def pW:List D→Option D:=fnD 2 3 (bF (oE (dCall je (aA (ao 0) (aA (ao 1) (aP)))))
 (bF (bx 2 (gC (aP)))
 (bF (nR (lO (ao 0)) (gTn 2 (bM (gNl 3) (bM (gNl 4) (fZ)))) (sIf (bf (dCall iG (aA (ao 0) (aA (ao 1) (aA (ao 2) (aA (ao 4) (aP))))))) (pq 2 (ao 3)) (eH)))
 (cP (ql (ao 2))))))
end Com
namespace Com
open PySem D3 My
theorem qQ {ns:List Int} {i:Int} (h0:0 ≤ i) (h1:i < ns.length):pAt (ns.map PyData.int) i=some (.int (ns.getD i.toNat 0)):=by
 unfold pAt pIx
 rw [aW,if_pos h0,if_pos h1,aK,bG]
 have h:i.toNat < ns.length:=by omega
 rw [aV h]
 simp [List.getD,h]
theorem jz {l:List D} {k:Nat}:pAt l (k:Int)=l[k]?:=by
 unfold pAt pIx
 rw [if_pos (by omega)]
 by_cases h:k < l.length
 ·rw [if_pos (by omega),aK]
  simp
 ·rw [if_neg (by omega),bI (by omega)]
  rfl
theorem at0 {a:D} {l:List D}:pAt (a :: l) 0=some a:=jz (k:=0)
theorem at1 {a b:D} {l:List D}:pAt (a :: b :: l) 1=some b:=jz (k:=1)
theorem fV {i j:Int} (h:0 < j):cU (.int i) (.int j)=some (.int (i % j)):=by
 show (if decide (j ≠ 0)=true then some (PyData.int (i.fmod j)) else none)=_
 rw [if_pos (dTr (by omega)),Int.fmod_eq_emod_of_nonneg i (by omega)]
theorem Ir {j:Int} (h:j.natAbs < 2 ^ 64):j.natAbs < 2 ^ 9000:=bL h (Nat.pow_le_pow_right (by decide) (by decide))
theorem Vy {i j:Int} (h:0 < j) (h2:j.natAbs < 2 ^ 9000):yQ (.int i) (.int j)=some (.int (i / j)):=by
 show (if Aj i j=true then some (PyData.int (i.fdiv j)) else none)=_
 have e:Aj i j=true:=by
  unfold Aj
  rw [bw]
  exact ⟨dTr (by omega),dTr h2⟩
 rw [if_pos e,Int.fdiv_eq_ediv_of_nonneg i (by omega)]
theorem T8 {i j:Int} (h:0 < j) (h2:j < 18446744073709551616):yQ (.int i) (.int j)=some (.int (i / j)):=Vy h (Ir (by omega))
theorem mulL {i j:Int} (h1 : -18446744073709551616 < i) (h2:i < 18446744073709551616):iY (.int i) (.int j)=some (.int (i * j)):=by
 show (if uy i j=true then some (PyData.int (i * j)) else none)=_
 have e:uy i j=true:=by
  unfold uy
  rw [dTr (show i.natAbs < 2 ^ 64 by omega)]
  rfl
 rw [if_pos e]
theorem mulR {i j:Int} (h1 : -18446744073709551616 < j) (h2:j < 18446744073709551616):iY (.int i) (.int j)=some (.int (i * j)):=by
 show (if uy i j=true then some (PyData.int (i * j)) else none)=_
 have e:uy i j=true:=by
  unfold uy
  rw [dTr (show j.natAbs < 2 ^ 64 by omega),ji]
  rfl
 rw [if_pos e]
theorem Nj:mK (.int 10) (.int 40)=some (.int (10 ^ 40)):=rfl
theorem Vz:mK (.int 10) (.int 6)=some (.int (10 ^ 6)):=rfl
theorem sz {n:Nat} (h:n ≤ 1000000):n ≤ sizeLine:=bV h (by decide)
theorem shaped_ints (ns:List Int):SeqAt.shaped (.list (ns.map PyData.int))=true:=by
 have h1:∀ ns:List Int,PyData.canLayAll0 (ns.map PyData.int)=true:=fun ns=>by
  induction ns with
  | nil=>rfl
  | cons a r ih=>simp [PyData.canLayAll0,PyData.canLay0,ih]
 have h2:∀ ns:List Int,PyData.depthAll (ns.map PyData.int) ≤ 1:=fun ns=>by
  induction ns with
  | nil=>simp [PyData.depthAll]
  | cons a r ih=>simp [PyData.depthAll,PyData.depth];omega
 unfold SeqAt.shaped
 rw [bw]
 refine ⟨by simp [PyData.canLay0,h1],dTr ?_⟩
 have:=h2 ns
 simp only [PyData.depth]
 omega
theorem eq_empty (ns:List Int):gEq (.list (ns.map PyData.int)) (.list [])=some (.bool (decide (ns=[]))):=by
 unfold gEq
 rw [shaped_ints ns]
 cases ns with
 | nil=>rfl
 | cons a r=>rfl
theorem Ey {ns:List Int} {i:Int} (h0:0 ≤ i):h_ [.list (ns.map .int),.int i]=some (.int (lW ns i)):=by
 unfold h_ lW
 by_cases h:i < (ns.length:Int)
 ·rw [if_pos h]
  simp only [EV,reduceIte,aq,aB,aj,ak,aC,aD,aF,lMp,dTr h,qQ h0 h,fV (show (0:Int) < 1000000007 by decide)]
 ·rw [if_neg h]
  by_cases hn:ns=[]
  ·rw [if_pos hn]
   simp only [EV,reduceIte,aq,aB,aj,ak,aC,aD,aF,lMp,dFa h,eq_empty,dTr hn,eZ,mulL (show (-18446744073709551616:Int) < 7919 by decide) (show (7919:Int) < 18446744073709551616 by decide)]
  ·rw [if_neg hn]
   have hl:0 < ns.length:=by
    cases ns with
    | nil=>exact absurd rfl hn
    | cons _ _=>simp
   have h7:0 ≤ i * 7 % (ns.length:Int):=iH _ (by omega)
   have h8:i * 7 % (ns.length:Int) < (ns.length:Int):=gj _ (by omega)
   simp only [EV,reduceIte,aq,aB,aj,ak,aC,aD,aF,lMp,dFa h,eq_empty,dFa hn,eZ,mulL (show (-18446744073709551616:Int) < 7919 by decide) (show (7919:Int) < 18446744073709551616 by decide),mulR (show (-18446744073709551616:Int) < 7 by decide) (show (7:Int) < 18446744073709551616 by decide),fV (show (0:Int) < 1000000007 by decide),fV (show (0:Int) < ns.length by omega),qQ h7 h8]
theorem wJ {l:D} {i k m:D} (n:Int):∀ (js:List D) (c:Nat) (y:Option U),(∀ j ∈ js,∃ x,j = .int x)→∃ y',mJ (gNl 5) (bx 4 (dOp yQ (ao 4) (dC (.int 1000003)))) js [some (.d l),some (.d i),some (.d k),some (.d m),some (.d (.int (divs n c))),y] =
 some (.nx [some (.d l),some (.d i),some (.d k),some (.d m),some (.d (.int (divs n (c + js.length)))),y'])
 | [],c,y,_=>⟨y,rfl⟩
 | j :: js,c,y,h=>by
  obtain ⟨y',e⟩:=wJ (l:=l) (i:=i) (k:=k) (m:=m) n js (c + 1) (some (.d j)) fun j' hj=>h j' (aH _ hj)
  refine ⟨y',?_⟩
  rw [mJ]
  simp only [EV,reduceIte,aq,aB,aj,ak,aC,aD,aF,T8 (show (0:Int) < 1000003 by decide) (show (1000003:Int) < 18446744073709551616 by decide),aK]
  rw [show c + (js.length + 1)=c + 1 + js.length by omega,← e]
  rfl
theorem Ez (lo hi:Int):∀ j ∈ gB lo hi,∃ x,j = .int x:=by
 intro j hj
 unfold gB at hj
 obtain ⟨k,_,rfl⟩:=cR.mp hj
 exact ⟨_,rfl⟩
theorem EY {ns:List Int} {i k m:Int} (h0:0 ≤ i) (hk0:0 ≤ k) (hk:k ≤ 1000) (hm:0 < m):ig [.list (ns.map .int),.int i,.int k,.int m]=some (.int (qJ ns i k m)):=by
 have rest:∀ x y:Option U,qFn ((bF (bx 4 (dOp cU (dOp iY (dOp dH (dOp dH (dCall h_ (aA (ao 0) (aA (ao 1) (aP)))) (dOp iY (dC (.int 65537)) (ao 1))) (dC (.int 3))) (dOp dH (dC (.int 1299709)) (dOp iY (dC (.int 15485863)) (ao 2)))) (dC (.int 2147483629))))
  (bF (bx 4 (dOp dH (dOp cU (dOp iY (ao 4) (ao 4)) (dC (.int 1500450271))) (dC (.int 104729))))
  (cP (dOp cU (dOp yQ (dOp cU (dOp iY (ao 4) (ao 4)) (dC (.int 715827883))) (dC (.int 64))) (ao 3))))) [some (.d (.list (ns.map .int))),some (.d (.int i)),some (.d (.int k)),some (.d (.int m)),x,y])=some (.int (CP (lW ns i) i k m)):=by
  intro x y
  have b1:0 ≤ (lW ns i + 65537 * i + 3) * (1299709 + 15485863 * k) % 2147483629:=iH _ (by decide)
  have b2:(lW ns i + 65537 * i + 3) * (1299709 + 15485863 * k) % 2147483629 < 2147483629:=gj _ (by decide)
  have b3:0 ≤ (lW ns i + 65537 * i + 3) * (1299709 + 15485863 * k) % 2147483629 * ((lW ns i + 65537 * i + 3) * (1299709 + 15485863 * k) % 2147483629) % 1500450271:=iH _ (by decide)
  have b4:(lW ns i + 65537 * i + 3) * (1299709 + 15485863 * k) % 2147483629 * ((lW ns i + 65537 * i + 3) * (1299709 + 15485863 * k) % 2147483629) % 1500450271 < 1500450271:=gj _ (by decide)
  simp only [EV,reduceIte,aq,aB,aj,ak,aC,aD,aF,Ey h0,mulL (show (-18446744073709551616:Int) < 65537 by decide) (show (65537:Int) < 18446744073709551616 by decide),mulL (show (-18446744073709551616:Int) < 15485863 by decide) (show (15485863:Int) < 18446744073709551616 by decide),
   mulR (i:=lW ns i + 65537 * i + 3) (show (-18446744073709551616:Int) < 1299709 + 15485863 * k by omega) (show 1299709 + 15485863 * k < (18446744073709551616:Int) by omega),fV (show (0:Int) < 2147483629 by decide)]
  simp only [mulL (show (-18446744073709551616:Int) < (lW ns i + 65537 * i + 3) * (1299709 + 15485863 * k) % 2147483629 by omega) (show (lW ns i + 65537 * i + 3) * (1299709 + 15485863 * k) % 2147483629 < (18446744073709551616:Int) by omega)]
  simp only [EV,reduceIte,aq,aB,aj,ak,aC,aD,aF,fV (show (0:Int) < 1500450271 by decide)]
  rw [mulL (by omega) (by omega)]
  simp only [EV,reduceIte,aq,aB,aj,ak,aC,aD,aF,fV (show (0:Int) < 715827883 by decide),T8 (show (0:Int) < 64 by decide) (show (64:Int) < 18446744073709551616 by decide),fV hm]
  rfl
 unfold ig
 rw [S7]
 simp only [EV,reduceIte,aq,aB,aj,ak,aC,aD,aF]
 by_cases h:i < (ns.length:Int)
 ·by_cases h2:10 ^ 40 ≤ ns.getD i.toNat 0
  ·simp only [EV,reduceIte,aq,aB,aj,ak,aC,aD,aF,lMp,dTr h,qQ h0 h,Nj,dTr h2]
   obtain ⟨y',e⟩:=wJ (l:=.list (ns.map .int)) (i:=.int i) (k:=.int k) (m:=.int m) (ns.getD i.toNat 0) (gB 0 k) 0 none (Ez 0 k)
   have el:0 + (gB 0 k).length=k.toNat:=by simp [gB]
   rw [el] at e
   have e':mJ (gNl 5) (bx 4 (dOp yQ (ao 4) (dC (.int 1000003)))) (gB 0 k) [some (.d (.list (ns.map .int))),some (.d (.int i)),some (.d (.int k)),some (.d (.int m)),some (.d (.int (ns.getD i.toNat 0))),none] =
    some (.nx [some (.d (.list (ns.map .int))),some (.d (.int i)),some (.d (.int k)),some (.d (.int m)),some (.d (.int (divs (ns.getD i.toNat 0) k.toNat))),y']):=e
   rw [uW (by omega) (by omega)]
   simp only [EV,reduceIte,aq,aB,aj,ak,aC,aD,aF,e']
   by_cases h3:0 < divs (ns.getD i.toNat 0) k.toNat
   ·simp only [EV,reduceIte,aq,aB,aj,ak,aC,aD,aF,dTr h3,fV (show (0:Int) < 1000003 by decide),fV hm]
    rw [Ew h h2 h3]
   ·simp only [EV,reduceIte,aq,aB,aj,ak,aC,aD,aF,dFa h3]
    rw [pQ (fun z=>h3 z.2.2)]
    have:=rest (some (.d (.int (divs (ns.getD i.toNat 0) k.toNat)))) y'
    simp only [EV,reduceIte,aq,aB,aj,ak,aC,aD,aF] at this
    exact this
  ·simp only [EV,reduceIte,aq,aB,aj,ak,aC,aD,aF,lMp,dTr h,qQ h0 h,Nj,dFa h2]
   rw [pQ (fun z=>h2 z.2.1)]
   have:=rest none none
   simp only [EV,reduceIte,aq,aB,aj,ak,aC,aD,aF] at this
   exact this
 ·simp only [EV,reduceIte,aq,aB,aj,ak,aC,aD,aF,lMp,dFa h]
  rw [pQ (fun z=>h z.1)]
  have:=rest none none
  simp only [EV,reduceIte,aq,aB,aj,ak,aC,aD,aF] at this
  exact this
end Com
namespace Com
open PySem D3 My
end Com
namespace Com
open PySem D3 My
def sm (k:Nat) (x:Int):Prop:=x.natAbs < 2 ^ k
end Com
namespace Com
open PySem D3 My
structure Tb where
 N:Nat
 w:Nat→Int
 B:Int
def sumTo (f:Nat→Int):Nat→Int
 | 0=>0
 | n + 1=>sumTo f n + f n
structure TbOk (t:Tb) (k:Nat):Prop where
 B0:0 < t.B
 Bs:sm (7 * k + 1) t.B
 w0:∀ j,0 ≤ t.w j
 wB:∀ j,t.w j ≤ t.B
 wz:∀ j,t.N ≤ j→t.w j=0
 N1:1 ≤ t.N
 N4:t.N ≤ 1 + 4 * k
 sum:sumTo t.w t.N=t.B
end Com
namespace Com
open PySem D3 My
end Com
namespace Com
open PySem D3 My
structure bd (k:Nat) (a:Rat):Prop where
 n:sm k a.num
 d:sm k (a.den:Int)
end Com
namespace Com
open PySem D3 My
theorem CQ {hi:Int} {i:Nat} {d:D} (h:(gB 0 hi)[i]? = some d):(i:Int) < hi∧d = .int (i:Int):=by
 unfold gB at h
 rw [bG] at h
 by_cases hi':i < (hi - 0).toNat
 ·rw [gQ hi'] at h
  cases h
  refine ⟨by omega,?_⟩
  show PyData.int (0 + (i:Int))=_
  rw [mY]
 ·rw [bI (by simpa using hi')] at h
  cases h
end Com
namespace Com
open PySem D3 My
theorem cEx {α:Type} {g:FG} {c:FT} {e:FE} {δ:DS} (f:α→D) (P:α→Prop):∀ l:List D,(∀ d ∈ l,∃ δ1 x,g d δ=some δ1∧c δ1=some true∧P x∧e δ1=some (f x))→∃ xs:List α,xs.length=l.length∧(∀ x ∈ xs,P x)∧jF g c e δ l=some (xs.map f)
 | [],_=>⟨[],rfl,(fun _ h=>by cases h),rfl⟩
 | d :: r,hs=>by
  obtain ⟨δ1,x,e1,e2,hp,e3⟩:=hs d aJ
  obtain ⟨xs,l1,h1,e4⟩:=cEx f P r fun x hx=>hs x (aH _ hx)
  refine ⟨x :: xs,by simp [l1],fun y hy=>?_,?_⟩
  ·rcases aZ.mp hy with rfl | z
   ·exact hp
   ·exact h1 y z
  ·rw [jF,e1,aK,e2,aK,if_pos rfl,e3,aK,e4]
   rfl
theorem Bb {α:Type} {g:FG} {c:FT} {e:FE} {δ:DS} (f:α→D) (p:α→Bool) (h:α→D):∀ l:List α,(∀ s ∈ l,∃ δ1,g (f s) δ=some δ1∧c δ1=some (p s)∧(p s=true→e δ1=some (h s)))→jF g c e δ (l.map f)=some ((l.filter p).map h)
 | [],_=>rfl
 | s :: r,hs=>by
  obtain ⟨δ1,e1,e2,e3⟩:=hs s aJ
  have ih:=Bb f p h r fun x hx=>hs x (aH _ hx)
  rw [bC,jF,e1,aK,e2,aK]
  by_cases c:p s=true
  ·rw [if_pos c,e3 c,aK,ih,mH,if_pos c]
   rfl
  ·rw [if_neg c,ih,mH,if_neg c]
theorem tH {α:Type} {g:FG} {c:FT} {e:FE} {δ:DS} (f:α→D) (h:α→D):∀ l:List α,(∀ s ∈ l,∃ δ1,g (f s) δ=some δ1∧c δ1=some true∧e δ1=some (h s))→jF g c e δ (l.map f)=some (l.map h)
 | [],_=>rfl
 | s :: r,hs=>by
  obtain ⟨δ1,e1,e2,e3⟩:=hs s aJ
  rw [bC,jF,e1,aK,e2,aK,if_pos rfl,e3,aK,tH f h r fun x hx=>hs x (aH _ hx)]
  rfl
theorem kO {α:Type} (f:α→D) (h:∀ a,flat (f a)=true):∀ l:List α,flats (l.map f)=true
 | []=>rfl
 | a :: r=>by rw [bC,flats,h,kO f h r];rfl
theorem nG (l:List Int):flats (l.map PyData.int)=true:=kO _ (fun _=>rfl) l
theorem at2 {a b c:D} {l:List D}:pAt (a :: b :: c :: l) 2=some c:=jz (k:=2)
theorem at3 {a b c d:D} {l:List D}:pAt (a :: b :: c :: d :: l) 3=some d:=jz (k:=3)
theorem at4 {a b c d e:D} {l:List D}:pAt (a :: b :: c :: d :: e :: l) 4=some e:=jz (k:=4)
theorem at5 {a b c d e f:D} {l:List D}:pAt (a :: b :: c :: d :: e :: f :: l) 5=some f:=jz (k:=5)
theorem at6 {a b c d e f g:D} {l:List D}:pAt (a :: b :: c :: d :: e :: f :: g :: l) 6=some g:=jz (k:=6)
theorem CT {α:Type} (f:α→D) {l:List α} {i:Int} (h0:0 ≤ i) (h1:i < l.length):∃ a ∈ l,pAt (l.map f) i=some (f a):=by
 have hk:i.toNat < l.length:=by omega
 refine ⟨l[i.toNat],d7 hk,?_⟩
 obtain ⟨k,rfl⟩:∃ k:Nat,i=(k:Int):=⟨i.toNat,by omega⟩
 rw [jz,bG]
 simp only [cC] at hk ⊢
 rw [aV hk]
 rfl
theorem lX {m:Int}:(gB 0 m).length=m.toNat:=by unfold gB;rw [aW,cN,qd]
theorem xX {m:Int} {d:D} (h:d ∈ gB 0 m):∃ k:Nat,(k:Int) < m∧d = .int (k:Int):=by
 unfold gB at h
 obtain ⟨k,hk,rfl⟩:=cR.mp h
 have:=bQ.mp hk
 exact ⟨k,by omega,by rw [mY]⟩
theorem tY (m:Int):gB 0 m=(aX m.toNat).map fun k:Nat=>PyData.int (k:Int):=by
 unfold gB
 rw [qd]
 apply jm
 intro k _
 rw [mY]
theorem QM {m:Int} {i:Nat} {d:D} (h:(gB 0 m)[i]? = some d):(i:Int) < m∧d = .int (i:Int):=by
 rw [tY,bG] at h
 by_cases hi:i < m.toNat
 ·rw [gQ hi] at h
  cases h
  exact ⟨by omega,rfl⟩
 ·rw [bI (by simpa using hi)] at h
  cases h
theorem uX {v k:Int} (h:k ≤ 1000000) (h' : -(2 ^ 63) ≤ k):rF (.list [.int v]) (.int k)=some (.list ((aG k.toNat v).map PyData.int)):=by
 show (if [PyData.int v].length * k.toNat ≤ 1000000∧-(2 ^ 63) ≤ k∧k < 2 ^ 63 then some (PyData.list (aG k.toNat [PyData.int v]).flatten) else none)=_
 rw [if_pos ⟨by simp only [cA,dU];omega,h',by omega⟩]
 congr 2
 generalize k.toNat=n
 induction n with
 | zero=>rfl
 | succ n ih=>rw [b_,d9,ih,b_,bC];rfl
theorem jX {i j:Int} (h:0 < j):0 ≤ i % j∧i % j < j:=⟨iH _ (by omega),gj _ h⟩
theorem QS:mK (.int 10) (.int 9)=some (.int 1000000000):=rfl
theorem Iu:mK (.int 10) (.int 6)=some (.int 1000000):=rfl
theorem T9 {l:List D} {k:Int} (h:0 ≤ k):cutD l none (some k)=l.take k.toNat:=by
 unfold cutD
 have e:pSx l.length l.length (some k)=min k.toNat l.length:=by
  show (if k < 0 then _ else _)=_
  rw [if_neg (by omega)]
 rw [e,show pSx l.length 0 none=0 from rfl,List.drop_zero,Nat.sub_zero,List.take_eq_take_iff]
 omega
theorem isList:D3.isT "list" "list" = true:=rfl
mutual
theorem eqv_refl:∀ d:D,d.canLay0=true→PyData.eqv d d=true
 | .none,_=>by simp [PyData.eqv]
 | .bool b,_=>by simp [PyData.eqv]
 | .int i,_=>by simp [PyData.eqv]
 | .str x,_=>by simp [PyData.eqv]
 | .list l,h=>by
  have:=eqvAll_refl l (by simpa [PyData.canLay0] using h)
  simpa [PyData.eqv] using this
 | .tuple l,h=>by
  have:=eqvAll_refl l (by simpa [PyData.canLay0] using h)
  simpa [PyData.eqv] using this
 | .dict l,h=>by simp [PyData.canLay0] at h
theorem eqvAll_refl:∀ l:List D,PyData.canLayAll0 l=true→PyData.eqvAll l l=true
 | [],_=>by simp [PyData.eqvAll]
 | d :: r,h=>by
  rw [PyData.canLayAll0,bw] at h
  rw [PyData.eqvAll,eqv_refl d h.1,eqvAll_refl r h.2]
  rfl
end
def ly (n:Nat) (d:D):Prop:=d.canLay0=true∧d.depth ≤ n
def lys (n:Nat) (l:List D):Prop:=PyData.canLayAll0 l=true∧PyData.depthAll l ≤ n
theorem zy {n m:Nat} {d:D} (h:ly n d) (l:n ≤ m):ly m d:=⟨h.1,bV h.2 l⟩
theorem xY {n:Nat}:lys n []:=⟨by simp [PyData.canLayAll0],by simp [PyData.depthAll]⟩
theorem mU {n:Nat} {d:D} {l:List D} (h:ly n d) (q:lys n l):lys n (d :: l) :=
 ⟨by rw [PyData.canLayAll0,h.1,q.1];rfl,by have:=h.2;have:=q.2;simp only [PyData.depthAll];omega⟩
theorem qW {α:Type} {n:Nat} (f:α→D) (h:∀ a,ly n (f a)):∀ l:List α,lys n (l.map f)
 | []=>xY
 | a :: r=>mU (h a) (qW f h r)
theorem tZ {n:Nat} {l:List D} (h:lys n l):ly (n + 1) (.list l):=⟨by simp [PyData.canLay0,h.1],by have:=h.2;simp only [PyData.depth];omega⟩
theorem Iw {n:Nat} {l:List D} (h:lys n l):ly (n + 1) (.tuple l):=⟨by simp [PyData.canLay0,h.1],by have:=h.2;simp only [PyData.depth];omega⟩
theorem uY {n:Nat} {i:Int}:ly (n + 1) (.int i):=⟨rfl,by simp [PyData.depth]⟩
theorem rT {d:D} (h:ly 60 d):SeqAt.shaped d=true:=by
 unfold SeqAt.shaped
 rw [bw]
 exact ⟨h.1,dTr (by have:=h.2;omega)⟩
theorem ne_self {d:D} (h:ly 60 d):gNe d d=some (.bool false):=by
 unfold gNe
 rw [rT h,eqv_refl d h.1]
 rfl
theorem ne_nil {l:List D} (h:ly 60 (.list l)):gNe (.list l) (.list [])=some (.bool (!l.isEmpty)):=by
 unfold gNe
 rw [rT h,show SeqAt.shaped (.list [])=true from rfl]
 cases l <;> simp [PyData.eqv,PyData.eqvAll]
end Com
namespace Com
open PySem D3 My
def r6 (x:Int):Prop:=0 ≤ x∧x < 1000000
theorem qY (ns:List Int) {a m:Int} (h0:0 ≤ a) (m0:0 ≤ m) (m1:m ≤ 1000):∃ xs:List Int,xs.length=m.toNat∧(∀ x ∈ xs,r6 x)∧dj [.list (ns.map .int),.int a,.int m]=some (.list (xs.map .int)):=by
 have rr:nP (some [.int m])=some (gB 0 m):=uW (by omega) (by omega)
 obtain ⟨xs,l1,h1,e⟩:=cEx (g:=(gNl 0)) (c:=(D3.gH)) (e:=(dCall ig (aA (ao 1) (aA (ao 2) (aA (ao 0) (aA (dOp mK (dC (.int 10)) (dC (.int 6))) (aP))))))) (δ:=[none,some (.d (.list (ns.map .int))),some (.d (.int a))]) PyData.int r6 (gB 0 m) fun d hd=>by
  obtain ⟨k,hk,rfl⟩:=xX hd
  refine ⟨[some (.d (.int (k:Int))),some (.d (.list (ns.map .int))),some (.d (.int a))],qJ ns a (k:Int) (10 ^ 6),rfl,rfl,by have:=zx ns a (k:Int) (m:=10 ^ 6) (by decide);unfold r6;omega,?_⟩
  simp only [EV,reduceIte,aq,aB,aj,ak,aC,aD,aF,Vz,EY (ns:=ns) (i:=a) (k:=(k:Int)) (m:=10 ^ 6) h0 (by omega) (by omega) (by decide)]
 have ca:∀ a b c:U,jO 1 [0,1] [some a,some b,some c]=[none,some a,some b]:=fun _ _ _=>rfl
 unfold dj
 refine ⟨xs,by rw [l1,lX],h1,?_⟩
 simp only [EV,reduceIte,aq,aB,aj,ak,aC,aD,aF,rr,ca,e,lX,show m.toNat ≤ 100000 by omega]
theorem VB {xs:List Int} (h:xs.length=5):∃ a b c d e,xs=[a,b,c,d,e]:=by
 match xs,h with
 | [a,b,c,d,e],_=>exact ⟨a,b,c,d,e,rfl⟩
theorem VD {xs:List Int} (h:xs.length=7):∃ a b c d e f g,xs=[a,b,c,d,e,f,g]:=by
 match xs,h with
 | [a,b,c,d,e,f,g],_=>exact ⟨a,b,c,d,e,f,g,rfl⟩
theorem VF (ns:List Int) {a:Int} (h0:0 ≤ a):∃ x0 x1 x2 x3 x4,r6 x0∧r6 x1∧r6 x2∧r6 x3∧r6 x4∧dj [.list (ns.map .int),.int a,.int 5]=some (.list [.int x0,.int x1,.int x2,.int x3,.int x4]):=by
 obtain ⟨xs,hl,hb,e⟩:=qY ns h0 (m:=5) (by decide) (by decide)
 obtain ⟨x0,x1,x2,x3,x4,rfl⟩:=VB hl
 exact ⟨x0,x1,x2,x3,x4,hb _ (by simp),hb _ (by simp),hb _ (by simp),hb _ (by simp),hb _ (by simp),e⟩
theorem VG (ns:List Int) {a:Int} (h0:0 ≤ a):∃ x0 x1 x2 x3 x4 x5 x6,r6 x0∧r6 x1∧r6 x2∧r6 x3∧r6 x4∧r6 x5∧r6 x6∧dj [.list (ns.map .int),.int a,.int 7]=some (.list [.int x0,.int x1,.int x2,.int x3,.int x4,.int x5,.int x6]):=by
 obtain ⟨xs,hl,hb,e⟩:=qY ns h0 (m:=7) (by decide) (by decide)
 obtain ⟨x0,x1,x2,x3,x4,x5,x6,rfl⟩:=VD hl
 exact ⟨x0,x1,x2,x3,x4,x5,x6,hb _ (by simp),hb _ (by simp),hb _ (by simp),hb _ (by simp),hb _ (by simp),hb _ (by simp),hb _ (by simp),e⟩
theorem rW {xs:List Int} {i:Int} (h0:0 ≤ i) (h1:i < xs.length):∃ x ∈ xs,pAt (xs.map PyData.int) i=some (.int x):=CT PyData.int h0 h1
theorem E_ (ns:List Int) {n:Int} (n0:1 ≤ n) (n1:n ≤ 100):∃ fs:List Int,fs.length=n.toNat∧(∀ f ∈ fs,0 ≤ f∧f ≤ 12)∧iw [.list (ns.map .int),.int n]=some (.list (fs.map .int)):=by
 obtain ⟨x0,x1,x2,x3,x4,b0,b1,b2,b3,b4,ex⟩:=VF ns (a:=1) (by decide)
 obtain ⟨ys,yl,yb,ey⟩:=qY ns (a:=60) (m:=n) (by decide) (by omega) (by omega)
 have rr:nP (some [.int n])=some (gB 0 n):=uW (by omega) (by omega)
 have hw:=jX (i:=x0) (j:=4) (by decide)
 have cw:x0 % 4=0∨x0 % 4=1∨x0 % 4=2∨x0 % 4=3:=by omega
 unfold iw
 rcases cw with c | c | c | c
 ·have m1:=jX (i:=x1) (j:=3) (by decide)
  refine ⟨aG n.toNat (1 + x1 % 3),aL,fun f hf=>?_,?_⟩
  ·rw [lZ hf];omega
  ·simp only [EV,reduceIte,aq,aB,aj,ak,aC,aD,aF,ex,ey,fV (show (0:Int) < 4 by decide),c,fV (show (0:Int) < 3 by decide),at1,sz (show 1 ≤ 1000000 by decide),uX (v:=1 + x1 % 3) (k:=n) (by omega) (by omega),nG]
 ·obtain ⟨fs,fl,fb,ef⟩:=cEx (g:=(gNl 0)) (c:=(D3.gH)) (e:=(dOp cU (dOp gIx (ao 1) (ao 0)) (dC (.int 3)))) (δ:=[none,some (.d (.list (ys.map .int)))]) PyData.int (fun f=>0 ≤ f∧f ≤ 12) (gB 0 n) fun d hd=>by
   obtain ⟨k,hk,rfl⟩:=xX hd
   obtain ⟨y,hy,py⟩:=rW (xs:=ys) (i:=(k:Int)) (by omega) (by omega)
   have:=jX (i:=y) (j:=3) (by decide)
   refine ⟨[some (.d (.int (k:Int))),some (.d (.list (ys.map .int)))],y % 3,rfl,rfl,by omega,?_⟩
   simp only [EV,reduceIte,aq,aB,aj,ak,aC,aD,aF,py,fV (show (0:Int) < 3 by decide)]
  have ca:∀ a b c d e f:Option U,jO 1 [3] [a,b,c,d,e,f]=[none,d]:=fun _ _ _ _ _ _=>rfl
  refine ⟨fs,by rw [fl,lX],fb,?_⟩
  simp only [EV,reduceIte,aq,aB,aj,ak,aC,aD,aF,ex,ey,fV (show (0:Int) < 4 by decide),c,rr,ca,ef,lX,show n.toNat ≤ 100000 by omega,sz (show 1 ≤ 1000000 by decide)]
 ·obtain ⟨fs,fl,fb,ef⟩:=cEx (g:=(gNl 0)) (c:=(D3.gH)) (e:=(cQ (dOp gIx (gC (aA (dC (.int 0)) (aA (dC (.int 1)) (aA (dC (.int 2)) (aA (dC (.int 5)) (aA (dC (.int 11)) (aA (dC (.int 12)) (aP)))))))) (dOp cU (dOp gIx (ao 1) (ao 0)) (dC (.int 6)))))) (δ:=[none,some (.d (.list (ys.map .int)))]) PyData.int (fun f=>0 ≤ f∧f ≤ 12) (gB 0 n) fun d hd=>by
   obtain ⟨k,hk,rfl⟩:=xX hd
   obtain ⟨y,hy,py⟩:=rW (xs:=ys) (i:=(k:Int)) (by omega) (by omega)
   have:=jX (i:=y) (j:=6) (by decide)
   obtain ⟨v,hv,pv⟩:=rW (xs:=[0,1,2,5,11,12]) (i:=y % 6) (by omega) (by simp only [cA,dU];omega)
   refine ⟨[some (.d (.int (k:Int))),some (.d (.list (ys.map .int)))],v,rfl,rfl,by simp at hv;omega,?_⟩
   simp only [EV,reduceIte,aq,aB,aj,ak,aC,aD,aF,py,fV (show (0:Int) < 6 by decide),sz (show 6 ≤ 1000000 by decide)]
   simp only [bC,p8] at pv
   rw [pv]
   simp only [EV,reduceIte,aq,aB,aj,ak,aC,aD,aF]
  have ca:∀ a b c d e f:Option U,jO 1 [3] [a,b,c,d,e,f]=[none,d]:=fun _ _ _ _ _ _=>rfl
  refine ⟨fs,by rw [fl,lX],fb,?_⟩
  simp only [EV,reduceIte,aq,aB,aj,ak,aC,aD,aF,ex,ey,fV (show (0:Int) < 4 by decide),c,rr,ca,ef,lX,show n.toNat ≤ 100000 by omega,sz (show 1 ≤ 1000000 by decide)]
 ·have m2:=jX (i:=x2) (j:=n + 1) (by omega)
  have m3:=jX (i:=x3) (j:=4) (by decide)
  have m4:=jX (i:=x4) (j:=4) (by decide)
  refine ⟨aG (x2 % (n + 1)).toNat (x3 % 4)++aG (n - x2 % (n + 1)).toNat (x4 % 4),by simp;omega,fun f hf=>?_,?_⟩
  ·rcases bZ.mp hf with z | z <;> rw [lZ z] <;> omega
  ·simp only [EV,reduceIte,aq,aB,aj,ak,aC,aD,aF,ex,ey,fV (show (0:Int) < 4 by decide),c,at2,at3,at4,fV (show (0:Int) < n + 1 by omega),sz (show 1 ≤ 1000000 by decide),uX (v:=x3 % 4) (k:=x2 % (n + 1)) (by omega) (by omega),uX (v:=x4 % 4) (k:=n - x2 % (n + 1)) (by omega) (by omega)]
   rw [if_pos (by simp only [aW,aL];omega),← fL]
   simp only [EV,reduceIte,aq,aB,aj,ak,aC,aD,aF,nG]
abbrev Wi:=Int × Int × Int
def wiD (w:Wi):D:=.tuple [.int w.1,.int w.2.1,.int w.2.2]
def jf (n:Int) (w:Wi):Prop:=0 ≤ w.1∧w.1 < w.2.1∧w.2.1 ≤ n∧0 ≤ w.2.2∧w.2.2 ≤ 1000000000
theorem Nk (w:Wi):ly 3 (wiD w):=Iw (mU uY (mU uY (mU uY xY)))
theorem QT (ws:List Wi):ly 60 (.list (ws.map wiD)):=zy (tZ (qW wiD Nk ws)) (by decide)
theorem zA (ns:List Int) {n:Int} (n0:1 ≤ n) (n1:n ≤ 100) {m:D} {i:Nat} (ws:List Wi) (hl:ws.length ≤ 1000) (hw:∀ w ∈ ws,jf n w) (y5 y6 y7 y8:Option U) :
 ∃ w,jf n w∧∃ z5 z6 z7 z8,(bF (bx 5 (dCall dj (aA (ao 0) (aA (dOp dH (dC (.int 4)) (ao 4)) (aA (dC (.int 7)) (aP)))))) (bF (bx 6 (dOp cU (dOp gIx (ao 5) (dC (.int 0))) (ao 1))) (bF (bx 7 (dCall uE (aA (ao 1) (aA (dOp dH (dOp dH (ao 6) (dC (.int 1))) (dOp cU (dOp gIx (ao 5) (dC (.int 1))) (dOp gIx (gC (aA (dC (.int 3)) (aA (ao 1) (aP)))) (dOp cU (dOp gIx (ao 5) (dC (.int 2))) (dC (.int 2)))))) (aP))))) (bF (bx 8 (gC (aA (dOp cU (dOp gIx (ao 5) (dC (.int 3))) (dC (.int 10))) (aA (dOp iY (dC (.int 5)) (dOp pI (ao 7) (ao 6))) (aA (dOp cU (dOp dH (dOp iY (dOp gIx (ao 5) (dC (.int 3))) (dOp mK (dC (.int 10)) (dC (.int 6)))) (dOp gIx (ao 5) (dC (.int 6)))) (dOp dH (dOp mK (dC (.int 10)) (dC (.int 9))) (dC (.int 1)))) (aP)))))) (bF (bx 8 (dOp qp (ao 8) (gC (aA (dOp mK (dC (.int 10)) (dC (.int 9))) (aA (dOp dH (dC (.int 1)) (dOp cU (dOp gIx (ao 5) (dC (.int 3))) (dC (.int 100)))) (aP)))))) (sIf (D3.n_ (bf (dOp gEq (dOp cU (dOp gIx (ao 5) (dC (.int 5))) (dC (.int 5))) (dC (.int 0)))) (bf (dOp gNe (ao 3) (gC (aP))))) (pq 3 (dOp gIx (ao 3) (dOp cU (dOp gIx (ao 5) (dC (.int 3))) (dCall jx (aA (ao 3) (aP)))))) (pq 3 (dTup (aA (ao 6) (aA (ao 7) (aA (dOp gIx (ao 8) (dOp cU (dOp gIx (ao 5) (dC (.int 4))) (dC (.int 5)))) (aP)))))))))))) [some (.d (.list (ns.map .int))),some (.d (.int n)),some (.d m),some (.d (.list (ws.map wiD))),some (.d (.int (i:Int))),y5,y6,y7,y8] =
  some (.nx [some (.d (.list (ns.map .int))),some (.d (.int n)),some (.d m),some (.d (.list ((ws++[w]).map wiD))),some (.d (.int (i:Int))),z5,z6,z7,z8]):=by
 obtain ⟨x0,x1,x2,x3,x4,x5,x6,b0,b1,b2,b3,b4,b5,b6,ex⟩:=VG ns (a:=4 + (i:Int)) (by omega)
 have m0:=jX (i:=x0) (j:=n) (by omega)
 have m2:=jX (i:=x2) (j:=2) (by decide)
 have m3:=jX (i:=x3) (j:=10) (by decide)
 have m3':=jX (i:=x3) (j:=100) (by decide)
 have m4:=jX (i:=x4) (j:=5) (by decide)
 have m5:=jX (i:=x5) (j:=5) (by decide)
 have m6:=jX (i:=x3 * 1000000 + x6) (j:=1000000001) (by decide)
 have mg:iY (.int x3) (.int 1000000)=some (.int (x3 * 1000000)):=mulR (by decide) (by decide)
 obtain ⟨v,hv,ev⟩:∃ v,0 < v∧pAt [PyData.int 3,PyData.int n] (x2 % 2)=some (.int v):=by
  have:x2 % 2=0∨x2 % 2=1:=by omega
  rcases this with e | e
  ·exact ⟨3,by decide,by rw [e];exact at0⟩
  ·exact ⟨n,by omega,by rw [e];exact at1⟩
 have m1:=jX (i:=x1) (j:=v) hv
 obtain ⟨b,hb,hb2,eb⟩:∃ b,x0 % n < b∧b ≤ n∧uE [.int n,.int (x0 % n + 1 + x1 % v)]=some (.int b):=by
  refine ⟨if x0 % n + 1 + x1 % v < n then x0 % n + 1 + x1 % v else n,?_,?_,rfl⟩ <;> split <;> omega
 have mb:iY (.int 5) (.int (b - x0 % n))=some (.int (5 * (b - x0 % n))):=mulL (by decide) (by decide)
 obtain ⟨s,hs,es⟩:∃ s,(0 ≤ s∧s ≤ 1000000000)∧pAt [PyData.int (x3 % 10),.int (5 * (b - x0 % n)),.int ((x3 * 1000000 + x6) % 1000000001),.int 1000000000,.int (1 + x3 % 100)] (x4 % 5)=some (.int s):=by
  have:x4 % 5=0∨x4 % 5=1∨x4 % 5=2∨x4 % 5=3∨x4 % 5=4:=by omega
  rcases this with e | e | e | e | e <;> rw [e]
  ·exact ⟨_,by omega,at0⟩
  ·exact ⟨_,by omega,at1⟩
  ·exact ⟨_,by omega,at2⟩
  ·exact ⟨_,by omega,at3⟩
  ·exact ⟨_,by omega,at4⟩
 by_cases c:x5 % 5=0∧ws ≠ []
 ·have hp:0 < (ws.length:Int):=by
   have:=List.length_pos_iff.mpr c.2
   omega
  have ml:=jX (i:=x3) (j:=(ws.length:Int)) hp
  obtain ⟨w,hwm,ew⟩:=CT wiD (l:=ws) (i:=x3 % (ws.length:Int)) (by omega) (by omega)
  refine ⟨w,hw w hwm,some (.d (.list [.int x0,.int x1,.int x2,.int x3,.int x4,.int x5,.int x6])),some (.d (.int (x0 % n))),some (.d (.int b)),some (.d (.list [.int (x3 % 10),.int (5 * (b - x0 % n)),.int ((x3 * 1000000 + x6) % 1000000001),.int 1000000000,.int (1 + x3 % 100)])),?_⟩
  simp only [EV,reduceIte,aq,aB,aj,ak,aC,aD,aF,ex,fV (show (0:Int) < n by omega),at1,at2,at3,at4,at5,at6,fV (show (0:Int) < 2 by decide),Com.sz (show 2 ≤ 1000000 by decide),ev,fV hv,eb,fV (show (0:Int) < 10 by decide),mb,Iu,mg,QS,fV (show (0:Int) < 1000000001 by decide),sz (show 3 ≤ 1000000 by decide),fV (show (0:Int) < 100 by decide),fV (show (0:Int) < 5 by decide),c.1,eZ,ne_nil (QT ws),List.isEmpty_map,show ws.isEmpty=false by cases ws with | nil=>exact absurd rfl c.2 | cons _ _=>rfl,lMp,fV hp,ew,show ws.length < 1000000 by omega,pA]
  rw [fL]
  rfl
 ·refine ⟨(x0 % n,b,s),⟨m0.1,hb,hb2,hs⟩,some (.d (.list [.int x0,.int x1,.int x2,.int x3,.int x4,.int x5,.int x6])),some (.d (.int (x0 % n))),some (.d (.int b)),some (.d (.list [.int (x3 % 10),.int (5 * (b - x0 % n)),.int ((x3 * 1000000 + x6) % 1000000001),.int 1000000000,.int (1 + x3 % 100)])),?_⟩
  by_cases c5:x5 % 5=0
  ·have cw:ws=[]:=Classical.byContradiction fun z=>c ⟨c5,z⟩
   subst cw
   simp only [EV,reduceIte,aq,aB,aj,ak,aC,aD,aF,ex,fV (show (0:Int) < n by omega),at1,at2,at3,at4,at5,at6,fV (show (0:Int) < 2 by decide),Com.sz (show 2 ≤ 1000000 by decide),ev,fV hv,eb,fV (show (0:Int) < 10 by decide),mb,Iu,mg,QS,fV (show (0:Int) < 1000000001 by decide),sz (show 3 ≤ 1000000 by decide),fV (show (0:Int) < 100 by decide),fV (show (0:Int) < 5 by decide),c5,eZ,show gNe (.list []) (.list [])=some (.bool false) from rfl,List.isEmpty_nil,es,pA]
   rfl
  ·simp only [EV,reduceIte,aq,aB,aj,ak,aC,aD,aF,ex,fV (show (0:Int) < n by omega),at1,at2,at3,at4,at5,at6,fV (show (0:Int) < 2 by decide),Com.sz (show 2 ≤ 1000000 by decide),ev,fV hv,eb,fV (show (0:Int) < 10 by decide),mb,Iu,mg,QS,fV (show (0:Int) < 1000000001 by decide),sz (show 3 ≤ 1000000 by decide),fV (show (0:Int) < 100 by decide),fV (show (0:Int) < 5 by decide),dFa c5,es,lMp,show ws.length < 1000000 by omega,pA]
   rw [fL]
   rfl
theorem zB (ns:List Int) {n m:Int} (n0:1 ≤ n) (n1:n ≤ 100) (m0:0 ≤ m) (m1:m ≤ 1000):∃ ws:List Wi,ws.length=m.toNat∧(∀ w ∈ ws,jf n w)∧gb [.list (ns.map .int),.int n,.int m]=some (.list (ws.map wiD)):=by
 unfold gb
 simp only [EV,reduceIte,aq,aB,aj,ak,aC,aD,aF,eZ]
 rw [uW (by omega) (by omega)]
 simp only [EV,reduceIte,aq,aB,aj,ak,aC,aD,aF]
 obtain ⟨δ',e,ws,hl,hw,y4,y5,y6,y7,y8,rfl⟩:=o9 (g:=(gNl 4)) (b:=(bF (bx 5 (dCall dj (aA (ao 0) (aA (dOp dH (dC (.int 4)) (ao 4)) (aA (dC (.int 7)) (aP)))))) (bF (bx 6 (dOp cU (dOp gIx (ao 5) (dC (.int 0))) (ao 1))) (bF (bx 7 (dCall uE (aA (ao 1) (aA (dOp dH (dOp dH (ao 6) (dC (.int 1))) (dOp cU (dOp gIx (ao 5) (dC (.int 1))) (dOp gIx (gC (aA (dC (.int 3)) (aA (ao 1) (aP)))) (dOp cU (dOp gIx (ao 5) (dC (.int 2))) (dC (.int 2)))))) (aP))))) (bF (bx 8 (gC (aA (dOp cU (dOp gIx (ao 5) (dC (.int 3))) (dC (.int 10))) (aA (dOp iY (dC (.int 5)) (dOp pI (ao 7) (ao 6))) (aA (dOp cU (dOp dH (dOp iY (dOp gIx (ao 5) (dC (.int 3))) (dOp mK (dC (.int 10)) (dC (.int 6)))) (dOp gIx (ao 5) (dC (.int 6)))) (dOp dH (dOp mK (dC (.int 10)) (dC (.int 9))) (dC (.int 1)))) (aP)))))) (bF (bx 8 (dOp qp (ao 8) (gC (aA (dOp mK (dC (.int 10)) (dC (.int 9))) (aA (dOp dH (dC (.int 1)) (dOp cU (dOp gIx (ao 5) (dC (.int 3))) (dC (.int 100)))) (aP)))))) (sIf (D3.n_ (bf (dOp gEq (dOp cU (dOp gIx (ao 5) (dC (.int 5))) (dC (.int 5))) (dC (.int 0)))) (bf (dOp gNe (ao 3) (gC (aP))))) (pq 3 (dOp gIx (ao 3) (dOp cU (dOp gIx (ao 5) (dC (.int 3))) (dCall jx (aA (ao 3) (aP)))))) (pq 3 (dTup (aA (ao 6) (aA (ao 7) (aA (dOp gIx (ao 8) (dOp cU (dOp gIx (ao 5) (dC (.int 4))) (dC (.int 5)))) (aP)))))))))))))
  (fun i δ=>∃ ws:List Wi,ws.length=i∧(∀ w ∈ ws,jf n w)∧∃ y4 y5 y6 y7 y8,δ=[some (.d (.list (ns.map .int))),some (.d (.int n)),some (.d (.int m)),some (.d (.list (ws.map wiD))),y4,y5,y6,y7,y8]) (gB 0 m)
  [some (.d (.list (ns.map .int))),some (.d (.int n)),some (.d (.int m)),some (.d (.list [])),none,none,none,none,none] ⟨[],rfl,by simp,none,none,none,none,none,rfl⟩ (by
   rintro i d δ hd ⟨ws,hl,hw,y4,y5,y6,y7,y8,rfl⟩
   obtain ⟨hi,rfl⟩:=QM hd
   obtain ⟨w,ow,z5,z6,z7,z8,ew⟩:=zA ns n0 n1 (m:=.int m) (i:=i) ws (by omega) hw y5 y6 y7 y8
   refine ⟨_,_,rfl,.inl ew,ws++[w],by simp [hl],fun x hx=>?_,_,_,_,_,_,rfl⟩
   rcases bZ.mp hx with z | z
   ·exact hw x z
   ·rw [aU.mp z];exact ow)
 rw [e]
 refine ⟨ws,by rw [hl,lX],hw,?_⟩
 simp only [EV,reduceIte,aq,aB,aj,ak,aC,aD,aF,kO wiD (fun _=>rfl)]
abbrev Pr:=Int × Int
def prD (p:Pr):D:=.tuple [.int p.1,.int p.2]
end Com
namespace Com
open PySem D3 My
def Iz (ps:List Pr) (a b:Int):Int:=((ps.filter fun p=>decide (a ≤ p.1) && decide (p.1 < b)).map (·.2)).sum
theorem Fb {ps:List Pr} (hl:ps.length ≤ 1000) (a b:Int):pR [.list (ps.map prD),.int a,.int b]=some (.int (Iz ps a b)):=by
 have C:=Bb (g:=(gTn 2 (bM (gNl 0) (bM (gNl 1) (fZ))))) (c:=(bf (jG gLe gLt (ao 2) (ao 0) (ao 3)))) (e:=(cQ (ao 1))) (δ:=[none,none,some (.d (.int a)),some (.d (.int b))]) prD (fun p=>decide (a ≤ p.1) && decide (p.1 < b)) (fun p=>.int p.2) ps (fun s _=>by
  refine ⟨[some (.d (.int s.1)),some (.d (.int s.2)),some (.d (.int a)),some (.d (.int b))],rfl,?_,fun _=>rfl⟩
  by_cases c:a ≤ s.1
  ·simp only [EV,reduceIte,aq,aB,aj,ak,aC,aD,aF,dTr c,Bool.true_and]
  ·simp only [EV,reduceIte,aq,aB,aj,ak,aC,aD,aF,dFa c,nW])
 have ca:∀ a b c:Option U,jO 2 [1,2] [a,b,c]=[none,none,b,c]:=fun _ _ _=>rfl
 unfold pR
 simp only [EV,reduceIte,aq,aB,aj,ak,aC,aD,aF,lMp,show ps.length ≤ 100000 by omega,ca,C]
 unfold Iz
 rw [show ((ps.filter fun p=>decide (a ≤ p.1) && decide (p.1 < b)).map fun p=>PyData.int p.2)=((ps.filter fun p=>decide (a ≤ p.1) && decide (p.1 < b)).map (·.2)).map .int by rw [cT];rfl,zu]
 simp only [EV,reduceIte,aq,aB,aj,ak,aC,aD,aF]
def zE (ps:List Pr) (w:Wi):Int:=w.2.2 - Iz ps w.1 w.2.1
theorem Fd {ps:List Pr} (hl:ps.length ≤ 1000) (w:Wi):j7 [wiD w,.list (ps.map prD)]=some (.int (zE ps w)):=by
 unfold j7 wiD
 simp only [EV,reduceIte,aq,aB,aj,ak,aC,aD,aF,at0,at1,at2,Fb hl]
 rfl
def uZ (ws:List Wi) (cs:List Int):Int:=(cs.map fun c=>(ws.getD c.toNat (0,0,0)).2.2).sum
theorem lB {α:Type} (f:α→D) {l:List α} (x:α) {i:Int} (h0:0 ≤ i) (h1:i < l.length):pAt (l.map f) i=some (f (l.getD i.toNat x)):=by
 have hk:i.toNat < l.length:=by omega
 obtain ⟨k,rfl⟩:∃ k:Nat,i=(k:Int):=⟨i.toNat,by omega⟩
 rw [jz,bG,aN]
 simp only [cC] at hk ⊢
 rw [aV hk]
 rfl
theorem Bc {ws:List Wi} {cs:List Int} (h:∀ c ∈ cs,0 ≤ c∧c < ws.length):jF (gNl 0) (D3.gH) (cQ (dOp gIx (dOp gIx (ao 1) (ao 0)) (dC (.int 2)))) [none,some (.d (.list (ws.map wiD)))] (cs.map .int)=some ((cs.map fun c=>(ws.getD c.toNat (0,0,0)).2.2).map .int):=by
 have C:=tH (g:=(gNl 0)) (c:=(D3.gH)) (e:=(cQ (dOp gIx (dOp gIx (ao 1) (ao 0)) (dC (.int 2))))) (δ:=[none,some (.d (.list (ws.map wiD)))]) PyData.int (fun c=>.int (ws.getD c.toNat (0,0,0)).2.2) cs (fun c hc=>by
  refine ⟨[some (.d (.int c)),some (.d (.list (ws.map wiD)))],rfl,rfl,?_⟩
  simp only [EV,reduceIte,aq,aB,aj,ak,aC,aD,aF,lB wiD (0,0,0) (h c hc).1 (h c hc).2]
  unfold wiD
  simp only [EV,reduceIte,aq,aB,aj,ak,aC,aD,aF,at2])
 rw [C,cT]
 rfl
theorem u5 {ws:List Wi} {cs:List Int} (hl:cs.length ≤ 1000) (h:∀ c ∈ cs,0 ≤ c∧c < ws.length):gq [.list (ws.map wiD),.list (cs.map .int)]=some (.int (uZ ws cs)):=by
 have ca:∀ a b:Option U,jO 1 [0] [a,b]=[none,a]:=fun _ _=>rfl
 unfold gq
 simp only [EV,reduceIte,aq,aB,aj,ak,aC,aD,aF,lMp,show cs.length ≤ 100000 by omega,ca,Bc h,zu]
 rfl
theorem xZ {w:Wi} {fs:List Int} (h:jf fs.length w):cO [wiD w,.list (fs.map .int)]=some (.bool true):=by
 obtain ⟨h1,h2,h3,h4,h5⟩:=h
 unfold cO wiD
 simp only [EV,reduceIte,aq,aB,aj,ak,aC,aD,aF,at0,at1,at2,lMp,dTr h1,dTr h2,dTr h3,dTr h4,dTr h5]
theorem fJ {ws:List Wi} {fs:List Int} (h:∀ w ∈ ws,jf fs.length w):je [.list (ws.map wiD),.list (fs.map .int)]=some .none:=by
 unfold je
 simp only [EV,reduceIte,aq,aB,aj,ak,aC,aD,aF]
 obtain ⟨δ',e,x,y,rfl⟩:=o9 (g:=(gTn 2 (bM (gNl 2) (bM (gNl 3) (fZ))))) (b:=(sIf (D3.jN (bf (dCall cO (aA (ao 3) (aA (ao 1) (aP)))))) ((fun _=>none)) (eH))) (fun _ δ=>∃ x y,δ=[some (.d (.list (ws.map wiD))),some (.d (.list (fs.map .int))),x,y]) (jB (ws.map wiD))
  [some (.d (.list (ws.map wiD))),some (.d (.list (fs.map .int))),none,none] ⟨none,none,rfl⟩ (by
   rintro i d δ hd ⟨x,y,rfl⟩
   unfold jB at hd
   rw [fj,bG] at hd
   cases hw:ws[i]? with
   | none=>rw [hw] at hd;cases hd
   | some w =>
    rw [hw] at hd
    cases hd
    refine ⟨_,_,rfl,.inl ?_,some (.d (.int (i:Int))),some (.d (wiD w)),rfl⟩
    simp only [EV,reduceIte,aq,aB,aj,ak,aC,aD,aF,xZ (h w (eY hw))])
 rw [e]
 simp only [EV,reduceIte,aq,aB,aj,ak,aC,aD,aF]
def Mg (x:Int):Int:=if x > 0 then x else 0
def QV (fs:List Int) (ps:List Pr):Int:=(ps.map fun p=>fs.getD p.1.toNat 0 * p.2).sum
def QW (ws:List Wi) (fs:List Int) (ps:List Pr):Int:=QV fs ps + (ws.map fun w=>Mg (zE ps w)).sum
theorem Bd {fs:List Int} {ps:List Pr} (hf:∀ f ∈ fs,0 ≤ f∧f ≤ 12) (hp:∀ p ∈ ps,0 ≤ p.1∧p.1 < fs.length):jF (gTn 2 (bM (gNl 0) (bM (gNl 1) (fZ)))) (D3.gH) (dOp iY (dOp gIx (ao 2) (ao 0)) (ao 1)) [none,none,some (.d (.list (fs.map .int)))] (ps.map prD)=some ((ps.map fun p=>fs.getD p.1.toNat 0 * p.2).map .int):=by
 have C:=tH (g:=(gTn 2 (bM (gNl 0) (bM (gNl 1) (fZ))))) (c:=(D3.gH)) (e:=(dOp iY (dOp gIx (ao 2) (ao 0)) (ao 1))) (δ:=[none,none,some (.d (.list (fs.map .int)))]) prD (fun p=>.int (fs.getD p.1.toNat 0 * p.2)) ps (fun p h=>by
  refine ⟨[some (.d (.int p.1)),some (.d (.int p.2)),some (.d (.list (fs.map .int)))],rfl,rfl,?_⟩
  have hr:=hp p h
  have hk:p.1.toNat < fs.length:=by omega
  have hv:0 ≤ fs.getD p.1.toNat 0∧fs.getD p.1.toNat 0 ≤ 12:=by
   rw [aN,aV hk]
   exact hf _ (d7 hk)
  simp only [EV,reduceIte,aq,aB,aj,ak,aC,aD,aF,lB PyData.int 0 hr.1 hr.2]
  rw [mulL (by omega) (by omega)])
 rw [C,cT]
 rfl
theorem Bf {ws:List Wi} {fs:List Int} {ps:List Pr} (wl:ws.length ≤ 1000) (pl:ps.length ≤ 1000) (hw:∀ w ∈ ws,jf fs.length w) (hf:∀ f ∈ fs,0 ≤ f∧f ≤ 12) (hp:∀ p ∈ ps,0 ≤ p.1∧p.1 < fs.length) :
 pU [.list (ws.map wiD),.list (fs.map .int),.list (ps.map prD)]=some (.int (QW ws fs ps)):=by
 have C:=tH (g:=(gNl 0)) (c:=(D3.gH)) (e:=(dCall wj (aA (dC (.int 0)) (aA (dCall j7 (aA (ao 0) (aA (ao 1) (aP)))) (aP))))) (δ:=[none,some (.d (.list (ps.map prD)))]) wiD (fun w=>.int (Mg (zE ps w))) ws (fun w h=>by
  refine ⟨[some (.d (wiD w)),some (.d (.list (ps.map prD)))],rfl,rfl,?_⟩
  simp only [EV,reduceIte,aq,aB,aj,ak,aC,aD,aF,Fd pl]
  rfl)
 have ca:∀ a b c d:Option U,jO 2 [1] [a,b,c,d]=[none,none,b]:=fun _ _ _ _=>rfl
 have cb:∀ a b c d:Option U,jO 1 [2] [a,b,c,d]=[none,c]:=fun _ _ _ _=>rfl
 unfold pU
 simp only [EV,reduceIte,aq,aB,aj,ak,aC,aD,aF,fJ hw,lMp,show ps.length ≤ 100000 by omega,show ws.length ≤ 100000 by omega,ca,cb,Bd hf hp,C,zu]
 rw [show (ws.map fun w=>PyData.int (Mg (zE ps w)))=(ws.map fun w=>Mg (zE ps w)).map .int by rw [cT];rfl,zu]
 simp only [EV,reduceIte,aq,aB,aj,ak,aC,aD,aF]
 rfl
end Com
namespace Com
open PySem D3 My
def hbN (n:Int) (s:Int × Int):Bool:=decide (s.1 ≤ n) && decide (n < s.2)
theorem sZ (s:Pr) (n:Int):jL [prD s,.int n]=some (.bool (hbN n s)):=by
 unfold jL prD hbN
 by_cases c:s.1 ≤ n
 ·simp only [EV,reduceIte,aq,aB,aj,ak,aC,aD,aF,at0,at1,dTr c,Bool.true_and]
 ·simp only [EV,reduceIte,aq,aB,aj,ak,aC,aD,aF,at0,at1,dFa c,nW]
theorem Mh (s:Pr):flat (prD s)=true:=rfl
theorem zF {ss:List Pr} (hl:ss.length ≤ 1000) (n:Int):jA [.list (ss.map prD),.int n]=some (.int ((ss.filter (hbN n)).length:Int)):=by
 have C:=Bb (g:=(gNl 0)) (c:=(bf (dCall jL (aA (ao 0) (aA (ao 1) (aP)))))) (e:=(cQ (ao 0))) (δ:=[none,some (.d (.int n))]) prD (hbN n) prD ss (fun s _=>⟨[some (.d (prD s)),some (.d (.int n))],rfl,by simp only [EV,reduceIte,aq,aB,aj,ak,aC,aD,aF,sZ],fun _=>by simp only [EV,reduceIte,aq,aB,aj,ak,aC,aD,aF,Mh]⟩)
 have ca:∀ a b:Option U,jO 1 [1] [a,b]=[none,b]:=fun _ _=>rfl
 unfold jA
 simp only [EV,reduceIte,aq,aB,aj,ak,aC,aD,aF,lMp,show ss.length ≤ 100000 by omega,ca,C]
theorem q_ (w:Wi):fD [wiD w]=some (prD (w.1,w.2.1)):=by
 unfold fD wiD
 simp only [EV,reduceIte,aq,aB,aj,ak,aC,aD,aF,at0,at1,Com.sz (show 2 ≤ 1000000 by decide)]
 rfl
def wat (ws:List Wi) (c:Int):Wi:=ws.getD c.toNat (0,0,0)
def wn (w:Wi):Pr:=(w.1,w.2.1)
def kh (ws:List Wi) (cs:List Int) (n:Int):Nat:=(cs.filter fun c=>hbN n (wn (wat ws c))).length
theorem rY {ws:List Wi} {cs:List Int} (hl:cs.length ≤ 1000) (h:∀ c ∈ cs,0 ≤ c∧c < ws.length) (n:Int):d8 [.list (ws.map wiD),.list (cs.map .int),.int n]=some (.int (kh ws cs n:Int)):=by
 have C:=tH (g:=(gNl 0)) (c:=(D3.gH)) (e:=(dCall fD (aA (dOp gIx (ao 1) (ao 0)) (aP)))) (δ:=[none,some (.d (.list (ws.map wiD)))]) PyData.int (fun c=>prD (wn (wat ws c))) cs (fun c hc=>by
  refine ⟨[some (.d (.int c)),some (.d (.list (ws.map wiD)))],rfl,rfl,?_⟩
  simp only [EV,reduceIte,aq,aB,aj,ak,aC,aD,aF,lB wiD (0,0,0) (h c hc).1 (h c hc).2,q_]
  rfl)
 have ca:∀ a b c:Option U,jO 1 [0] [a,b,c]=[none,a]:=fun _ _ _=>rfl
 have cn:=zF (ss:=cs.map fun c=>wn (wat ws c)) (by rw [aW];exact hl) n
 rw [cT] at cn
 unfold d8
 simp only [EV,reduceIte,aq,aB,aj,ak,aC,aD,aF,lMp,show cs.length ≤ 100000 by omega,ca,C]
 rw [show (cs.map fun c=>prD (wn (wat ws c)))=cs.map (prD ∘ fun c=>wn (wat ws c)) from rfl,cn]
 simp only [EV,reduceIte,aq,aB,aj,ak,aC,aD,aF]
 unfold kh
 rw [List.filter_map,aW]
 rfl
theorem wK (fs:List Int):jB (fs.map .int)=(aX fs.length).map fun k:Nat=>PyData.tuple [.int (k:Int),.int (fs.getD k 0)]:=by
 unfold jB
 apply lH
 intro i
 rw [fj,bG,bG]
 by_cases h:i < fs.length
 ·have e:fs.getD i 0=fs[i]:=by rw [aN,aV h];rfl
  rw [gQ h,aV h,iI,iI,iI,e]
 ·rw [bI (by simpa using h),bI (by simpa using h)]
  rfl
def wL (ws:List Wi) (fs:List Int) (cs:List Int) (w:Wi):Bool:=(aX fs.length).all fun n:Nat=>!hbN (n:Int) (wn w) || decide ((kh ws cs (n:Int):Int) < fs.getD n 0)
theorem IK {ws:List Wi} {fs:List Int} {cs:List Int} {w:Wi}:wL ws fs cs w=true↔∀ n:Nat,n < fs.length→hbN (n:Int) (wn w)=true→(kh ws cs (n:Int):Int) < fs.getD n 0:=by
 unfold wL
 rw [jg]
 constructor
 ·intro h n hn hb
  have:=h n (bQ.mpr hn)
  rw [hb] at this
  simpa using this
 ·intro h n hn
  have hn:=bQ.mp hn
  cases hb:hbN (n:Int) (wn w) with
  | false=>rfl
  | true=>simpa using h n hn hb
theorem Mi {l:List Int} (hl:l ≠ []):∃ m,uG [.list (l.map .int)]=some (.int m)∧((0 < m)↔∀ x ∈ l,0 < x):=by
 cases l with
 | nil=>exact absurd rfl hl
 | cons i r =>
  have sp:=uH r i
  refine ⟨mnI i r,?_,?_,?_⟩
  ·show (match nJ ((i :: r).map .int) with | some (i :: r)=>some (PyData.int (mnI i r)) | _=>none)=_
   rw [rR]
  ·intro h x hx
   have:=sp.2 x hx
   omega
  ·intro h
   exact h _ sp.1
theorem vL {ws:List Wi} {fs:List Int} {cs:List Int} {w:Wi} (fl:fs.length ≤ 1000) (hl:cs.length ≤ 1000) (h:∀ c ∈ cs,0 ≤ c∧c < ws.length) (hw:jf fs.length w) :
 iG [.list (ws.map wiD),.list (fs.map .int),.list (cs.map .int),wiD w]=some (.bool (wL ws fs cs w)):=by
 have C:=Bb (g:=(gTn 2 (bM (gNl 0) (bM (gNl 1) (fZ))))) (c:=(bf (dCall jL (aA (dCall fD (aA (ao 4) (aP))) (aA (ao 0) (aP)))))) (e:=(dOp pI (ao 1) (dCall d8 (aA (ao 2) (aA (ao 3) (aA (ao 0) (aP))))))) (δ:=[none,none,some (.d (.list (ws.map wiD))),some (.d (.list (cs.map .int))),some (.d (wiD w))]) (fun k:Nat=>PyData.tuple [.int (k:Int),.int (fs.getD k 0)]) (fun k=>hbN (k:Int) (wn w)) (fun k=>.int (fs.getD k 0 - (kh ws cs (k:Int):Int))) (aX fs.length) (fun k hk=>by
  refine ⟨[some (.d (.int (k:Int))),some (.d (.int (fs.getD k 0))),some (.d (.list (ws.map wiD))),some (.d (.list (cs.map .int))),some (.d (wiD w))],rfl,?_,fun _=>?_⟩
  ·simp only [EV,reduceIte,aq,aB,aj,ak,aC,aD,aF,q_,sZ]
   rfl
  ·simp only [EV,reduceIte,aq,aB,aj,ak,aC,aD,aF,rY hl h])
 have ca:∀ a b c d e:Option U,jO 2 [0,2,3] [a,b,c,d,e]=[none,none,a,c,d]:=fun _ _ _ _ _=>rfl
 obtain ⟨L,hL⟩:∃ L,L=((aX fs.length).filter fun k:Nat=>hbN (k:Int) (wn w)).map fun k:Nat=>fs.getD k 0 - (kh ws cs (k:Int):Int):=⟨_,rfl⟩
 have eL:((aX fs.length).filter fun k:Nat=>hbN (k:Int) (wn w)).map (fun k:Nat=>PyData.int (fs.getD k 0 - (kh ws cs (k:Int):Int)))=L.map .int:=by rw [hL,cT];rfl
 rw [eL] at C
 have ne:L ≠ []:=by
  obtain ⟨h1,h2,h3,_⟩:=hw
  have:w.1.toNat ∈ (aX fs.length).filter fun k:Nat=>hbN (k:Int) (wn w):=by
   refine eE.mpr ⟨bQ.mpr (by omega),?_⟩
   unfold hbN wn
   rw [show ((w.1.toNat:Nat):Int)=w.1 by omega,dTr (fX _),dTr h2]
   rfl
  intro z
  rw [hL] at z
  rw [List.map_eq_nil_iff] at z
  rw [z] at this
  cases this
 obtain ⟨m,em,hm⟩:=Mi ne
 unfold iG
 simp only [EV,reduceIte,aq,aB,aj,ak,aC,aD,aF,wK,lMp,cN,show fs.length ≤ 100000 by omega,ca,C,em]
 have:decide (0 < m)=wL ws fs cs w:=by
  rw [jZ,decide_eq_true_iff,hm,IK,hL]
  constructor
  ·intro h n hn hb
   have:=h _ (cR.mpr ⟨n,eE.mpr ⟨bQ.mpr hn,hb⟩,rfl⟩)
   omega
  ·intro h x hx
   obtain ⟨n,hn,rfl⟩:=cR.mp hx
   obtain ⟨h1,h2⟩:=eE.mp hn
   have:=h n (bQ.mp h1) h2
   omega
 rw [this]
def chI (ws:List Wi) (fs:List Int):Nat→List Int
 | 0=>[]
 | i + 1=>if wL ws fs (chI ws fs i) (wat ws (i:Int))=true then chI ws fs i++[(i:Int)] else chI ws fs i
theorem Bg (ws:List Wi) (fs:List Int):∀ i,∀ c ∈ chI ws fs i,0 ≤ c∧c < (i:Int)
 | 0,c,h=>by cases h
 | i + 1,c,h=>by
  rw [chI] at h
  split at h
  ·rcases bZ.mp h with z | z
   ·have:=Bg ws fs i c z
    omega
   ·rw [aU.mp z]
    omega
  ·have:=Bg ws fs i c h
   omega
theorem yc (ws:List Wi) (fs:List Int):∀ i,(chI ws fs i).length ≤ i
 | 0=>bA _
 | i + 1=>by
  have:=yc ws fs i
  rw [chI]
  split
  ·rw [bW]
   simpa using this
  ·omega
theorem Mj {ws:List Wi} {i:Nat} {w:Wi} (h:ws[i]? = some w):wat ws (i:Int)=w:=by
 unfold wat
 rw [cC,aN,h]
 rfl
theorem vM {ws:List Wi} {fs:List Int} (wl:ws.length ≤ 1000) (fl:fs.length ≤ 1000) (hw:∀ w ∈ ws,jf fs.length w):pW [.list (ws.map wiD),.list (fs.map .int)]=some (.list ((chI ws fs ws.length).map .int)):=by
 unfold pW
 simp only [EV,reduceIte,aq,aB,aj,ak,aC,aD,aF,fJ hw,eZ]
 obtain ⟨δ',e,x,y,rfl⟩:=o9 (g:=(gTn 2 (bM (gNl 3) (bM (gNl 4) (fZ))))) (b:=(sIf (bf (dCall iG (aA (ao 0) (aA (ao 1) (aA (ao 2) (aA (ao 4) (aP))))))) (pq 2 (ao 3)) (eH)))
  (fun i δ=>∃ x y,δ=[some (.d (.list (ws.map wiD))),some (.d (.list (fs.map .int))),some (.d (.list ((chI ws fs i).map .int))),x,y]) (jB (ws.map wiD))
  [some (.d (.list (ws.map wiD))),some (.d (.list (fs.map .int))),some (.d (.list [])),none,none] ⟨none,none,rfl⟩ (by
   rintro i d δ hd ⟨x,y,rfl⟩
   unfold jB at hd
   rw [fj,bG] at hd
   cases hg:ws[i]? with
   | none=>rw [hg] at hd;cases hd
   | some w =>
    rw [hg] at hd
    cases hd
    have hi:i < ws.length:=by
     rcases mX i ws.length with z | z
     ·exact z
     ·rw [bI z] at hg;cases hg
    have hr:=vL (ws:=ws) (cs:=chI ws fs i) (w:=w) fl (by have:=yc ws fs i;omega) (fun c hc=>by have:=Bg ws fs i c hc;omega) (hw w (eY hg))
    refine ⟨_,_,rfl,.inl ?_,some (.d (.int (i:Int))),some (.d (wiD w)),rfl⟩
    rw [chI,Mj hg]
    cases hb:wL ws fs (chI ws fs i) w with
    | true =>
     rw [hb] at hr
     simp only [EV,reduceIte,aq,aB,aj,ak,aC,aD,aF,hr,lMp,show (chI ws fs i).length < 1000000 by have:=yc ws fs i;omega]
     rw [fL]
     rfl
    | false =>
     rw [hb] at hr
     simp only [EV,reduceIte,aq,aB,aj,ak,aC,aD,aF,hr,Bool.false_eq_true,if_false])
 rw [e]
 have el:(jB (ws.map wiD)).length=ws.length:=by unfold jB;rw [List.length_mapIdx,aW]
 rw [el]
 simp only [EV,reduceIte,aq,aB,aj,ak,aC,aD,aF,nG]
end Com
namespace Be
structure Way where
 u:Nat
 v:Nat
 c:Int
 p:Option Nat
deriving DecidableEq
abbrev Lb:=List (Option Int)
abbrev Cm:=List (Option Way)
def lb (l:Lb) (v:Nat):Option Int:=l.getD v none
def cm (l:Cm) (v:Nat):Option Way:=l.getD v none
theorem IV {l:Lb} {v z:Nat} {x:Option Int} (h:v < l.length):lb (l.set v x) z=if z=v then x else lb l z:=by
 unfold lb
 rw [aN,aN,iU]
 by_cases e:v=z
 ·subst e
  simp [h]
 ·rw [if_neg e,if_neg (fun q=>e q.symm)]
theorem QX {l:Cm} {v z:Nat} {x:Option Way} (h:v < l.length):cm (l.set v x) z=if z=v then x else cm l z:=by
 unfold cm
 rw [aN,aN,iU]
 by_cases e:v=z
 ·subst e
  simp [h]
 ·rw [if_neg e,if_neg (fun q=>e q.symm)]
def Good (ws:List Way) (π:Nat→Int):Prop:=∀ w ∈ ws,π w.v ≤ π w.u + w.c
def better (l:Lb) (w:Way):Bool:=match lb l w.u with
 | none=>false
 | some x=>match lb l w.v with
  | none=>true
  | some y=>decide (x + w.c < y)
abbrev Stt:=Lb × Cm × Bool
def relax (s:Stt) (w:Way):Stt :=
 if better s.1 w=true then (s.1.set w.v (some ((lb s.1 w.u).getD 0 + w.c)),s.2.1.set w.v (some w),true) else s
structure Iv (ws:List Way) (π:Nat→Int) (m:Int) (c0:Lb) (N:Nat) (l:Lb) (c:Cm) (st:Nat→Nat) (T:Nat):Prop where
 ll:l.length=N
 lc:c.length=N
 lo:∀ v y,lb l v=some y→π v + m ≤ y
 dn:∀ v y,lb c0 v=some y→∃ y',lb l v=some y'∧y' ≤ y
 pr:∀ v y,lb l v=some y→(cm c v=none∧lb c0 v=some y)∨∃ w ∈ ws,cm c v=some w∧w.v=v∧∃ x,lb l w.u=some x∧x + w.c ≤ y∧(x + w.c=y→st w.u < st v)
 sr:∀ v,lb c0 v=some (π v + m)→cm c v=none
 sT:∀ v,st v ≤ T
theorem u6 {l:Lb} {w:Way} (h:better l w=true):∃ x,lb l w.u=some x∧∀ y,lb l w.v=some y→x + w.c < y:=by
 unfold better at h
 cases e:lb l w.u with
 | none=>rw [e] at h;cases h
 | some x =>
  rw [e] at h
  refine ⟨x,rfl,fun y ey=>?_⟩
  rw [ey] at h
  exact of_decide_eq_true h
theorem rZ {l:Lb} {w:Way} {x:Int} (h:better l w=false) (e:lb l w.u=some x):∃ y,lb l w.v=some y∧y ≤ x + w.c:=by
 unfold better at h
 rw [e] at h
 cases q:lb l w.v with
 | none=>rw [q] at h;cases h
 | some y =>
  rw [q] at h
  refine ⟨y,rfl,?_⟩
  have:=of_decide_eq_false h
  omega
theorem zG {ws:List Way} {π:Nat→Int} {m:Int} {c0:Lb} {N:Nat} {l:Lb} {c:Cm} {st:Nat→Nat} {T:Nat} {w:Way} {b:Bool} (g:Good ws π) (hw:w ∈ ws) (rv:w.v < N) (I:Iv ws π m c0 N l c st T) :
 ∃ st' T',Iv ws π m c0 N (relax (l,c,b) w).1 (relax (l,c,b) w).2.1 st' T':=by
 unfold relax
 by_cases h:better l w=true
 ·rw [if_pos h]
  obtain ⟨x,ex,hx⟩:=u6 h
  have gw:=g w hw
  have lw:=I.lo _ _ ex
  have uv:w.u ≠ w.v:=fun e=>by
   have:=hx x (by rw [← e];exact ex)
   rw [e] at gw
   omega
  have SL:∀ z,lb (l.set w.v (some ((lb l w.u).getD 0 + w.c))) z=if z=w.v then some (x + w.c) else lb l z:=fun z=>by
   rw [IV (by rw [I.ll];exact rv),ex]
   rfl
  have SC:∀ z,cm (c.set w.v (some w)) z=if z=w.v then some w else cm c z:=fun z=>QX (by rw [I.lc];exact rv)
  refine ⟨fun z=>if z=w.v then T + 1 else st z,T + 1,?_⟩
  show Iv ws π m c0 N (l.set w.v (some ((lb l w.u).getD 0 + w.c))) (c.set w.v (some w)) _ _
  refine ⟨by rw [bK,I.ll],by rw [bK,I.lc],fun v y h=>?_,fun v y h=>?_,fun v y h=>?_,fun v h=>?_,fun v=>?_⟩
  ·rw [SL v] at h
   split at h
   ·next e=>cases h;rw [e];omega
   ·exact I.lo v y h
  ·obtain ⟨y',e',q⟩:=I.dn v y h
   rw [SL v]
   split
   ·next e =>
    have:=hx y' (by rw [← e];exact e')
    exact ⟨_,rfl,by omega⟩
   ·exact ⟨y',e',q⟩
  ·rw [SL v] at h
   by_cases e:v=w.v
   ·rw [if_pos e] at h
    cases h
    right
    refine ⟨w,hw,by rw [SC v,if_pos e],e.symm,x,by rw [SL,if_neg uv];exact ex,fX _,fun _=>?_⟩
    simp only [e,if_true,if_neg uv]
    have:=I.sT w.u
    omega
   ·rw [if_neg e] at h
    rcases I.pr v y h with ⟨q1,q2⟩ | ⟨w',hw',q1,q2,x',q3,q4,q5⟩
    ·left
     exact ⟨by rw [SC v,if_neg e];exact q1,q2⟩
    ·right
     refine ⟨w',hw',by rw [SC v,if_neg e];exact q1,q2,?_⟩
     by_cases e':w'.u=w.v
     ·have:=hx x' (by rw [← e'];exact q3)
      refine ⟨x + w.c,by rw [SL,if_pos e'],by omega,fun z=>by omega⟩
     ·refine ⟨x',by rw [SL,if_neg e'];exact q3,q4,fun z=>?_⟩
      simp only [if_neg e,if_neg e']
      exact q5 z
  ·rw [SC v]
   split
   ·next e =>
    obtain ⟨y',e',q⟩:=I.dn v _ h
    have:=hx y' (by rw [← e];exact e')
    rw [e] at q
    omega
   ·exact I.sr v h
  ·have:=I.sT v
   show (if v=w.v then T + 1 else st v) ≤ T + 1
   split <;> omega
 ·rw [if_neg h]
  exact ⟨st,T,I⟩
theorem CV {ws:List Way} {π:Nat→Int} {m:Int} {c0:Lb} {N:Nat} (g:Good ws π) (rg:∀ w ∈ ws,w.v < N):∀ (vs:List Way),(∀ w ∈ vs,w ∈ ws)→∀ (s:Stt) (st:Nat→Nat) (T:Nat),Iv ws π m c0 N s.1 s.2.1 st T→∃ st' T',Iv ws π m c0 N (vs.foldl relax s).1 (vs.foldl relax s).2.1 st' T'
 | [],_,s,st,T,I=>⟨st,T,I⟩
 | w :: r,h,s,st,T,I=>by
  rw [fK]
  obtain ⟨l,c,b⟩:=s
  obtain ⟨st',T',I'⟩:=zG (b:=b) g (h w (aJ ..)) (rg w (h w (aJ ..))) I
  exact CV g rg r (fun w hw=>h w (aH _ hw)) _ st' T' I'
theorem Bh {s:Stt} {w:Way} (h:s.2.2=true):(relax s w).2.2=true:=by
 unfold relax
 split
 ·rfl
 ·exact h
theorem wM:∀ (vs:List Way) (s:Stt),s.2.2=true→(vs.foldl relax s).2.2=true
 | [],_,h=>h
 | w :: r,s,h=>by rw [fK];exact wM r _ (Bh h)
theorem pX:∀ (vs:List Way) (s:Stt),(vs.foldl relax s).2.2=false→vs.foldl relax s=s∧∀ w ∈ vs,better s.1 w=false
 | [],s,_=>⟨rfl,fun _ h=>by cases h⟩
 | w :: r,s,h=>by
  rw [fK] at h ⊢
  by_cases b:better s.1 w=true
  ·have:(relax s w).2.2=true:=by unfold relax;rw [if_pos b]
   rw [wM r _ this] at h
   cases h
  ·have e:relax s w=s:=by unfold relax;rw [if_neg b]
   rw [e] at h ⊢
   obtain ⟨h1,h2⟩:=pX r s h
   refine ⟨h1,fun z hz=>?_⟩
   rcases aZ.mp hz with rfl | hz
   ·simpa using b
   ·exact h2 z hz
def nn:Lb→Nat
 | []=>0
 | none :: r=>nn r + 1
 | some _ :: r=>nn r
def sm (f:Nat→Int):Nat→Lb→Nat
 | _,[]=>0
 | k,none :: r=>sm f (k + 1) r
 | k,some y :: r=>(y - f k).toNat + sm f (k + 1) r
theorem yd:∀ {l:Lb} {v:Nat} {y:Int},v < l.length→lb l v=none→nn (l.set v (some y)) < nn l
 | [],_,_,h,_=>by simp at h
 | none :: r,0,y,_,_=>by simp [nn]
 | some x :: r,0,y,_,e=>by simp [lb] at e
 | none :: r,v + 1,y,h,e=>by
  have:=yd (l:=r) (v:=v) (y:=y) (by simpa using h) (by simpa [lb] using e)
  simp [nn];omega
 | some x :: r,v + 1,y,h,e=>by
  have:=yd (l:=r) (v:=v) (y:=y) (by simpa using h) (by simpa [lb] using e)
  simp [nn];omega
theorem yg:∀ {l:Lb} {v:Nat} {x y:Int},lb l v=some x→nn (l.set v (some y))=nn l
 | [],_,_,_,e=>by simp [lb] at e
 | none :: r,0,_,y,e=>by simp [lb] at e
 | some x :: r,0,_,y,e=>by simp [nn]
 | none :: r,v + 1,x,y,e=>by
  have:=yg (l:=r) (v:=v) (x:=x) (y:=y) (by simpa [lb] using e)
  simp [nn];omega
 | some x :: r,v + 1,_,y,e=>by
  have:=yg (l:=r) (v:=v) (y:=y) (by simpa [lb] using e)
  simp [nn];omega
theorem yh (f:Nat→Int):∀ {l:Lb} {k v:Nat} {x y:Int},lb l v=some x→y < x→f (k + v) ≤ y→sm f k (l.set v (some y)) < sm f k l
 | [],_,_,_,_,e,_,_=>by simp [lb] at e
 | none :: r,_,0,_,y,e,_,_=>by simp [lb] at e
 | some z :: r,k,0,x,y,e,h,h2=>by
  have:z=x:=by simpa [lb] using e
  subst this
  simp only [pH,sm]
  rw [Nat.add_zero] at h2
  omega
 | none :: r,k,v + 1,x,y,e,h,h2=>by
  have:=yh f (l:=r) (k:=k + 1) (v:=v) (x:=x) (y:=y) (by simpa [lb] using e) h (by rw [show k + 1 + v=k + (v + 1) by omega];exact h2)
  simp only [kZ,sm]
  omega
 | some z :: r,k,v + 1,x,y,e,h,h2=>by
  have:=yh f (l:=r) (k:=k + 1) (v:=v) (x:=x) (y:=y) (by simpa [lb] using e) h (by rw [show k + 1 + v=k + (v + 1) by omega];exact h2)
  simp only [kZ,sm]
  omega
def lex (a b:Nat × Nat):Prop:=a.1 < b.1∨(a.1=b.1∧a.2 < b.2)
def Fe (a b:Nat × Nat):Prop:=a=b∨lex a b
theorem lex_trans {a b c:Nat × Nat} (h:lex a b) (h':Fe b c):lex a c:=by
 rcases h' with rfl | h'
 ·exact h
 ·unfold lex at *;omega
theorem u9 {a b c:Nat × Nat} (h:Fe a b) (h':Fe b c):Fe a c:=by
 rcases h with rfl | h
 ·exact h'
 ·exact .inr (lex_trans h h')
theorem Ml {a:Nat × Nat} (h:lex a a):False:=by unfold lex at h;omega
theorem CW {P:Nat × Nat→Prop} (h:∀ a,(∀ b,lex b a→P b)→P a):∀ a,P a:=by
 have:∀ k,∀ j,P (k,j):=by
  intro k
  induction k using Nat.strongRecOn with
  | ind k ih =>
   intro j
   induction j using Nat.strongRecOn with
   | ind j jh =>
    refine h _ fun b hb=>?_
    obtain ⟨b1,b2⟩:=b
    rcases hb with q | ⟨q1,q2⟩
    ·exact ih b1 q b2
    ·simp only at q1 q2
     subst q1
     exact jh b2 q2
 exact fun a=>this a.1 a.2
def mu (π:Nat→Int) (m:Int) (l:Lb):Nat × Nat:=(nn l,sm (fun v=>π v + m) 0 l)
theorem IW {ws:List Way} {π:Nat→Int} {m:Int} {c0:Lb} {N:Nat} {l:Lb} {c:Cm} {st:Nat→Nat} {T:Nat} {w:Way} {b:Bool} (g:Good ws π) (hw:w ∈ ws) (rv:w.v < N) (I:Iv ws π m c0 N l c st T) :
 (better l w=true∧lex (mu π m (relax (l,c,b) w).1) (mu π m l))∨relax (l,c,b) w=(l,c,b):=by
 unfold relax
 by_cases h:better l w=true
 ·left
  rw [if_pos h]
  refine ⟨h,?_⟩
  obtain ⟨x,ex,hx⟩:=u6 h
  have gw:=g w hw
  have lw:=I.lo _ _ ex
  show lex (mu π m (l.set w.v (some ((lb l w.u).getD 0 + w.c)))) (mu π m l)
  rw [ex]
  cases q:lb l w.v with
  | none=>exact .inl (yd (by rw [I.ll];exact rv) q)
  | some y =>
   right
   refine ⟨yg q,?_⟩
   refine yh _ q (hx y q) ?_
   rw [iz]
   show π w.v + m ≤ x + w.c
   omega
 ·right
  rw [if_neg h]
theorem CZ {ws:List Way} {π:Nat→Int} {m:Int} {c0:Lb} {N:Nat} (g:Good ws π) (rg:∀ w ∈ ws,w.v < N):∀ (vs:List Way),(∀ w ∈ vs,w ∈ ws)→∀ (s:Stt) (st:Nat→Nat) (T:Nat),Iv ws π m c0 N s.1 s.2.1 st T →
 Fe (mu π m (vs.foldl relax s).1) (mu π m s.1)∧(s.2.2=false→(vs.foldl relax s).2.2=true→lex (mu π m (vs.foldl relax s).1) (mu π m s.1))
 | [],_,s,st,T,I=>⟨.inl rfl,fun a b=>by rw [n8,a] at b;cases b⟩
 | w :: r,h,s,st,T,I=>by
  obtain ⟨l,c,b⟩:=s
  have hw:=h w (aJ ..)
  obtain ⟨st',T',I'⟩:=zG (b:=b) g hw (rg w hw) I
  have R:=CZ g rg r (fun w hw=>h w (aH _ hw)) _ st' T' I'
  rw [fK]
  rcases IW (b:=b) g hw (rg w hw) I with ⟨_,q⟩ | q
  ·exact ⟨u9 R.1 (.inr q),fun _ _=>by
    rcases R.1 with e | e
    ·rw [e];exact q
    ·exact lex_trans e (.inr q)⟩
  ·rw [q] at R ⊢
   exact R
structure Fi (ws:List Way) (c0:Lb) (N:Nat) (l:Lb) (c:Cm):Prop where
 tri:∀ w ∈ ws,∀ x,lb l w.u=some x→∃ y,lb l w.v=some y∧y ≤ x + w.c
theorem tight {ws:List Way} {π:Nat→Int} {m:Int} {c0:Lb} {N:Nat} {l:Lb} {c:Cm} {st:Nat→Nat} {T:Nat} (I:Iv ws π m c0 N l c st T) (F:∀ w ∈ ws,better l w=false) {v:Nat} {y:Int} (h:lb l v=some y) :
 (cm c v=none∧lb c0 v=some y)∨∃ w ∈ ws,cm c v=some w∧w.v=v∧∃ x,lb l w.u=some x∧x + w.c=y∧st w.u < st v:=by
 rcases I.pr v y h with q | ⟨w,hw,q1,q2,x,q3,q4,q5⟩
 ·exact .inl q
 ·obtain ⟨y',e,le⟩:=rZ (F w hw) q3
  rw [q2,h] at e
  cases e
  exact .inr ⟨w,hw,q1,q2,x,q3,by omega,q5 (by omega)⟩
inductive PathTo (c:Cm) (b:Nat):Nat→List Way→Prop
 | nil:PathTo c b b []
 | cons {v:Nat} {w:Way} {P:List Way}:v ≠ b→cm c v=some w→w.v=v→PathTo c b w.u P→PathTo c b v (w :: P)
theorem Mp {ws:List Way} {π:Nat→Int} {m:Int} {c0:Lb} {N:Nat} {l:Lb} {c:Cm} {st:Nat→Nat} {T:Nat} {b:Nat} (g:Good ws π) (I:Iv ws π m c0 N l c st T) (F:∀ w ∈ ws,better l w=false) (hb:∀ v y,lb c0 v=some y→v=b) :
 ∀ (a:Nat × Nat) (v:Nat) (y:Int),lb l v=some y→((y - π v - m).toNat,st v)=a→∃ P,PathTo c b v P∧(P.map (·.v)).Nodup∧∀ w ∈ P,w ∈ ws∧∃ x z,lb l w.u=some x∧lb l w.v=some z∧x + w.c=z∧Fe ((z - π w.v - m).toNat,st w.v) a:=by
 refine CW fun a ih v y h e=>?_
 rcases tight I F h with ⟨q1,q2⟩ | ⟨w,hw,q1,q2,x,q3,q4,q5⟩
 ·have:=hb v y q2
  subst this
  exact ⟨[],.nil,.nil,fun w h=>by cases h⟩
 ·have gw:=g w hw
  have l1:=I.lo _ _ q3
  have l2:=I.lo _ _ h
  rw [q2] at gw
  have L:lex ((x - π w.u - m).toNat,st w.u) a:=by
   rw [← e]
   unfold lex
   simp only
   by_cases z:(x - π w.u - m).toNat < (y - π v - m).toNat
   ·exact .inl z
   ·exact .inr ⟨by omega,q5⟩
  by_cases vb:v=b
  ·subst vb
   exact ⟨[],.nil,.nil,fun w h=>by cases h⟩
  obtain ⟨P,p1,p2,p3⟩:=ih _ L w.u x q3 rfl
  refine ⟨w :: P,.cons vb q1 q2 p1,?_,fun w' hw'=>?_⟩
  ·rw [bC,eG]
   refine ⟨fun z=>?_,p2⟩
   obtain ⟨w',hw',ev⟩:=cR.mp z
   obtain ⟨_,x',z',e1,e2,e3,le⟩:=p3 w' hw'
   rw [show w'.v=v by rw [ev,q2]] at e2 le
   rw [h] at e2
   cases e2
   rw [e] at le
   exact Ml (lex_trans L le)
  ·rcases aZ.mp hw' with rfl | hw'
   ·exact ⟨hw,x,y,q3,by rw [q2];exact h,q4,.inl (by rw [q2];exact e)⟩
   ·obtain ⟨h1,x',z',e1,e2,e3,le⟩:=p3 w' hw'
    exact ⟨h1,x',z',e1,e2,e3,u9 le (.inr L)⟩
def S (f:Nat→Int):Nat→Int
 | 0=>0
 | k + 1=>S f k + f k
theorem o_ {f g:Nat→Int}:∀ {k:Nat},(∀ i,i < k→f i=g i)→S f k=S g k
 | 0,_=>rfl
 | k + 1,h=>by rw [S,S,o_ (fun i hi=>h i (by omega)),h k (by omega)]
theorem I_ (f g:Nat→Int):∀ k,S (fun i=>f i + g i) k=S f k + S g k
 | 0=>rfl
 | k + 1=>by rw [S,S,S,I_ f g k];omega
theorem Bj:∀ k,S (fun _=>0) k=0
 | 0=>rfl
 | k + 1=>by rw [S,Bj k];rfl
theorem Nm {f:Nat→Int} {a:Nat}:∀ {k:Nat},a < k→S (fun i=>if i=a then f i else 0) k=f a
 | 0,h=>by omega
 | k + 1,h=>by
  rw [S]
  by_cases e:a=k
  ·subst e
   rw [if_pos rfl,o_ (g:=fun _=>0) (fun i hi=>if_neg (by omega)),Bj]
   omega
  ·rw [if_neg (by omega),Nm (by omega)]
   omega
theorem Ja {f:Nat→Int} {k:Nat}:∀ {l:List Nat},l.Nodup→(∀ i ∈ l,i < k)→(l.map f).sum=S (fun i=>if i ∈ l then f i else 0) k
 | [],_,_=>by
  rw [o_ (g:=fun _=>0) (fun i _=>by simp),Bj]
  rfl
 | a :: r,h,q=>by
  rw [eG] at h
  rw [bC,fY,Ja h.2 (fun i hi=>q i (aH _ hi)),← Nm (f:=f) (q a (aJ ..)),← I_]
  refine o_ fun i _=>?_
  by_cases e:i=a
  ·subst e
   rw [if_pos rfl,if_neg h.1,if_pos (aJ ..)]
   omega
  ·rw [if_neg e]
   by_cases m:i ∈ r
   ·rw [if_pos m,if_pos (aH _ m)];omega
   ·rw [if_neg m,if_neg (by rw [aZ];exact fun z=>z.elim e m)];omega
abbrev Wi:=Int × Int × Int
structure WiOk (N:Nat) (w:Wi):Prop where
 f:0 ≤ w.1
 b:w.1 < w.2.1
 n:w.2.1 ≤ N
 w:0 ≤ w.2.2
def cov (w:Wi) (n:Nat):Int:=if w.1 ≤ (n:Int)∧(n:Int) < w.2.1 then 1 else 0
def held (wi:Nat→Wi) (ch:List Nat) (n:Nat):Int:=(ch.map fun i=>cov (wi i) n).sum
def gA (wi:Nat→Wi) (ch:List Nat) (i:Nat):Way:=if i ∈ ch then ⟨(wi i).2.1.toNat,(wi i).1.toNat,(wi i).2.2,some i⟩ else ⟨(wi i).1.toNat,(wi i).2.1.toNat,-(wi i).2.2,some i⟩
def onw (n:Nat):Way:=⟨n,n + 1,0,none⟩
def bck (n:Nat):Way:=⟨n + 1,n,0,none⟩
def iT (wi:Nat→Wi) (fr:Nat→Int) (N:Nat) (ch:List Nat) (k:Nat):List Way :=
 (aX N).map onw++(((aX N).filter fun n=>decide (held wi ch n < fr n)).reverse.map bck)++(aX k).map (gA wi ch)
theorem gZ {wi:Nat→Wi} {fr:Nat→Int} {N:Nat} {ch:List Nat} {k:Nat} {w:Way}:w ∈ iT wi fr N ch k↔(∃ n,n < N∧w=onw n)∨(∃ n,n < N∧held wi ch n < fr n∧w=bck n)∨∃ i,i < k∧w=gA wi ch i:=by
 unfold iT
 rw [bZ,bZ,cR,cR,cR,or_assoc]
 constructor
 ·rintro (⟨n,h,rfl⟩ | ⟨n,h,rfl⟩ | ⟨i,h,rfl⟩)
  ·exact .inl ⟨n,bQ.mp h,rfl⟩
  ·rw [List.mem_reverse,eE,decide_eq_true_eq] at h
   exact .inr (.inl ⟨n,bQ.mp h.1,h.2,rfl⟩)
  ·exact .inr (.inr ⟨i,bQ.mp h,rfl⟩)
 ·rintro (⟨n,h,rfl⟩ | ⟨n,h,q,rfl⟩ | ⟨i,h,rfl⟩)
  ·exact .inl ⟨n,bQ.mpr h,rfl⟩
  ·exact .inr (.inl ⟨n,by rw [List.mem_reverse,eE,decide_eq_true_eq];exact ⟨bQ.mpr h,q⟩,rfl⟩)
  ·exact .inr (.inr ⟨i,bQ.mpr h,rfl⟩)
theorem t_ {wi:Nat→Wi} {fr:Nat→Int} {N:Nat} {ch:List Nat} {k:Nat} (h:∀ i,i < k→WiOk N (wi i)) {w:Way} (hw:w ∈ iT wi fr N ch k):w.u < N + 1∧w.v < N + 1:=by
 rcases gZ.mp hw with ⟨n,q,rfl⟩ | ⟨n,q,_,rfl⟩ | ⟨i,q,rfl⟩
 ·exact ⟨by show n < N + 1;omega,by show n + 1 < N + 1;omega⟩
 ·exact ⟨by show n + 1 < N + 1;omega,by show n < N + 1;omega⟩
 ·have o:=h i q
  have:=o.f;have:=o.b;have:=o.n
  unfold gA
  split
  ·exact ⟨by show (wi i).2.1.toNat < N + 1;omega,by show (wi i).1.toNat < N + 1;omega⟩
  ·exact ⟨by show (wi i).1.toNat < N + 1;omega,by show (wi i).2.1.toNat < N + 1;omega⟩
theorem u_ (f:Way→Int):∀ ws:List Way,∃ B:Int,∀ w ∈ ws,f w ≤ B
 | []=>⟨0,fun _ h=>by cases h⟩
 | w :: r=>by
  obtain ⟨B,h⟩:=u_ f r
  refine ⟨max B (f w),fun z hz=>?_⟩
  rcases aZ.mp hz with rfl | hz
  ·omega
  ·have:=h z hz;omega
def npi (l:Lb) (π:Nat→Int) (B:Int) (v:Nat):Int:=match lb l v with
 | some y=>y
 | none=>π v + B
theorem g8 {l:Lb} {π:Nat→Int} {B:Int} {v:Nat} {y:Int} (h:lb l v=some y):npi l π B v=y:=by unfold npi;rw [h]
theorem vd {l:Lb} {π:Nat→Int} {B:Int} {v:Nat} (h:lb l v=none):npi l π B v=π v + B:=by unfold npi;rw [h]
theorem zH {ws:List Way} {π:Nat→Int} {l:Lb} (g:Good ws π) (F:∀ w ∈ ws,better l w=false):∃ B0,∀ B,B0 ≤ B→Good ws (npi l π B):=by
 obtain ⟨B0,h⟩:=u_ (fun w=>(lb l w.v).getD 0 - π w.u - w.c) ws
 refine ⟨B0,fun B hB w hw=>?_⟩
 have gw:=g w hw
 cases eu:lb l w.u with
 | some x =>
  obtain ⟨y,ey,le⟩:=rZ (F w hw) eu
  rw [g8 eu,g8 ey]
  exact le
 | none =>
  rw [vd eu]
  cases ev:lb l w.v with
  | some y =>
   rw [g8 ev]
   have:=h w hw
   simp only [ev,Option.getD_some] at this
   omega
  | none =>
   rw [vd ev]
   omega
def sx (n x:Nat):Int:=if n < x then 1 else 0
def chi (n:Nat) (w:Way):Int:=sx n w.v - sx n w.u
theorem Jb {c:Cm} {b n:Nat}:∀ {v:Nat} {P:List Way},PathTo c b v P→(P.map (chi n)).sum=sx n v - sx n b:=by
 intro v P h
 induction h with
 | nil=>simp
 | cons h1 h2 h3 h4 ih =>
  rw [bC,fY,ih]
  unfold chi
  rw [h3]
  omega
theorem yj (n j:Nat):chi n (onw j)=if j=n then 1 else 0:=by
 show (if n < j + 1 then (1:Int) else 0) - (if n < j then 1 else 0)=_
 split <;> split <;> split <;> omega
theorem yq (n j:Nat):chi n (bck j)=if j=n then -1 else 0:=by
 show (if n < j then (1:Int) else 0) - (if n < j + 1 then 1 else 0)=_
 split <;> split <;> split <;> omega
theorem Mq {wi:Nat→Wi} {ch:List Nat} {i n N:Nat} (o:WiOk N (wi i)):chi n (gA wi ch i)=if i ∈ ch then -cov (wi i) n else cov (wi i) n:=by
 have:=o.f;have:=o.b
 unfold gA cov
 split
 ·show (if n < (wi i).1.toNat then (1:Int) else 0) - (if n < (wi i).2.1.toNat then 1 else 0)=_
  split <;> split <;> split <;> omega
 ·show (if n < (wi i).2.1.toNat then (1:Int) else 0) - (if n < (wi i).1.toNat then 1 else 0)=_
  split <;> split <;> split <;> omega
def noP (P:List Way):List Way:=P.filter fun w=>w.p.isNone
def plc (P:List Way):List Nat:=P.filterMap (·.p)
theorem wN (n:Nat) (f:Nat→Int):∀ P:List Way,(∀ w ∈ P,∀ i,w.p=some i→chi n w=f i)→(P.map (chi n)).sum=((plc P).map f).sum + ((noP P).map (chi n)).sum
 | [],_=>rfl
 | w :: r,h=>by
  have ih:=wN n f r (fun z hz=>h z (aH _ hz))
  rw [bC,fY,ih]
  cases e:w.p with
  | none =>
   rw [show plc (w :: r)=plc r by unfold plc;rw [jt e],show noP (w :: r)=w :: noP r by unfold noP;rw [List.filter_cons_of_pos (by rw [e];rfl)],bC,fY]
   omega
  | some i =>
   rw [show plc (w :: r)=i :: plc r by unfold plc;rw [ju e],show noP (w :: r)=noP r by unfold noP;rw [List.filter_cons_of_neg (by rw [e];simp)],bC,fY,h w (aJ ..) i e]
   omega
theorem Bm (n:Nat):∀ Q:List Way,(∀ w ∈ Q,∃ j,w=onw j∨w=bck j)→bck n ∉ Q→0 ≤ (Q.map (chi n)).sum
 | [],_,_=>fX _
 | w :: r,h,q=>by
  have ih:=Bm n r (fun z hz=>h z (aH _ hz)) (fun z=>q (aH _ z))
  rw [bC,fY]
  obtain ⟨j,rfl | rfl⟩:=h w (aJ ..)
  ·rw [yj];split <;> omega
  ·rw [yq,if_neg (fun e=>q (by rw [e];exact aJ ..))];omega
theorem Jc (n:Nat):∀ Q:List Way,(∀ w ∈ Q,∃ j,w=onw j∨w=bck j)→onw n ∉ Q→(Q.map (chi n)).sum ≤ 0
 | [],_,_=>fX _
 | w :: r,h,q=>by
  have ih:=Jc n r (fun z hz=>h z (aH _ hz)) (fun z=>q (aH _ z))
  rw [bC,fY]
  obtain ⟨j,rfl | rfl⟩:=h w (aJ ..)
  ·rw [yj,if_neg (fun e=>q (by rw [e];exact aJ ..))];omega
  ·rw [yq];split <;> omega
theorem Jd (n:Nat):∀ Q:List Way,(∀ w ∈ Q,∃ j,w=onw j∨w=bck j)→(Q.map (·.v)).Nodup→-1 ≤ (Q.map (chi n)).sum
 | [],_,_=>by show (-1:Int) ≤ 0;decide
 | w :: r,h,q=>by
  rw [bC,eG] at q
  have ih:=Jd n r (fun z hz=>h z (aH _ hz)) q.2
  rw [bC,fY]
  obtain ⟨j,rfl | rfl⟩:=h w (aJ ..)
  ·rw [yj];split <;> omega
  ·rw [yq]
   split
   ·next e =>
    subst e
    have:=Bm j r (fun z hz=>h z (aH _ hz)) (fun z=>q.1 (cR.mpr ⟨_,z,rfl⟩))
    omega
   ·omega
theorem yr {P:List Way} {i:Nat}:i ∈ plc P↔∃ w ∈ P,w.p=some i:=by
 unfold plc
 rw [kW]
theorem wO {W:Nat→Way}:∀ {P:List Way},(P.map (·.v)).Nodup→(∀ w ∈ P,∀ i,w.p=some i→w=W i)→(plc P).Nodup
 | [],_,_=>List.nodup_nil
 | w :: r,h,q=>by
  rw [bC,eG] at h
  have ih:=wO (W:=W) h.2 (fun z hz=>q z (aH _ hz))
  cases e:w.p with
  | none=>rw [show plc (w :: r)=plc r by unfold plc;rw [jt e]];exact ih
  | some i =>
   rw [show plc (w :: r)=i :: plc r by unfold plc;rw [ju e],eG]
   refine ⟨fun z=>?_,ih⟩
   obtain ⟨w',hw',e'⟩:=yr.mp z
   have a1:=q w (aJ ..) i e
   have a2:=q w' (aH _ hw') i e'
   exact h.1 (cR.mpr ⟨w',hw',by rw [a2,a1]⟩)
structure ChOk (wi:Nat→Wi) (fr:Nat→Int) (N:Nat) (ch:List Nat) (k:Nat):Prop where
 nd:ch.Nodup
 lt:∀ i ∈ ch,i < k
 fit:∀ n,n < N→held wi ch n ≤ fr n
def nch (ch P:List Nat) (k:Nat):List Nat:=(aX (k + 1)).filter fun i=>(decide (i ∈ ch)) != (decide (i ∈ P++[k]))
theorem Je {wi:Nat→Wi} {ch:List Nat} {k n:Nat} (nd:ch.Nodup) (lt:∀ i ∈ ch,i < k):held wi ch n=S (fun i=>if i ∈ ch then cov (wi i) n else 0) k:=Ja nd lt
section
variable {wi:Nat→Wi} {fr:Nat→Int} {N k:Nat} {ch:List Nat} {π:Nat→Int} {l:Lb} {c:Cm} {st:Nat→Nat} {T:Nat}
theorem Fg (ok:ChOk wi fr N ch k) (g:Good (iT wi fr N ch k) π) (F:∀ w ∈ iT wi fr N ch k,better l w=false) (hb:lb l (wi k).2.1.toNat=some 0) (ha:∀ y,lb l (wi k).1.toNat=some y→(wi k).2.2 ≤ y) :
 ChOk wi fr N ch (k + 1)∧∃ π',Good (iT wi fr N ch (k + 1)) π':=by
 refine ⟨⟨ok.nd,fun i hi=>by have:=ok.lt i hi;omega,ok.fit⟩,?_⟩
 obtain ⟨B0,h⟩:=zH g F
 refine ⟨npi l π (max B0 ((wi k).2.2 - π (wi k).1.toNat)),fun w hw=>?_⟩
 have G:=h (max B0 ((wi k).2.2 - π (wi k).1.toNat)) (by omega)
 rcases gZ.mp hw with ⟨n,q,rfl⟩ | ⟨n,q,q2,rfl⟩ | ⟨i,q,rfl⟩
 ·exact G _ (gZ.mpr (.inl ⟨n,q,rfl⟩))
 ·exact G _ (gZ.mpr (.inr (.inl ⟨n,q,q2,rfl⟩)))
 ·by_cases e:i=k
  ·subst e
   have ni:i ∉ ch:=fun z=>by have:=ok.lt i z;omega
   unfold gA
   rw [if_neg ni]
   show npi l π _ (wi i).2.1.toNat ≤ npi l π _ (wi i).1.toNat + -(wi i).2.2
   rw [g8 hb]
   cases ea:lb l (wi i).1.toNat with
   | some y=>rw [g8 ea];have:=ha y ea;omega
   | none=>rw [vd ea];omega
  ·exact G _ (gZ.mpr (.inr (.inr ⟨i,by omega,rfl⟩)))
theorem Fj (ho:∀ i,i < k + 1→WiOk N (wi i)) (ok:ChOk wi fr N ch k) (g:Good (iT wi fr N ch k) π) (F:∀ w ∈ iT wi fr N ch k,better l w=false) (hb:lb l (wi k).2.1.toNat=some 0) {y:Int} (ha:lb l (wi k).1.toNat=some y) (hy:y < (wi k).2.2)
 {P:List Way} (hP:PathTo c (wi k).2.1.toNat (wi k).1.toNat P) (nd:(P.map (·.v)).Nodup) (hw:∀ w ∈ P,w ∈ iT wi fr N ch k∧∃ x z,lb l w.u=some x∧lb l w.v=some z∧x + w.c=z) :
 ChOk wi fr N (nch ch (plc P) k) (k + 1)∧∃ π',Good (iT wi fr N (nch ch (plc P) k) (k + 1)) π':=by
 have hp:∀ w ∈ P,∀ i,w.p=some i→i < k∧w=gA wi ch i:=fun w hm i e=>by
  rcases gZ.mp (hw w hm).1 with ⟨n,q,rfl⟩ | ⟨n,q,q2,rfl⟩ | ⟨j,q,rfl⟩
  ·cases e
  ·cases e
  ·have:(gA wi ch j).p=some j:=by unfold gA;split <;> rfl
   rw [this] at e
   cases e
   exact ⟨q,rfl⟩
 have pn:(plc P).Nodup:=wO nd (fun w hm i e=>(hp w hm i e).2)
 have pl:∀ i ∈ plc P,i < k:=fun i hi=>by
  obtain ⟨w,hm,e⟩:=yr.mp hi
  exact (hp w hm i e).1
 have kc:k ∉ ch:=fun z=>by have:=ok.lt k z;omega
 have nmem:∀ i,i ∈ nch ch (plc P) k↔i < k + 1∧((i ∈ ch∧¬ (i ∈ plc P∨i=k))∨(i ∉ ch∧(i ∈ plc P∨i=k))):=fun i=>by
  unfold nch
  rw [eE,bQ,bne_iff_ne]
  refine and_congr_right fun _=>?_
  have mm:(i ∈ plc P++[k])↔(i ∈ plc P∨i=k):=by rw [bZ,aU]
  rw [← mm]
  by_cases a:i ∈ ch <;> by_cases b:i ∈ plc P++[k]
  ·rw [dTr a,dTr b]
   exact ⟨fun h=>absurd rfl h,fun h=>by rcases h with q | q;exact absurd b q.2;exact absurd a q.1⟩
  ·rw [dTr a,dFa b]
   exact ⟨fun _=>.inl ⟨a,b⟩,fun _=>by decide⟩
  ·rw [dFa a,dTr b]
   exact ⟨fun _=>.inr ⟨a,b⟩,fun _=>by decide⟩
  ·rw [dFa a,dFa b]
   exact ⟨fun h=>absurd rfl h,fun h=>by rcases h with q | q;exact absurd q.1 a;exact absurd q.2 b⟩
 have nnd:(nch ch (plc P) k).Nodup:=List.Pairwise.filter _ List.nodup_range
 have ok':=ho k (by omega)
 have nq:∀ w ∈ noP P,w ∈ P∧∃ j,w=onw j∨w=bck j:=fun w hm=>by
  unfold noP at hm
  rw [eE] at hm
  refine ⟨hm.1,?_⟩
  rcases gZ.mp (hw w hm.1).1 with ⟨n,q,rfl⟩ | ⟨n,q,q2,rfl⟩ | ⟨j,q,rfl⟩
  ·exact ⟨n,.inl rfl⟩
  ·exact ⟨n,.inr rfl⟩
  ·have:(gA wi ch j).p=some j:=by unfold gA;split <;> rfl
   rw [this] at hm
   cases hm.2
 have ndn:((noP P).map (·.v)).Nodup:=List.Nodup.sublist (List.Sublist.map _ (List.filter_sublist)) nd
 have cross:∀ n,held wi (nch ch (plc P) k) n - held wi ch n = -((noP P).map (chi n)).sum:=fun n=>by
  have s1:=Jb (n:=n) hP
  rw [wN n (fun i=>if i ∈ ch then -cov (wi i) n else cov (wi i) n) P (fun w hm i e=>by rw [(hp w hm i e).2];exact Mq (ho i (by have:=(hp w hm i e).1;omega)))] at s1
  have s2:sx n (wi k).1.toNat - sx n (wi k).2.1.toNat = -cov (wi k) n:=by
   have:=ok'.f;have:=ok'.b
   unfold sx cov
   split <;> split <;> split <;> omega
  rw [s2] at s1
  rw [Ja (k:=k) pn pl] at s1
  rw [Je (k:=k + 1) nnd (fun i hi=>((nmem i).mp hi).1),Je (k:=k + 1) ok.nd (fun i hi=>by have:=ok.lt i hi;omega)]
  have d:∀ A B C:Int,A=B + C→A - B=C:=fun A B C h=>by omega
  have e:S (fun i=>if i ∈ nch ch (plc P) k then cov (wi i) n else 0) (k + 1)=S (fun i=>if i ∈ ch then cov (wi i) n else 0) (k + 1) + S (fun i=>if i ∈ plc P∨i=k then (if i ∈ ch then -cov (wi i) n else cov (wi i) n) else 0) (k + 1):=by
   rw [← I_]
   refine o_ fun i hi=>?_
   by_cases a:i ∈ ch <;> by_cases b:(i ∈ plc P∨i=k)
   ·rw [if_neg (fun z=>by rcases ((nmem i).mp z).2 with q | q;exact q.2 b;exact q.1 a),if_pos a,if_pos b,if_pos a];omega
   ·rw [if_pos ((nmem i).mpr ⟨hi,.inl ⟨a,b⟩⟩),if_pos a,if_neg b];omega
   ·rw [if_pos ((nmem i).mpr ⟨hi,.inr ⟨a,b⟩⟩),if_neg a,if_pos b,if_neg a];omega
   ·rw [if_neg (fun z=>by rcases ((nmem i).mp z).2 with q | q;exact a q.1;exact b q.2),if_neg a,if_neg b];omega
  rw [d _ _ _ e,S,if_pos (.inr rfl),if_neg kc,o_ (g:=fun i=>if i ∈ plc P then (if i ∈ ch then -cov (wi i) n else cov (wi i) n) else 0) (fun i hi=>by
   by_cases b:i ∈ plc P
   ·rw [if_pos b,if_pos (.inl b)]
   ·rw [if_neg b,if_neg (fun z=>z.elim b (by omega))])]
  omega
 have fits:∀ n,n < N→held wi (nch ch (plc P) k) n ≤ fr n:=fun n hn=>by
  have cr:=cross n
  have f0:=ok.fit n hn
  by_cases b:bck n ∈ noP P
  ·have c3:=Jd n (noP P) (fun w hm=>(nq w hm).2) ndn
   have:held wi ch n < fr n:=by
    rcases gZ.mp (hw _ (nq _ b).1).1 with ⟨j,q,e⟩ | ⟨j,q,q2,e⟩ | ⟨j,q,e⟩
    ·have e1:=congrArg Way.u e;have e2:=congrArg Way.v e
     simp only [bck,onw] at e1 e2
     omega
    ·have e2:=congrArg Way.v e
     simp only [bck] at e2
     rw [e2];exact q2
    ·have:(gA wi ch j).p=some j:=by unfold gA;split <;> rfl
     rw [← e] at this
     cases this
   omega
  ·have:=Bm n (noP P) (fun w hm=>(nq w hm).2) b
   omega
 refine ⟨⟨nnd,fun i hi=>((nmem i).mp hi).1,fits⟩,?_⟩
 obtain ⟨B0,h⟩:=zH g F
 have G:=h B0 (fX _)
 refine ⟨npi l π B0,fun w hm=>?_⟩
 rcases gZ.mp hm with ⟨n,q,rfl⟩ | ⟨n,q,q2,rfl⟩ | ⟨i,q,rfl⟩
 ·exact G _ (gZ.mpr (.inl ⟨n,q,rfl⟩))
 ·by_cases z:held wi ch n < fr n
  ·exact G _ (gZ.mpr (.inr (.inl ⟨n,q,z,rfl⟩)))
  ·have cr:=cross n
   have on:onw n ∈ noP P:=by
    refine Classical.byContradiction fun t=>?_
    have:=Jc n (noP P) (fun w hm=>(nq w hm).2) t
    omega
   obtain ⟨_,x,z',e1,e2,e3⟩:=hw _ (nq _ on).1
   have e1:lb l n=some x:=e1
   have e2:lb l (n + 1)=some z':=e2
   have e3:x + 0=z':=e3
   show npi l π B0 n ≤ npi l π B0 (n + 1) + 0
   rw [g8 e1,g8 e2]
   omega
 ·by_cases e:i=k
  ·subst e
   have ni:i ∈ nch ch (plc P) i:=(nmem i).mpr ⟨by omega,.inr ⟨kc,.inr rfl⟩⟩
   unfold gA
   rw [if_pos ni]
   show npi l π B0 (wi i).1.toNat ≤ npi l π B0 (wi i).2.1.toNat + (wi i).2.2
   rw [g8 hb,g8 ha]
   omega
  ·by_cases b:i ∈ plc P
   ·obtain ⟨w,hm',ep⟩:=yr.mp b
    obtain ⟨_,x,z,e1,e2,e3⟩:=hw w hm'
    rw [(hp w hm' i ep).2] at e1 e2 e3
    by_cases a:i ∈ ch
    ·have ni:i ∉ nch ch (plc P) k:=fun t=>by rcases ((nmem i).mp t).2 with q | q;exact q.2 (.inl b);exact q.1 a
     unfold gA at e1 e2 e3 ⊢
     rw [if_pos a] at e1 e2 e3
     rw [if_neg ni]
     show npi l π B0 (wi i).2.1.toNat ≤ npi l π B0 (wi i).1.toNat + -(wi i).2.2
     have e1:lb l (wi i).2.1.toNat=some x:=e1
     have e2:lb l (wi i).1.toNat=some z:=e2
     have e3:x + (wi i).2.2=z:=e3
     rw [g8 e1,g8 e2]
     omega
    ·have ni:i ∈ nch ch (plc P) k:=(nmem i).mpr ⟨q,.inr ⟨a,.inl b⟩⟩
     unfold gA at e1 e2 e3 ⊢
     rw [if_neg a] at e1 e2 e3
     rw [if_pos ni]
     show npi l π B0 (wi i).1.toNat ≤ npi l π B0 (wi i).2.1.toNat + (wi i).2.2
     have e1:lb l (wi i).1.toNat=some x:=e1
     have e2:lb l (wi i).2.1.toNat=some z:=e2
     have e3:x + -(wi i).2.2=z:=e3
     rw [g8 e1,g8 e2]
     omega
   ·have same:gA wi (nch ch (plc P) k) i=gA wi ch i:=by
     unfold gA
     by_cases a:i ∈ ch
     ·rw [if_pos a,if_pos ((nmem i).mpr ⟨q,.inl ⟨a,fun t=>t.elim b e⟩⟩)]
     ·rw [if_neg a,if_neg (fun t=>by rcases ((nmem i).mp t).2 with q | q;exact a q.1;exact q.2.elim b e)]
    rw [same]
    exact G _ (gZ.mpr (.inr (.inr ⟨i,by omega,rfl⟩)))
end
def pass (ws:List Way) (l:Lb) (c:Cm):Stt:=ws.foldl relax (l,c,false)
inductive Runs (ws:List Way):Lb→Cm→Lb→Cm→Prop
 | done {l:Lb} {c:Cm}:(pass ws l c).2.2=false→Runs ws l c l c
 | step {l l':Lb} {c c':Cm}:(pass ws l c).2.2=true→Runs ws (pass ws l c).1 (pass ws l c).2.1 l' c'→Runs ws l c l' c'
theorem C_ {ws:List Way} {π:Nat→Int} {m:Int} {c0:Lb} {N:Nat} (g:Good ws π) (rg:∀ w ∈ ws,w.v < N):∀ (a:Nat × Nat) (l:Lb) (c:Cm) (st:Nat→Nat) (T:Nat),mu π m l=a→Iv ws π m c0 N l c st T →
 ∃ l' c' st' T',Runs ws l c l' c'∧Iv ws π m c0 N l' c' st' T'∧∀ w ∈ ws,better l' w=false:=by
 refine CW fun a ih l c st T e I=>?_
 cases q:(pass ws l c).2.2 with
 | false=>exact ⟨l,c,st,T,.done q,I,(pX ws (l,c,false) q).2⟩
 | true =>
  obtain ⟨st',T',I'⟩:=CV g rg ws (fun _ h=>h) (l,c,false) st T I
  have lt:=(CZ g rg ws (fun _ h=>h) (l,c,false) st T I).2 rfl q
  rw [show mu π m (l,c,false).1=a from e] at lt
  obtain ⟨l',c',st2,T2,h1,h2,h3⟩:=ih _ lt (pass ws l c).1 (pass ws l c).2.1 st' T' rfl I'
  exact ⟨l',c',st2,T2,.step q h1,h2,h3⟩
theorem Bo {M v:Nat} {x:Option Int} (h:v < M):lb (aG M x) v=x:=by
 unfold lb
 rw [aN,cH,if_pos h]
 rfl
theorem Jf {l:Lb} {v:Nat} (h:l.length ≤ v):lb l v=none:=by
 unfold lb
 rw [aN,bI h]
 rfl
theorem Jg {M v:Nat}:cm (aG M none) v=none:=by
 unfold cm
 rw [aN,cH]
 split <;> rfl
theorem zJ {ws:List Way} {π:Nat→Int} {m:Int} {c0:Lb} (h:∀ v y,lb c0 v=some y→π v + m ≤ y):Iv ws π m c0 c0.length c0 (aG c0.length none) (fun _=>0) 0 :=
 ⟨rfl,aL,h,fun v y e=>⟨y,e,fX _⟩,fun v y e=>.inl ⟨Jg,e⟩,fun _ _=>Jg,fun _=>bA _⟩
def src (M b:Nat):Lb:=(aG M none).set b (some 0)
theorem Bp {M b v:Nat} (h:b < M):lb (src M b) v=if v=b then some 0 else none:=by
 unfold src
 rw [IV (by rw [aL];exact h)]
 split
 ·rfl
 ·by_cases q:v < M
  ·exact Bo q
  ·exact Jf (by rw [aL];omega)
section
variable {wi:Nat→Wi} {fr:Nat→Int} {N k:Nat} {ch:List Nat} {π:Nat→Int}
def More (wi:Nat→Wi) (fr:Nat→Int) (N k:Nat) (ch ch':List Nat):Prop :=
 ∃ l c,Runs (iT wi fr N ch k) (src (N + 1) (wi k).2.1.toNat) (aG (N + 1) none) l c∧l.length=N + 1∧c.length=N + 1 ∧
  (((∀ y,lb l (wi k).1.toNat=some y→(wi k).2.2 ≤ y)∧ch'=ch) ∨
   ∃ y P,lb l (wi k).1.toNat=some y∧y < (wi k).2.2∧PathTo c (wi k).2.1.toNat (wi k).1.toNat P∧(∀ w ∈ P,w.u < N + 1∧w.v < N + 1)∧P.length ≤ N + 1∧ch'=nch ch (plc P) k)
theorem Bq:∀ {l:List Nat} {M:Nat},l.Nodup→(∀ x ∈ l,x < M)→l.length ≤ M:=by
 intro l M
 induction M generalizing l with
 | zero =>
  intro _ h
  cases l with
  | nil=>exact bA _
  | cons a r=>exact absurd (h a (aJ ..)) (by omega)
 | succ M ih =>
  intro nd h
  have:(l.erase M).length ≤ M:=ih (nd.erase M) (fun x hx=>by
   have h1:=(List.Nodup.mem_erase_iff nd).mp hx
   have:=h x h1.2
   omega)
  rw [List.length_erase] at this
  split at this <;> omega
theorem Jh (ho:∀ i,i < k + 1→WiOk N (wi i)) (ok:ChOk wi fr N ch k) (g:Good (iT wi fr N ch k) π):∃ ch' π',More wi fr N k ch ch'∧ChOk wi fr N ch' (k + 1)∧Good (iT wi fr N ch' (k + 1)) π':=by
 have o:=ho k (by omega)
 have o1:=o.f;have o2:=o.b;have o3:=o.n
 have rg:∀ w ∈ iT wi fr N ch k,w.u < N + 1∧w.v < N + 1:=fun w hw=>t_ (fun i hi=>ho i (by omega)) hw
 have hb:(wi k).2.1.toNat < N + 1:=by omega
 have len:(src (N + 1) (wi k).2.1.toNat).length=N + 1:=by unfold src;rw [bK,aL]
 have I0:=zJ (ws:=iT wi fr N ch k) (π:=π) (m:=-π (wi k).2.1.toNat) (c0:=src (N + 1) (wi k).2.1.toNat) (fun v y e=>by
  rw [Bp hb] at e
  split at e
  ·next z=>cases e;rw [z];omega
  ·cases e)
 rw [len] at I0
 obtain ⟨l,c,st,T,R,I,F⟩:=C_ g (fun w hw=>(rg w hw).2) _ _ _ _ _ rfl I0
 have lb0:lb l (wi k).2.1.toNat=some 0:=by
  obtain ⟨y,e,le⟩:=I.dn (wi k).2.1.toNat 0 (by rw [Bp hb,if_pos rfl])
  have:=I.lo _ _ e
  rw [e,show y=0 by omega]
 by_cases q:∀ y,lb l (wi k).1.toNat=some y→(wi k).2.2 ≤ y
 ·obtain ⟨h1,π',h2⟩:=Fg ok g F lb0 q
  exact ⟨ch,π',⟨l,c,R,I.ll,I.lc,.inl ⟨q,rfl⟩⟩,h1,h2⟩
 ·obtain ⟨y,ey,hy⟩:∃ y,lb l (wi k).1.toNat=some y∧y < (wi k).2.2:=by
   refine Classical.byContradiction fun z=>q fun y e=>?_
   refine Classical.byContradiction fun t=>z ⟨y,e,by omega⟩
  obtain ⟨P,p1,p2,p3⟩:=Mp g I F (b:=(wi k).2.1.toNat) (fun v y e=>by
   rw [Bp hb] at e
   split at e
   ·next z=>exact z
   ·cases e) _ _ _ ey rfl
  have p3':∀ w ∈ P,w ∈ iT wi fr N ch k∧∃ x z,lb l w.u=some x∧lb l w.v=some z∧x + w.c=z:=fun w hw=>by
   obtain ⟨h1,x,z,e1,e2,e3,_⟩:=p3 w hw
   exact ⟨h1,x,z,e1,e2,e3⟩
  obtain ⟨h1,π',h2⟩:=Fj ho ok g F lb0 ey hy p1 p2 p3'
  refine ⟨nch ch (plc P) k,π',⟨l,c,R,I.ll,I.lc,.inr ⟨y,P,ey,hy,p1,fun w hw=>rg w (p3 w hw).1,?_,rfl⟩⟩,h1,h2⟩
  have:=Bq (M:=N + 1) p2 (fun x hx=>by
   obtain ⟨w,hw,rfl⟩:=cR.mp hx
   exact (rg w (p3 w hw).1).2)
  rwa [aW] at this
theorem Fp (ho:∀ i,i < k→WiOk N (wi i)) (g:Good (iT wi fr N ch k) π):∃ l c,Runs (iT wi fr N ch k) (aG (N + 1) (some 0)) (aG (N + 1) none) l c∧l.length=N + 1∧(∀ v,v < N + 1→∃ y,lb l v=some y)∧Good (iT wi fr N ch k) (fun v=>(lb l v).getD 0):=by
 have rg:∀ w ∈ iT wi fr N ch k,w.u < N + 1∧w.v < N + 1:=fun w hw=>t_ ho hw
 obtain ⟨B,hB⟩:=u_ (fun w=>π w.u) ((aX (N + 1)).map fun v=>(⟨v,v,0,none⟩:Way))
 have hB:∀ v,v < N + 1→π v ≤ B:=fun v hv=>hB ⟨v,v,0,none⟩ (cR.mpr ⟨v,bQ.mpr hv,rfl⟩)
 have I0:=zJ (ws:=iT wi fr N ch k) (π:=π) (m:=-B) (c0:=aG (N + 1) (some 0)) (fun v y e=>by
  by_cases q:v < N + 1
  ·rw [Bo q] at e
   cases e
   have:=hB v q
   omega
  ·rw [Jf (by rw [aL];omega)] at e
   cases e)
 rw [aL] at I0
 obtain ⟨l,c,st,T,R,I,F⟩:=C_ g (fun w hw=>(rg w hw).2) _ _ _ _ _ rfl I0
 have all:∀ v,v < N + 1→∃ y,lb l v=some y:=fun v hv=>by
  obtain ⟨y,e,_⟩:=I.dn v 0 (Bo hv)
  exact ⟨y,e⟩
 refine ⟨l,c,R,I.ll,all,fun w hw=>?_⟩
 obtain ⟨x,ex⟩:=all w.u (rg w hw).1
 obtain ⟨y,ey,le⟩:=rZ (F w hw) ex
 show (lb l w.v).getD 0 ≤ (lb l w.u).getD 0 + w.c
 rw [ex,ey]
 exact le
end
section
variable {wi:Nat→Wi} {fr:Nat→Int} {N k:Nat} {ch ch2:List Nat} {d:Nat→Int}
def worth (wi:Nat→Wi) (ch:List Nat):Int:=(ch.map fun i=>(wi i).2.2).sum
def prc (d:Nat→Int) (n:Nat):Int:=d n - d (n + 1)
def gain (wi:Nat→Wi) (d:Nat→Int) (i:Nat):Int:=(wi i).2.2 - (d (wi i).1.toNat - d (wi i).2.1.toNat)
end
end Be
namespace Com
open PySem D3 My
open Be (Way Lb Cm lb cm gA onw bck iT relax better pass Runs PathTo plc nch src More)
def oD:Option Int→D
 | none=>.none
 | some x=>.int x
def plD:Option Nat→D
 | none=>.none
 | some i=>.int (i:Int)
def wyD (w:Way):D:=.tuple [.int (w.u:Int),.int (w.v:Int),.int w.c,plD w.p]
def cD:Option Way→D
 | none=>.none
 | some w=>wyD w
def cZ (ch:List Nat):List Int:=ch.map fun i:Nat=>(i:Int)
def wif (ws:List Wi) (i:Nat):Wi:=ws.getD i (0,0,0)
def frf (fs:List Int) (n:Nat):Int:=fs.getD n 0
theorem Mr (p:Option Nat):flat (plD p)=true:=by cases p <;> rfl
theorem Dh (w:Way):flat (wyD w)=true:=by
 show (flat (.int (w.u:Int)) && (flat (.int (w.v:Int)) && (flat (.int w.c) && (flat (plD w.p) && true))))=true
 rw [Mr]
 rfl
theorem QZ (x:Option Int):flat (oD x)=true:=by cases x <;> rfl
theorem Ms (x:Option Way):flat (cD x)=true:=by
 cases x with
 | none=>rfl
 | some w=>exact Dh w
theorem lyI (cs:List Int):SeqAt.shaped (.list (cs.map .int))=true:=shaped_ints cs
theorem Mt (cs:List Int) (x:Int):gIn (.int x) (.list (cs.map .int))=some (.bool (decide (x ∈ cs))):=by
 show (if (SeqAt.shaped (.int x) && SeqAt.shaped (.list (cs.map .int)))=true then some (PyData.bool ((cs.map PyData.int).any fun z=>PyData.eqv z (.int x))) else none)=_
 rw [lyI,if_pos (by rfl),List.any_map]
 congr 2
 rw [jZ,List.any_eq_true,decide_eq_true_eq]
 constructor
 ·rintro ⟨z,hz,e⟩
  have e:decide (z=x)=true:=e
  rw [← of_decide_eq_true e]
  exact hz
 ·intro h
  exact ⟨x,h,show decide (x=x)=true from dTr rfl⟩
theorem Q0 {ch:List Nat} {i:Nat}:((i:Int) ∈ cZ ch)↔i ∈ ch:=by
 unfold cZ
 rw [cR]
 constructor
 ·rintro ⟨j,hj,e⟩
  have:j=i:=by omega
  rw [← this];exact hj
 ·intro h
  exact ⟨i,h,rfl⟩
theorem Di (ch:List Nat) (i:Nat):gIn (.int (i:Int)) (.list ((cZ ch).map .int))=some (.bool (decide (i ∈ ch))):=by
 rw [Mt]
 congr 2
 rw [jZ,decide_eq_true_eq,decide_eq_true_eq]
 exact Q0
theorem Ji {ws:List Wi} {ch:List Nat} {i:Nat} (h0:0 ≤ (wif ws i).1) (h1:0 ≤ (wif ws i).2.1):fG [wiD (wif ws i),.int (i:Int),.list ((cZ ch).map .int)]=some (wyD (gA (wif ws) ch i)):=by
 have i0:gIx (wiD (wif ws i)) (.int 0)=some (.int (wif ws i).1):=rfl
 have i1:gIx (wiD (wif ws i)) (.int 1)=some (.int (wif ws i).2.1):=rfl
 have i2:gIx (wiD (wif ws i)) (.int 2)=some (.int (wif ws i).2.2):=rfl
 unfold fG
 by_cases c:i ∈ ch
 ·have e:wyD (gA (wif ws) ch i) = .tuple [.int (wif ws i).2.1,.int (wif ws i).1,.int (wif ws i).2.2,.int (i:Int)]:=by
   unfold gA
   rw [if_pos c]
   unfold wyD plD
   simp only
   rw [dI h0,dI h1]
  rw [e]
  simp only [EV,reduceIte,aq,aB,aj,ak,aC,aD,aF,Di,dTr c,i0,i1,i2,sz (show 4 ≤ 1000000 by decide)]
 ·have e:wyD (gA (wif ws) ch i) = .tuple [.int (wif ws i).1,.int (wif ws i).2.1,.int (-(wif ws i).2.2),.int (i:Int)]:=by
   unfold gA
   rw [if_neg c]
   unfold wyD plD
   simp only
   rw [dI h0,dI h1]
  rw [e]
  simp only [EV,reduceIte,aq,aB,aj,ak,aC,aD,aF,Di,dFa c,i0,i1,i2,sz (show 4 ≤ 1000000 by decide)]
theorem zK {α:Type} (f:α→D) (l:List α) (x:α):jB (l.map f)=(aX l.length).map fun k:Nat=>PyData.tuple [.int (k:Int),f (l.getD k x)]:=by
 unfold jB
 apply lH
 intro i
 rw [fj,bG,bG]
 by_cases h:i < l.length
 ·have e:l.getD i x=l[i]:=by rw [aN,aV h];rfl
  rw [gQ h,aV h,iI,iI,iI,e]
 ·rw [bI (by simpa using h),bI (by simpa using h)]
  rfl
theorem held_eq (ws:List Wi) (n:Nat):∀ ch:List Nat,((kh ws (cZ ch) (n:Int):Nat):Int)=Be.held (wif ws) ch n
 | []=>rfl
 | i :: r=>by
  have ih:=held_eq ws n r
  unfold kh cZ Be.held at *
  rw [bC,mH,bC,fY,← ih]
  have e:wat ws (i:Int)=wif ws i:=by unfold wat wif;rw [cC]
  unfold Be.cov
  by_cases c:(wif ws i).1 ≤ (n:Int)∧(n:Int) < (wif ws i).2.1
  ·rw [if_pos c,if_pos (by rw [e];unfold hbN wn;simp only;rw [dTr c.1,dTr c.2];rfl),cA]
   omega
  ·rw [if_neg c,if_neg (by
    rw [e]
    unfold hbN wn
    simp only [bw,decide_eq_true_eq]
    exact c)]
   omega
theorem sy {l m:List D} (h:l.length + m.length ≤ 1000000):qp (.list l) (.list m)=some (.list (l++m)):=by rw [Nh,if_pos h]
theorem wQ {ws:List Wi} {fs:List Int} {ch:List Nat} (hw:∀ w ∈ ws,jf fs.length w) (hc:∀ i ∈ ch,i < ws.length) (hl:ch.length ≤ 1000) (wl:ws.length ≤ 1000) (fl:fs.length ≤ 1000) :
 iB [.list (ws.map wiD),.list (fs.map .int),.list ((cZ ch).map .int)]=some (.list ((iT (wif ws) (frf fs) fs.length ch ws.length).map wyD)):=by
 have hcI:∀ c ∈ cZ ch,0 ≤ c∧c < ws.length:=fun c h=>by
  unfold cZ at h
  obtain ⟨i,hi,rfl⟩:=cR.mp h
  have:=hc i hi
  omega
 have rr:nP (some [.int (fs.length:Int)])=some (gB 0 (fs.length:Int)):=uW (by omega) (by omega)
 have C1:=tH (g:=(gNl 0)) (c:=(D3.gH)) (e:=(cQ (dTup (aA (ao 0) (aA (dOp dH (ao 0) (dC (.int 1))) (aA (dC (.int 0)) (aA (dC (.none)) (aP)))))))) (δ:=[none]) (fun k:Nat=>PyData.int (k:Int)) (fun k:Nat=>wyD (onw k)) (aX fs.length) (fun k _=>by
  refine ⟨[some (.d (.int (k:Int)))],rfl,rfl,?_⟩
  simp only [EV,reduceIte,aq,aB,aj,ak,aC,aD,aF,sz (show 4 ≤ 1000000 by decide)]
  rfl)
 have C2:=Bb (g:=(gTn 2 (bM (gNl 0) (bM (gNl 1) (fZ))))) (c:=(bf (dOp gLt (dCall d8 (aA (ao 2) (aA (ao 3) (aA (ao 0) (aP))))) (ao 1)))) (e:=(cQ (ao 0))) (δ:=[none,none,some (.d (.list (ws.map wiD))),some (.d (.list ((cZ ch).map .int)))]) (fun k:Nat=>PyData.tuple [.int (k:Int),.int (fs.getD k 0)]) (fun k:Nat=>decide (Be.held (wif ws) ch k < frf fs k)) (fun k:Nat=>PyData.int (k:Int)) (aX fs.length) (fun k _=>by
  refine ⟨[some (.d (.int (k:Int))),some (.d (.int (fs.getD k 0))),some (.d (.list (ws.map wiD))),some (.d (.list ((cZ ch).map .int)))],by simp only [EV,reduceIte,aq,aB,aj,ak,aC,aD,aF],?_,fun _=>by simp only [EV,reduceIte,aq,aB,aj,ak,aC,aD,aF]⟩
  have hs:=rY (ws:=ws) (cs:=cZ ch) (by unfold cZ;rw [aW];exact hl) hcI (k:Int)
  rw [held_eq] at hs
  simp only [EV,reduceIte,aq,aB,aj,ak,aC,aD,aF,hs]
  rfl)
 have C3:=tH (g:=(gNl 0)) (c:=(D3.gH)) (e:=(cQ (dTup (aA (dOp dH (ao 0) (dC (.int 1))) (aA (ao 0) (aA (dC (.int 0)) (aA (dC (.none)) (aP)))))))) (δ:=[none]) (fun k:Nat=>PyData.int (k:Int)) (fun k:Nat=>wyD (bck k)) ((aX fs.length).filter fun k:Nat=>decide (Be.held (wif ws) ch k < frf fs k)).reverse (fun k _=>by
  refine ⟨[some (.d (.int (k:Int)))],rfl,rfl,?_⟩
  simp only [EV,reduceIte,aq,aB,aj,ak,aC,aD,aF,sz (show 4 ≤ 1000000 by decide)]
  rfl)
 have C4:=tH (g:=(gTn 2 (bM (gNl 0) (bM (gNl 1) (fZ))))) (c:=(D3.gH)) (e:=(dCall fG (aA (ao 1) (aA (ao 0) (aA (ao 2) (aP)))))) (δ:=[none,none,some (.d (.list ((cZ ch).map .int)))]) (fun k:Nat=>PyData.tuple [.int (k:Int),wiD (wif ws k)]) (fun k:Nat=>wyD (gA (wif ws) ch k)) (aX ws.length) (fun k hk=>by
  have hk:=bQ.mp hk
  have ok:jf fs.length (wif ws k):=by
   unfold wif
   rw [aN,aV hk]
   exact hw _ (d7 hk)
  refine ⟨[some (.d (.int (k:Int))),some (.d (wiD (wif ws k))),some (.d (.list ((cZ ch).map .int)))],by simp only [EV,reduceIte,aq,aB,aj,ak,aC,aD,aF],rfl,?_⟩
  simp only [EV,reduceIte,aq,aB,aj,ak,aC,aD,aF,Ji (ch:=ch) ok.1 (show 0 ≤ (wif ws k).2.1 by have:=ok.1;have:=ok.2.1;omega)])
 have ca1:∀ x0 x1 x2 x3 x4 x5:Option U,jO 1 [] [x0,x1,x2,x3,x4,x5]=[none]:=fun _ _ _ _ _ _=>rfl
 have ca2:∀ x0 x1 x2 x3 x4 x5:Option U,jO 2 [0,2] [x0,x1,x2,x3,x4,x5]=[none,none,x0,x2]:=fun _ _ _ _ _ _=>rfl
 have ca3:∀ x0 x1 x2 x3 x4 x5:Option U,jO 2 [2] [x0,x1,x2,x3,x4,x5]=[none,none,x2]:=fun _ _ _ _ _ _=>rfl
 have e1:jB (fs.map .int)=(aX fs.length).map fun k:Nat=>PyData.tuple [.int (k:Int),.int (fs.getD k 0)]:=zK PyData.int fs 0
 have e2:jB (ws.map wiD)=(aX ws.length).map fun k:Nat=>PyData.tuple [.int (k:Int),wiD (wif ws k)]:=zK wiD ws (0,0,0)
 have fll:((aX fs.length).filter fun k:Nat=>decide (Be.held (wif ws) ch k < frf fs k)).length ≤ fs.length:=by
  have:=List.length_filter_le (fun k:Nat=>decide (Be.held (wif ws) ch k < frf fs k)) (aX fs.length)
  rwa [cN] at this
 have g1:qp (.list ((aX fs.length).map fun k:Nat=>wyD (onw k))) (.list (((aX fs.length).filter fun k:Nat=>decide (Be.held (wif ws) ch k < frf fs k)).reverse.map fun k:Nat=>wyD (bck k)))=some (.list (((aX fs.length).map fun k:Nat=>wyD (onw k))++(((aX fs.length).filter fun k:Nat=>decide (Be.held (wif ws) ch k < frf fs k)).reverse.map fun k:Nat=>wyD (bck k)))) :=
  sy (by rw [aW,aW,cN,gR];omega)
 have eq:(iT (wif ws) (frf fs) fs.length ch ws.length).map wyD=((aX fs.length).map fun k:Nat=>wyD (onw k))++(((aX fs.length).filter fun k:Nat=>decide (Be.held (wif ws) ch k < frf fs k)).reverse.map fun k:Nat=>wyD (bck k))++(aX ws.length).map fun k:Nat=>wyD (gA (wif ws) ch k):=by
  unfold iT
  rw [fL,fL,cT,cT,cT]
  rfl
 have g2:qp (.list (((aX fs.length).map fun k:Nat=>wyD (onw k))++(((aX fs.length).filter fun k:Nat=>decide (Be.held (wif ws) ch k < frf fs k)).reverse.map fun k:Nat=>wyD (bck k)))) (.list ((aX ws.length).map fun k:Nat=>wyD (gA (wif ws) ch k)))=some (.list ((iT (wif ws) (frf fs) fs.length ch ws.length).map wyD)):=by
  rw [eq]
  exact sy (by rw [bW,aW,aW,aW,cN,cN,gR];omega)
 unfold iB
 simp only [EV,reduceIte,aq,aB,aj,ak,aC,aD,aF,lMp,rr,tY,cC,cN,show fs.length ≤ 100000 by omega,ca1,ca2,ca3,C1,e1,C2,U8,OJ,← List.map_reverse,gR,show ((aX fs.length).filter fun k:Nat=>decide (Be.held (wif ws) ch k < frf fs k)).length ≤ 100000 by omega,C3,e2,show ws.length ≤ 100000 by omega,C4,g1,g2,kO wyD Dh]
theorem Mu {n k:Nat} (h:k < n):pIx n (k:Int)=some k:=by
 unfold pIx
 rw [if_pos (by omega),if_pos (by omega),cC]
theorem Mv {l:Lb} {v:Nat} (h:v < l.length):pAt (l.map oD) (v:Int)=some (oD (lb l v)):=by
 have:=lB oD (l:=l) none (i:=(v:Int)) (by omega) (by omega)
 rw [cC] at this
 exact this
theorem VH {l:Cm} {v:Nat} (h:v < l.length):pAt (l.map cD) (v:Int)=some (cD (cm l v)):=by
 have:=lB cD (l:=l) none (i:=(v:Int)) (by omega) (by omega)
 rw [cC] at this
 exact this
theorem Br {l:Lb} {c:Cm} {b:Bool} {w:Way} (hc:c.length=l.length) (hu:w.u < l.length) (hv:w.v < l.length) (a0 a1:D) (y6 y7:Option U):∃ z6 z7,((bF (bx 6 (dOp gIx (ao 2) (dOp gIx (ao 5) (dC (.int 0))))) (bF (bx 7 (dOp gIx (ao 2) (dOp gIx (ao 5) (dC (.int 1))))) (sIf (D3.n_ (bf (dUn pB (ao 6))) (D3.tOr (bf (dUn xu (ao 7))) (bf (dOp gLt (dOp dH (ao 6) (dOp gIx (ao 5) (dC (.int 2)))) (ao 7))))) (bF (nU 2 (dOp gIx (ao 5) (dC (.int 1))) (dOp dH (ao 6) (dOp gIx (ao 5) (dC (.int 2))))) (bF (nU 3 (dOp gIx (ao 5) (dC (.int 1))) (ao 5)) (bx 4 (dC (.bool true))))) (eH))))) [some (.d a0),some (.d a1),some (.d (.list (l.map oD))),some (.d (.list (c.map cD))),some (.d (.bool b)),some (.d (wyD w)),y6,y7] =
 some (.nx [some (.d a0),some (.d a1),some (.d (.list ((relax (l,c,b) w).1.map oD))),some (.d (.list ((relax (l,c,b) w).2.1.map cD))),some (.d (.bool (relax (l,c,b) w).2.2)),some (.d (wyD w)),z6,z7]):=by
 have i0:gIx (wyD w) (.int 0)=some (.int (w.u:Int)):=rfl
 have i1:gIx (wyD w) (.int 1)=some (.int (w.v:Int)):=rfl
 have i2:gIx (wyD w) (.int 2)=some (.int w.c):=rfl
 have au:=Mv hu
 have av:=Mv hv
 refine ⟨some (.d (oD (lb l w.u))),some (.d (oD (lb l w.v))),?_⟩
 have p1:pIx l.length (w.v:Int)=some w.v:=Mu hv
 have p2:pIx c.length (w.v:Int)=some w.v:=Mu (by rw [hc];exact hv)
 cases eu:lb l w.u with
 | none =>
  rw [eu] at au
  have bt:better l w=false:=by unfold better;rw [eu]
  unfold relax
  rw [if_neg (by rw [bt];decide)]
  have au:pAt (l.map oD) (w.u:Int)=some .none:=au
  simp only [EV,reduceIte,aq,aB,aj,ak,aC,aD,aF,i0,i1,i2,au,av,jr]
  rfl
 | some x =>
  rw [eu] at au
  have au:pAt (l.map oD) (w.u:Int)=some (.int x):=au
  have ms:(l.map oD).set w.v (.int (x + w.c))=(l.set w.v (some (x + w.c))).map oD:=by rw [mZ];rfl
  have mc:(c.map cD).set w.v (wyD w)=(c.set w.v (some w)).map cD:=by rw [mZ];rfl
  have rx:better l w=true→relax (l,c,b) w=(l.set w.v (some (x + w.c)),c.set w.v (some w),true):=fun h=>by
   unfold relax
   rw [if_pos h]
   simp only
   rw [eu]
   rfl
  cases ev:lb l w.v with
  | none =>
   rw [ev] at av
   have av:pAt (l.map oD) (w.v:Int)=some .none:=av
   rw [rx (by unfold better;rw [eu,ev])]
   simp only [EV,reduceIte,aq,aB,aj,ak,aC,aD,aF,i0,i1,i2,au,av,iZ,lMp,p1,p2,aK,ms,mc]
   rfl
  | some y =>
   rw [ev] at av
   have av:pAt (l.map oD) (w.v:Int)=some (.int y):=av
   by_cases q:x + w.c < y
   ·rw [rx (by unfold better;rw [eu,ev];exact dTr q)]
    simp only [EV,reduceIte,aq,aB,aj,ak,aC,aD,aF,i0,i1,i2,au,av,iZ,dTr q,lMp,p1,p2,aK,ms,mc]
    rfl
   ·have bt:better l w=false:=by unfold better;rw [eu,ev];exact dFa q
    unfold relax
    rw [if_neg (by rw [bt];decide)]
    simp only [EV,reduceIte,aq,aB,aj,ak,aC,aD,aF,i0,i1,i2,au,av,iZ,dFa q]
    rfl
theorem Fq (s:Be.Stt) (w:Way):(relax s w).1.length=s.1.length∧(relax s w).2.1.length=s.2.1.length:=by
 unfold relax
 split
 ·exact ⟨by simp,by simp⟩
 ·exact ⟨rfl,rfl⟩
theorem vf:∀ (ws:List Way) (s:Be.Stt),(ws.foldl relax s).1.length=s.1.length∧(ws.foldl relax s).2.1.length=s.2.1.length
 | [],s=>⟨rfl,rfl⟩
 | w :: r,s=>by
  rw [fK]
  have h1:=vf r (relax s w)
  have h2:=Fq s w
  omega
theorem wR {ws:List Way} {l:Lb} {c:Cm} (hc:c.length=l.length) (rg:∀ w ∈ ws,w.u < l.length∧w.v < l.length) (a0 b:D) (y5 y6 y7:Option U):∃ z5 z6 z7,((bF (bx 4 (dC (.bool false))) (nR (lG (ao 1)) (gNl 5) (bF (bx 6 (dOp gIx (ao 2) (dOp gIx (ao 5) (dC (.int 0))))) (bF (bx 7 (dOp gIx (ao 2) (dOp gIx (ao 5) (dC (.int 1))))) (sIf (D3.n_ (bf (dUn pB (ao 6))) (D3.tOr (bf (dUn xu (ao 7))) (bf (dOp gLt (dOp dH (ao 6) (dOp gIx (ao 5) (dC (.int 2)))) (ao 7))))) (bF (nU 2 (dOp gIx (ao 5) (dC (.int 1))) (dOp dH (ao 6) (dOp gIx (ao 5) (dC (.int 2))))) (bF (nU 3 (dOp gIx (ao 5) (dC (.int 1))) (ao 5)) (bx 4 (dC (.bool true))))) (eH))))))) [some (.d a0),some (.d (.list (ws.map wyD))),some (.d (.list (l.map oD))),some (.d (.list (c.map cD))),some (.d b),y5,y6,y7] =
 some (.nx [some (.d a0),some (.d (.list (ws.map wyD))),some (.d (.list ((pass ws l c).1.map oD))),some (.d (.list ((pass ws l c).2.1.map cD))),some (.d (.bool (pass ws l c).2.2)),z5,z6,z7]):=by
 obtain ⟨δ',e,z5,z6,z7,rfl⟩:=o9 (g:=(gNl 5)) (b:=(bF (bx 6 (dOp gIx (ao 2) (dOp gIx (ao 5) (dC (.int 0))))) (bF (bx 7 (dOp gIx (ao 2) (dOp gIx (ao 5) (dC (.int 1))))) (sIf (D3.n_ (bf (dUn pB (ao 6))) (D3.tOr (bf (dUn xu (ao 7))) (bf (dOp gLt (dOp dH (ao 6) (dOp gIx (ao 5) (dC (.int 2)))) (ao 7))))) (bF (nU 2 (dOp gIx (ao 5) (dC (.int 1))) (dOp dH (ao 6) (dOp gIx (ao 5) (dC (.int 2))))) (bF (nU 3 (dOp gIx (ao 5) (dC (.int 1))) (ao 5)) (bx 4 (dC (.bool true))))) (eH))))) (fun i δ=>∃ y5 y6 y7:Option U,δ=[some (.d a0),some (.d (.list (ws.map wyD))),some (.d (.list (((ws.take i).foldl relax (l,c,false)).1.map oD))),some (.d (.list (((ws.take i).foldl relax (l,c,false)).2.1.map cD))),some (.d (.bool ((ws.take i).foldl relax (l,c,false)).2.2)),y5,y6,y7]) (ws.map wyD)
  [some (.d a0),some (.d (.list (ws.map wyD))),some (.d (.list (l.map oD))),some (.d (.list (c.map cD))),some (.d (.bool false)),y5,y6,y7] ⟨y5,y6,y7,rfl⟩
  (by
   rintro i d δ hd ⟨y5,y6,y7,rfl⟩
   rw [bG] at hd
   cases hw:ws[i]? with
   | none=>rw [hw] at hd;cases hd
   | some w =>
    rw [hw] at hd
    cases hd
    have hm:=eY hw
    have L:=vf (ws.take i) (l,c,false)
    have L1:((ws.take i).foldl relax (l,c,false)).1.length=l.length:=L.1
    have L2:((ws.take i).foldl relax (l,c,false)).2.1.length=l.length:=by rw [L.2];exact hc
    obtain ⟨z6,z7,ez⟩:=Br (l:=((ws.take i).foldl relax (l,c,false)).1) (c:=((ws.take i).foldl relax (l,c,false)).2.1) (b:=((ws.take i).foldl relax (l,c,false)).2.2) (w:=w) (by rw [L1,L2]) (by rw [L1];exact (rg w hm).1) (by rw [L1];exact (rg w hm).2) a0 (.list (ws.map wyD)) y6 y7
    refine ⟨_,_,rfl,.inl ez,some (.d (wyD w)),z6,z7,?_⟩
    have tk:ws.take (i + 1)=ws.take i++[w]:=by rw [List.take_add_one,hw];rfl
    rw [tk,List.foldl_append]
    rfl)
 refine ⟨z5,z6,z7,?_⟩
 rw [aW,List.take_length] at e
 unfold pass
 simp only [EV,reduceIte,aq,aB,aj,ak,aC,aD,aF,e]
theorem Jj {ws:List Way} {a0:D} {l l':Lb} {c c':Cm} (R:Runs ws l c l' c'):c.length=l.length→(∀ w ∈ ws,w.u < l.length∧w.v < l.length)→∀ y5 y6 y7:Option U,∃ n z5 z6 z7,fu ((bf (ao 4))) ((bF (bx 4 (dC (.bool false))) (nR (lG (ao 1)) (gNl 5) (bF (bx 6 (dOp gIx (ao 2) (dOp gIx (ao 5) (dC (.int 0))))) (bF (bx 7 (dOp gIx (ao 2) (dOp gIx (ao 5) (dC (.int 1))))) (sIf (D3.n_ (bf (dUn pB (ao 6))) (D3.tOr (bf (dUn xu (ao 7))) (bf (dOp gLt (dOp dH (ao 6) (dOp gIx (ao 5) (dC (.int 2)))) (ao 7))))) (bF (nU 2 (dOp gIx (ao 5) (dC (.int 1))) (dOp dH (ao 6) (dOp gIx (ao 5) (dC (.int 2))))) (bF (nU 3 (dOp gIx (ao 5) (dC (.int 1))) (ao 5)) (bx 4 (dC (.bool true))))) (eH))))))) n [some (.d a0),some (.d (.list (ws.map wyD))),some (.d (.list (l.map oD))),some (.d (.list (c.map cD))),some (.d (.bool true)),y5,y6,y7] =
 some (.nx [some (.d a0),some (.d (.list (ws.map wyD))),some (.d (.list (l'.map oD))),some (.d (.list (c'.map cD))),some (.d (.bool false)),z5,z6,z7]):=by
 induction R with
 | @done l c q =>
  intro hc rg y5 y6 y7
  obtain ⟨z5,z6,z7,ez⟩:=wR hc rg a0 (.bool true) y5 y6 y7
  have F:=(Be.pX ws (l,c,false) q).1
  have F:pass ws l c=(l,c,false):=F
  rw [F] at ez
  have e2:fu ((bf (ao 4))) ((bF (bx 4 (dC (.bool false))) (nR (lG (ao 1)) (gNl 5) (bF (bx 6 (dOp gIx (ao 2) (dOp gIx (ao 5) (dC (.int 0))))) (bF (bx 7 (dOp gIx (ao 2) (dOp gIx (ao 5) (dC (.int 1))))) (sIf (D3.n_ (bf (dUn pB (ao 6))) (D3.tOr (bf (dUn xu (ao 7))) (bf (dOp gLt (dOp dH (ao 6) (dOp gIx (ao 5) (dC (.int 2)))) (ao 7))))) (bF (nU 2 (dOp gIx (ao 5) (dC (.int 1))) (dOp dH (ao 6) (dOp gIx (ao 5) (dC (.int 2))))) (bF (nU 3 (dOp gIx (ao 5) (dC (.int 1))) (ao 5)) (bx 4 (dC (.bool true))))) (eH))))))) 1 [some (.d a0),some (.d (.list (ws.map wyD))),some (.d (.list (l.map oD))),some (.d (.list (c.map cD))),some (.d (.bool false)),z5,z6,z7]=some (.nx [some (.d a0),some (.d (.list (ws.map wyD))),some (.d (.list (l.map oD))),some (.d (.list (c.map cD))),some (.d (.bool false)),z5,z6,z7]):=by
   rw [fu,show ((bf (ao 4))) [some (.d a0),some (.d (.list (ws.map wyD))),some (.d (.list (l.map oD))),some (.d (.list (c.map cD))),some (.d (.bool false)),z5,z6,z7]=some false from rfl,aK,if_neg (by decide)]
  refine ⟨2,z5,z6,z7,?_⟩
  rw [fu,show ((bf (ao 4))) [some (.d a0),some (.d (.list (ws.map wyD))),some (.d (.list (l.map oD))),some (.d (.list (c.map cD))),some (.d (.bool true)),y5,y6,y7]=some true from rfl,aK,if_pos rfl,ez]
  exact e2
 | @step l l' c c' q R ih =>
  intro hc rg y5 y6 y7
  obtain ⟨z5,z6,z7,ez⟩:=wR hc rg a0 (.bool true) y5 y6 y7
  rw [q] at ez
  have L:=vf ws (l,c,false)
  have L1:(pass ws l c).1.length=l.length:=L.1
  have L2:(pass ws l c).2.1.length=l.length:=by unfold pass;rw [L.2];exact hc
  obtain ⟨n,w5,w6,w7,en⟩:=ih (by rw [L1,L2]) (fun w hw=>by rw [L1];exact rg w hw) z5 z6 z7
  refine ⟨n + 1,w5,w6,w7,?_⟩
  rw [fu,show ((bf (ao 4))) [some (.d a0),some (.d (.list (ws.map wyD))),some (.d (.list (l.map oD))),some (.d (.list (c.map cD))),some (.d (.bool true)),y5,y6,y7]=some true from rfl,aK,if_pos rfl,ez]
  exact en
theorem Jk {d:D} {k:Int} (h:k ≤ 1000000) (h' : -(2 ^ 63) ≤ k):rF (.list [d]) (.int k)=some (.list (aG k.toNat d)):=by
 show (if [d].length * k.toNat ≤ 1000000∧-(2 ^ 63) ≤ k∧k < 2 ^ 63 then some (PyData.list (aG k.toNat [d]).flatten) else none)=_
 rw [if_pos ⟨by simp only [cA,dU];omega,h',by omega⟩]
 congr 2
 generalize k.toNat=n
 induction n with
 | zero=>rfl
 | succ n ih=>rw [b_,d9,ih,b_];rfl
theorem pD {ws:List Way} {c0 l:Lb} {c:Cm} (hl:c0.length ≤ 1000) (rg:∀ w ∈ ws,w.u < c0.length∧w.v < c0.length) (R:Runs ws c0 (aG c0.length none) l c) :
 iD [.list (c0.map oD),.list (ws.map wyD)]=some (.tuple [.list (l.map oD),.list (c.map cD)]):=by
 obtain ⟨n,z5,z6,z7,e⟩:=Jj (a0:=.list (c0.map oD)) R aL rg none none none
 have e':=wg e
 have rp:rF (.list [.none]) (.int (c0.length:Int))=some (.list ((aG c0.length (none:Option Way)).map cD)):=by
  rw [Jk (by omega) (by omega),cC,k_]
  rfl
 unfold iD
 simp only [EV,reduceIte,aq,aB,aj,ak,aC,aD,aF,lMp,rp,e',kO oD QZ,kO cD Ms,sz (show 1 ≤ 1000000 by decide),Com.sz (show 2 ≤ 1000000 by decide)]
theorem zL (w:Way) (P:List Way):(plc (w :: P)).map (fun i:Nat=>PyData.int (i:Int))=(match w.p with | none=>[] | some i=>[PyData.int (i:Int)])++(plc P).map fun i:Nat=>PyData.int (i:Int):=by
 unfold plc
 cases e:w.p with
 | none=>rw [jt e];rfl
 | some i=>rw [ju e];rfl
theorem Ft {c:Cm} {b v:Nat} {P:List Way} (h:PathTo c b v P):(∀ w ∈ P,w.u < c.length∧w.v < c.length)→∀ (acc:List D) (a2:D) (y5:Option U),acc.length + P.length ≤ 100000→∃ n z5,fu ((bf (dOp gNe (ao 4) (ao 1)))) ((bF (bx 5 (dOp gIx (ao 0) (ao 4))) (bF (sIf (bf (dUn pB (dOp gIx (ao 5) (dC (.int 3))))) (pq 3 (dOp gIx (ao 5) (dC (.int 3)))) (eH)) (bx 4 (dOp gIx (ao 5) (dC (.int 0))))))) n [some (.d (.list (c.map cD))),some (.d (.int (b:Int))),some (.d a2),some (.d (.list acc)),some (.d (.int (v:Int))),y5] =
 some (.nx [some (.d (.list (c.map cD))),some (.d (.int (b:Int))),some (.d a2),some (.d (.list (acc++(plc P).map fun i:Nat=>PyData.int (i:Int)))),some (.d (.int (b:Int))),z5]):=by
 induction h with
 | nil =>
  intro _ acc a2 y5 _
  refine ⟨1,y5,?_⟩
  rw [fu]
  simp only [EV,reduceIte,aq,aB,aj,ak,aC,aD,aF,dTr (show (b:Int)=(b:Int) from rfl),jr]
  show some _=_
  rw [show (plc []).map (fun i:Nat=>PyData.int (i:Int))=[] from rfl,dR]
 | @cons v w P h1 h2 h3 h4 ih =>
  intro rg acc a2 y5 hl
  have r:=rg w (aJ ..)
  have ca:=VH (l:=c) (v:=v) (by rw [← h3];exact r.2)
  rw [h2] at ca
  have ca:pAt (c.map cD) (v:Int)=some (wyD w):=ca
  have i0:gIx (wyD w) (.int 0)=some (.int (w.u:Int)):=rfl
  have i3:gIx (wyD w) (.int 3)=some (plD w.p):=rfl
  rw [cA] at hl
  cases ep:w.p with
  | none =>
   obtain ⟨n,z5,en⟩:=ih (fun w hw=>rg w (aH _ hw)) acc a2 (some (.d (wyD w))) (by omega)
   refine ⟨n + 1,z5,?_⟩
   rw [zL,ep]
   rw [ep] at i3
   have i3:gIx (wyD w) (.int 3)=some .none:=i3
   rw [fu]
   simp only [EV,reduceIte,aq,aB,aj,ak,aC,aD,aF,dFa (show ¬ (v:Int)=(b:Int) by omega),iZ,aK,ca,i0,i3,jr]
   exact en
  | some i =>
   obtain ⟨n,z5,en⟩:=ih (fun w hw=>rg w (aH _ hw)) (acc++[.int (i:Int)]) a2 (some (.d (wyD w))) (by rw [bW];simp;omega)
   refine ⟨n + 1,z5,?_⟩
   rw [zL,ep]
   rw [ep] at i3
   have i3:gIx (wyD w) (.int 3)=some (.int (i:Int)):=i3
   rw [fu]
   simp only [EV,reduceIte,aq,aB,aj,ak,aC,aD,aF,dFa (show ¬ (v:Int)=(b:Int) by omega),iZ,aK,ca,i0,i3,show acc.length < 1000000 by omega]
   rw [p7] at en
   exact en
theorem Fv {c:Cm} {b v:Nat} {P:List Way} (h:PathTo c b v P) (rg:∀ w ∈ P,w.u < c.length∧w.v < c.length) (hl:P.length ≤ 10000):dJ [.list (c.map cD),.int (b:Int),.int (v:Int)]=some (.list ((cZ (plc P)).map .int)):=by
 obtain ⟨n,z5,e⟩:=Ft h rg [] (.int (v:Int)) none (by simp;omega)
 have e':=wg e
 have m:(plc P).map (fun i:Nat=>PyData.int (i:Int))=(cZ (plc P)).map .int:=by unfold cZ;rw [cT];rfl
 rw [nH,m] at e'
 unfold dJ
 simp only [EV,reduceIte,aq,aB,aj,ak,aC,aD,aF,e',nG,sz (show 0 ≤ 1000000 by decide)]
end Com
namespace Com
open PySem D3 My
open Be (Way Lb Cm lb cm gA onw bck iT relax better pass Runs PathTo plc nch src More ChOk Good)
theorem yt {c f:Str} {d:D} {b:FS}:qS (some (.ex c f d)) b=some (.ex c f d):=rfl
theorem Bt {wi wi':Nat→Wi} {fr:Nat→Int} {N:Nat} {ch:List Nat} {k:Nat} (h:∀ i,i < k→wi i=wi' i) (hc:∀ i ∈ ch,i < k):iT wi fr N ch k=iT wi' fr N ch k:=by
 have hh:∀ n,Be.held wi ch n=Be.held wi' ch n:=fun n=>by
  unfold Be.held
  rw [jm (fun i hi=>by rw [h i (hc i hi)])]
 unfold iT
 rw [show (fun n=>decide (Be.held wi ch n < fr n))=fun n=>decide (Be.held wi' ch n < fr n) from funext fun n=>by rw [hh n],jm (l:=aX k) (g:=gA wi' ch) (fun i hi=>by unfold gA;rw [h i (bQ.mp hi)])]
theorem Jl {ws:List Wi} {n:Int} (hw:∀ w ∈ ws,jf n w) {i:Nat} (hi:i < ws.length):jf n (wif ws i):=by
 unfold wif
 rw [aN,aV hi]
 exact hw _ (d7 hi)
theorem yu {ws:List Wi} {N:Nat} (hw:∀ w ∈ ws,jf (N:Int) w) {i:Nat} (hi:i < ws.length):Be.WiOk N (wif ws i):=by
 obtain ⟨a,b,c,d,_⟩:=Jl hw hi
 exact ⟨a,b,c,d⟩
theorem ne_bool (a b:Bool):gNe (.bool a) (.bool b)=some (.bool (a != b)):=by cases a <;> cases b <;> rfl
theorem Q5 (l:List Nat):(cZ l).map PyData.int=l.map fun i:Nat=>PyData.int (i:Int):=by unfold cZ;rw [cT];rfl
theorem Jm {ws:List Wi} {fs:List Int} {ch ch':List Nat} {k:Nat} (hw:∀ w ∈ ws,jf fs.length w) (hk:k < ws.length) (hc:∀ i ∈ ch,i < k) (hl:ch.length ≤ 1000) (wl:ws.length ≤ 1000) (fl:fs.length ≤ 900) (M:More (wif ws) (frf fs) fs.length k ch ch') :
 dW [.list (ws.map wiD),.list (fs.map .int),.list ((cZ ch).map .int),.int (k:Int)]=some (.list ((cZ ch').map .int)):=by
 obtain ⟨l,c,R,ll,lc,q⟩:=M
 have ok:=Jl hw hk
 have o1:=ok.1;have o2:=ok.2.1;have o3:=ok.2.2.1
 have e1:pAt (ws.map wiD) (k:Int)=some (wiD (wif ws k)):=by
  have:=lB wiD (l:=ws) (0,0,0) (i:=(k:Int)) (by omega) (by omega)
  rw [cC] at this
  exact this
 have i0:gIx (wiD (wif ws k)) (.int 0)=some (.int (wif ws k).1):=rfl
 have i1:gIx (wiD (wif ws k)) (.int 1)=some (.int (wif ws k).2.1):=rfl
 have i2:gIx (wiD (wif ws k)) (.int 2)=some (.int (wif ws k).2.2):=rfl
 have cut:cutD (ws.map wiD) none (some (k:Int))=(ws.take k).map wiD:=by rw [T9 (by omega),cC,List.map_take]
 have tl:(ws.take k).length=k:=by rw [mF];omega
 have W:=wQ (ws:=ws.take k) (fs:=fs) (ch:=ch) (fun w hw'=>hw w (List.mem_of_mem_take hw')) (fun i hi=>by rw [tl];exact hc i hi) hl (by omega) (by omega)
 rw [tl,Bt (wi':=wif ws) (fun i hi=>by unfold wif;rw [aN,aN,lY hi]) hc] at W
 have rp:rF (.list [.none]) (.int ((fs.length:Int) + 1))=some (.list (aG (fs.length + 1) .none)):=by
  rw [Jk (by omega) (by omega),show ((fs.length:Int) + 1).toNat=fs.length + 1 by omega]
 have px:pIx (fs.length + 1) (wif ws k).2.1=some (wif ws k).2.1.toNat:=by
  have:=Mu (n:=fs.length + 1) (k:=(wif ws k).2.1.toNat) (by omega)
  rwa [dI (by omega)] at this
 have sr:(aG (fs.length + 1) PyData.none).set (wif ws k).2.1.toNat (.int 0)=(src (fs.length + 1) (wif ws k).2.1.toNat).map oD:=by
  unfold src
  rw [mZ,k_]
  rfl
 have sl:(src (fs.length + 1) (wif ws k).2.1.toNat).length=fs.length + 1:=by unfold src;rw [bK,aL]
 have rg:∀ w ∈ iT (wif ws) (frf fs) fs.length ch k,w.u < fs.length + 1∧w.v < fs.length + 1:=fun w h=>Be.t_ (fun i hi=>yu hw (by omega)) h
 have Ch:=pD (ws:=iT (wif ws) (frf fs) fs.length ch k) (c0:=src (fs.length + 1) (wif ws k).2.1.toNat) (l:=l) (c:=c) (by rw [sl];omega) (fun w h=>by rw [sl];exact rg w h) (by rw [sl];exact R)
 have la:=Mv (l:=l) (v:=(wif ws k).1.toNat) (by rw [ll];omega)
 rw [dI o1] at la
 obtain ⟨m,hm⟩:∃ m,fs.length + 1=m:=⟨_,rfl⟩
 rw [hm] at rp px sr Ch
 unfold dW
 rcases q with ⟨h,rfl⟩ | ⟨y,P,ey,hy,hP,pr,plen,rfl⟩
 ·cases ea:lb l (wif ws k).1.toNat with
  | none =>
   rw [ea] at la
   have la:pAt (l.map oD) (wif ws k).1=some .none:=la
   simp only [EV,reduceIte,aq,aB,aj,ak,aC,aD,aF,Cy,qz,yt,xT,qy,e1,i0,i1,i2,cut,W,lMp,rp,aL,px,aK,sr,Ch,la,at0,sz (show 1 ≤ 1000000 by decide)]
  | some y =>
   rw [ea] at la
   have la:pAt (l.map oD) (wif ws k).1=some (.int y):=la
   simp only [EV,reduceIte,aq,aB,aj,ak,aC,aD,aF,Cy,qz,yt,xT,qy,e1,i0,i1,i2,cut,W,lMp,rp,aL,px,aK,sr,Ch,la,at0,dTr (h y ea),sz (show 1 ≤ 1000000 by decide)]
 ·rw [ey] at la
  have la:pAt (l.map oD) (wif ws k).1=some (.int y):=la
  have Bk:=Fv hP (fun w h=>by rw [lc];exact pr w h) (by omega)
  rw [dI o1,dI (show 0 ≤ (wif ws k).2.1 by omega)] at Bk
  have pll:(plc P).length ≤ P.length:=by unfold plc;exact List.length_filterMap_le _ _
  have gc:qp (.list ((cZ (plc P)).map .int)) (.list [.int (k:Int)])=some (.list ((cZ (plc P++[k])).map .int)):=by
   rw [sy (by rw [aW];unfold cZ;rw [aW];simp only [cA,dU];omega)]
   unfold cZ
   rw [fL,fL]
   rfl
  have rr:nP (some [.int ((k:Int) + 1)])=some (gB 0 ((k:Int) + 1)):=uW (by omega) (by omega)
  have C:=Bb (g:=(gNl 0)) (c:=(bf (dOp gNe (dOp gIn (ao 0) (ao 1)) (dOp gIn (ao 0) (ao 2))))) (e:=(cQ (ao 0))) (δ:=[none,some (.d (.list ((cZ ch).map .int))),some (.d (.list ((cZ (plc P++[k])).map .int)))]) (fun i:Nat=>PyData.int (i:Int)) (fun i:Nat=>(decide (i ∈ ch)) != (decide (i ∈ plc P++[k]))) (fun i:Nat=>PyData.int (i:Int)) (aX (k + 1)) (fun i _=>by
   refine ⟨[some (.d (.int (i:Int))),some (.d (.list ((cZ ch).map .int))),some (.d (.list ((cZ (plc P++[k])).map .int)))],rfl,?_,fun _=>by simp only [EV,reduceIte,aq,aB,aj,ak,aC,aD,aF]⟩
   have g1:=Di ch i
   have g2:=Di (plc P++[k]) i
   generalize decide (i ∈ ch)=b1 at g1 ⊢
   generalize decide (i ∈ plc P++[k])=b2 at g2 ⊢
   simp only [EV,reduceIte,aq,aB,aj,ak,aC,aD,aF,g1,g2,ne_bool])
  have ca:∀ x0 x1 x2 x3 x4 x5 x6 x7 x8:Option U,jO 1 [2,8] [x0,x1,x2,x3,x4,x5,x6,x7,x8]=[none,x2,x8]:=fun _ _ _ _ _ _ _ _ _=>rfl
  have rm:gB 0 ((k:Int) + 1)=(aX (k + 1)).map fun i:Nat=>PyData.int (i:Int):=by rw [tY,show ((k:Int) + 1).toNat=k + 1 by omega]
  have fin:((aX (k + 1)).filter fun i:Nat=>(decide (i ∈ ch)) != (decide (i ∈ plc P++[k]))).map (fun i:Nat=>PyData.int (i:Int))=(cZ (nch ch (plc P) k)).map .int:=by rw [Q5];rfl
  rw [fin] at C
  simp only [EV,reduceIte,aq,aB,aj,ak,aC,aD,aF,Cy,qz,yt,xT,qy,e1,i0,i1,i2,cut,W,lMp,rp,aL,px,aK,sr,Ch,la,at0,at1,dFa (show ¬ (wif ws k).2.2 ≤ y by omega),Bk,gc,rr,rm,cN,show k + 1 ≤ 100000 by omega,ca,C,sz (show 1 ≤ 1000000 by decide)]
def Dj (d:Nat→Int) (N:Nat):List Pr:=((aX N).filter fun n=>decide (0 < Be.prc d n)).map fun n:Nat=>((n:Int),Be.prc d n)
theorem vN {ws:List Wi} {fs:List Int} {ch:List Nat} {l:Lb} {c:Cm} (hw:∀ w ∈ ws,jf fs.length w) (hc:∀ i ∈ ch,i < ws.length) (hl:ch.length ≤ 1000) (wl:ws.length ≤ 1000) (fl:fs.length ≤ 900)
 (R:Runs (iT (wif ws) (frf fs) fs.length ch ws.length) (aG (fs.length + 1) (some 0)) (aG (fs.length + 1) none) l c) (ll:l.length=fs.length + 1) (al:∀ v,v < fs.length + 1→∃ y,lb l v=some y) :
 iy [.list (ws.map wiD),.list (fs.map .int),.list ((cZ ch).map .int)]=some (.list ((Dj (fun v=>(lb l v).getD 0) fs.length).map prD)):=by
 have W:=wQ (ws:=ws) (fs:=fs) (ch:=ch) hw hc hl wl (by omega)
 have rp:rF (.list [.int 0]) (.int ((fs.length:Int) + 1))=some (.list ((aG (fs.length + 1) (some (0:Int))).map oD)):=by
  rw [Jk (by omega) (by omega),show ((fs.length:Int) + 1).toNat=fs.length + 1 by omega,k_]
  rfl
 have Ch:=pD (ws:=iT (wif ws) (frf fs) fs.length ch ws.length) (c0:=aG (fs.length + 1) (some 0)) (l:=l) (c:=c) (by rw [aL];omega) (fun w h=>by rw [aL];exact Be.t_ (fun i hi=>yu hw hi) h) (by rw [aL];exact R)
 have rr:nP (some [.int (fs.length:Int)])=some (gB 0 (fs.length:Int)):=uW (by omega) (by omega)
 have at':∀ v:Nat,v < fs.length + 1→pAt (l.map oD) (v:Int)=some (.int ((lb l v).getD 0)):=fun v hv=>by
  obtain ⟨y,e⟩:=al v hv
  rw [Mv (by rw [ll];exact hv),e]
  rfl
 have C1:=tH (g:=(gNl 0)) (c:=(D3.gH)) (e:=(cQ (dTup (aA (ao 0) (aA (dOp pI (dOp gIx (ao 1) (ao 0)) (dOp gIx (ao 1) (dOp dH (ao 0) (dC (.int 1))))) (aP)))))) (δ:=[none,some (.d (.list (l.map oD)))]) (fun k:Nat=>PyData.int (k:Int)) (fun k:Nat=>prD ((k:Int),Be.prc (fun v=>(lb l v).getD 0) k)) (aX fs.length) (fun k hk=>by
  have hk:=bQ.mp hk
  have a1:=at' k (by omega)
  have a2:=at' (k + 1) (by omega)
  rw [show ((k + 1:Nat):Int)=(k:Int) + 1 by omega] at a2
  refine ⟨[some (.d (.int (k:Int))),some (.d (.list (l.map oD)))],rfl,rfl,?_⟩
  simp only [EV,reduceIte,aq,aB,aj,ak,aC,aD,aF,a1,a2,Com.sz (show 2 ≤ 1000000 by decide)]
  rfl)
 have C2:=Bb (g:=(gTn 2 (bM (gNl 0) (bM (gNl 1) (fZ))))) (c:=(bf (dOp gGt (ao 1) (dC (.int 0))))) (e:=(cQ (dTup (aA (ao 0) (aA (ao 1) (aP)))))) (δ:=[none,none]) (fun k:Nat=>prD ((k:Int),Be.prc (fun v=>(lb l v).getD 0) k)) (fun k:Nat=>decide (0 < Be.prc (fun v=>(lb l v).getD 0) k)) (fun k:Nat=>prD ((k:Int),Be.prc (fun v=>(lb l v).getD 0) k)) (aX fs.length) (fun k _=>by
  refine ⟨[some (.d (.int (k:Int))),some (.d (.int (Be.prc (fun v=>(lb l v).getD 0) k)))],by unfold prD;simp only [EV,reduceIte,aq,aB,aj,ak,aC,aD,aF],?_,fun _=>?_⟩
  ·simp only [EV,reduceIte,aq,aB,aj,ak,aC,aD,aF]
  ·simp only [EV,reduceIte,aq,aB,aj,ak,aC,aD,aF,Com.sz (show 2 ≤ 1000000 by decide)]
   rfl)
 have ca1:∀ x0 x1 x2 x3 x4:Option U,jO 1 [3] [x0,x1,x2,x3,x4]=[none,x3]:=fun _ _ _ _ _=>rfl
 have ca2:∀ x0 x1 x2 x3 x4:Option U,jO 2 [] [x0,x1,x2,x3,x4]=[none,none]:=fun _ _ _ _ _=>rfl
 have fin:((aX fs.length).filter fun k:Nat=>decide (0 < Be.prc (fun v=>(lb l v).getD 0) k)).map (fun k:Nat=>prD ((k:Int),Be.prc (fun v=>(lb l v).getD 0) k))=(Dj (fun v=>(lb l v).getD 0) fs.length).map prD:=by
  unfold Dj
  rw [cT]
  rfl
 rw [fin] at C2
 obtain ⟨m,hm⟩:∃ m,fs.length + 1=m:=⟨_,rfl⟩
 rw [hm] at rp Ch
 unfold iy
 simp only [EV,reduceIte,aq,aB,aj,ak,aC,aD,aF,lMp,rp,W,Ch,at0,rr,tY,cC,cN,show fs.length ≤ 100000 by omega,ca1,ca2,C1,C2,sz (show 1 ≤ 1000000 by decide)]
theorem Jo (ws:List Wi) (ch:List Nat):uZ ws (cZ ch)=Be.worth (wif ws) ch:=by
 unfold uZ Be.worth cZ
 rw [cT]
 rfl
theorem Fw {ws:List Wi} {fs:List Int} (hw:∀ w ∈ ws,jf fs.length w) (hf:∀ f ∈ fs,0 ≤ f) (wl:ws.length ≤ 900) (fl:fs.length ≤ 900):∃ ch d,ChOk (wif ws) (frf fs) fs.length ch ws.length∧Good (iT (wif ws) (frf fs) fs.length ch ws.length) d ∧
 Ba [.list (ws.map wiD),.list (fs.map .int)]=some (.tuple [.int (Be.worth (wif ws) ch),.list ((cZ ch).map .int),.list ((Dj d fs.length).map prD)]):=by
 have rr:nP (some [.int (ws.length:Int)])=some (gB 0 (ws.length:Int)):=uW (by omega) (by omega)
 have ok0:ChOk (wif ws) (frf fs) fs.length [] 0:=⟨List.nodup_nil,fun _ h=>(by cases h),fun n hn=>by
  show (0:Int) ≤ fs.getD n 0
  rw [aN,aV hn]
  exact hf _ (d7 hn)⟩
 have g0:Good (iT (wif ws) (frf fs) fs.length [] 0) (fun _=>0):=fun w h=>by
  rcases Be.gZ.mp h with ⟨n,_,rfl⟩ | ⟨n,_,_,rfl⟩ | ⟨i,hi,rfl⟩
  ·exact fX _
  ·exact fX _
  ·omega
 obtain ⟨δ',e,ch,π,z3,ok,g,rfl⟩:=o9 (g:=(gNl 3)) (b:=(bx 2 (dCall dW (aA (ao 0) (aA (ao 1) (aA (ao 2) (aA (ao 3) (aP)))))))) (fun k δ=>∃ (ch:List Nat) (π:Nat→Int) (y3:Option U),ChOk (wif ws) (frf fs) fs.length ch k∧Good (iT (wif ws) (frf fs) fs.length ch k) π∧δ=[some (.d (.list (ws.map wiD))),some (.d (.list (fs.map .int))),some (.d (.list ((cZ ch).map .int))),y3]) (gB 0 (ws.length:Int))
  [some (.d (.list (ws.map wiD))),some (.d (.list (fs.map .int))),some (.d (.list [])),none] ⟨[],fun _=>0,none,ok0,g0,rfl⟩
  (by
   rintro k d δ hd ⟨ch,π,y3,ok,g,rfl⟩
   obtain ⟨hk,rfl⟩:=CQ hd
   obtain ⟨ch',π',M,ok',g'⟩:=Be.Jh (fun i hi=>yu hw (by omega)) ok g
   have len:=Be.Bq ok.nd ok.lt
   have O:=Jm hw (by omega) ok.lt (by omega) (by omega) (by omega) M
   refine ⟨_,_,rfl,.inl ?_,ch',π',some (.d (.int (k:Int))),ok',g',rfl⟩
   simp only [EV,reduceIte,aq,aB,aj,ak,aC,aD,aF,O])
 rw [lX,cC] at ok g
 have len:=Be.Bq ok.nd ok.lt
 obtain ⟨l,c,R,ll,al,gd⟩:=Be.Fp (fun i hi=>yu hw hi) g
 have Pr:=vN hw ok.lt (by omega) (by omega) (by omega) R ll al
 have W:=u5 (ws:=ws) (cs:=cZ ch) (by unfold cZ;rw [aW];omega) (fun c h=>by
  unfold cZ at h
  obtain ⟨i,hi,rfl⟩:=cR.mp h
  have:=ok.lt i hi
  omega)
 rw [Jo] at W
 refine ⟨ch,_,ok,gd,?_⟩
 unfold Ba
 simp only [EV,reduceIte,aq,aB,aj,ak,aC,aD,aF,Cy,qz,yt,xT,qy,fJ hw,lMp,rr,e,W,Pr,sz (show 0 ≤ 1000000 by decide),sz (show 3 ≤ 1000000 by decide)]
end Com
namespace K56
open PySem D3
noncomputable abbrev lu:List D→Option D:=Com.lu
noncomputable def jY:List D→Option D:=fnD 1 0 (cP (dCall vI (aA (fQ (RZ (ao 0)) (gNl 0) (gH) (dCall lu (aA (ao 0) (aP))) 1 []) (aP))))
noncomputable def mD:List D→Option D:=fnD 2 0 (cP (qm (dUn (gIs "tuple") (ao 0)) (qm (dOp gEq (dCall jx (aA (ao 0) (aP))) (ao 1)) (dCall jY (aA (ao 0) (aP))))))
noncomputable def sE:List D→Option D:=fnD 1 0 (cP (dCall mD (aA (ao 0) (aA (dC (.int 2)) (aP)))))
noncomputable def iK:List D→Option D:=fnD 1 0 (cP (qm (dUn (gIs "list") (ao 0)) (dCall jY (aA (ao 0) (aP)))))
noncomputable abbrev iu:List D→Option D:=Com.iu
noncomputable abbrev fD:List D→Option D:=Com.fD
noncomputable abbrev jL:List D→Option D:=Com.jL
noncomputable abbrev jA:List D→Option D:=Com.jA
noncomputable abbrev cO:List D→Option D:=Com.cO
noncomputable def cG:List D→Option Or:=fnX 2 2 (KC (lO (ao 0)) (gTn 2 (bM (gNl 2) (bM (gNl 3) (fZ)))) (xIf (D3.jN (bf (dCall cO (aA (ao 3) (aA (ao 1) (aP)))))) (rQ "NoWish" (ao 2)) (xOf (eH))))
noncomputable abbrev pR:List D→Option D:=Com.pR
noncomputable abbrev gq:List D→Option D:=Com.gq
noncomputable abbrev d8:List D→Option D:=Com.d8
noncomputable abbrev oR:List D→Option D:=Com.oR
noncomputable def fO:List D→Option D:=fnD 2 0 (cP (qm (dCall iK (aA (ao 1) (aP))) (qm (dCall iu (aA (ao 1) (aP))) (dCall vI (aA (fQ (lG (ao 1)) (gNl 0) (gH) (jG gLe gLt (dC (.int 0)) (ao 0) (dCall jx (aA (ao 1) (aP)))) 1 [0]) (aP))))))
noncomputable def gM:List D→Option Or:=fnX 3 0 (kI (jl cG [] (aA (ao 0) (aA (ao 1) (aP))))
 (xOf (cP (qm (dCall fO (aA (ao 0) (aA (ao 2) (aP)))) (dCall oR (aA (ao 0) (aA (ao 1) (aA (ao 2) (aP)))))))))
noncomputable def pY:List D→Option D:=fnD 2 0 (cP (qm (dCall sE (aA (ao 1) (aP))) (qm (jG gLe gLt (dC (.int 0)) (dOp gIx (ao 1) (dC (.int 0))) (dCall jx (aA (ao 0) (aP)))) (dOp gGe (dOp gIx (ao 1) (dC (.int 1))) (dC (.int 1))))))
noncomputable def j8:List D→Option D:=fnD 2 0 (bF (sIf (D3.tOr (D3.jN (bf (dUn (gIs "list") (ao 1)))) (D3.jN (bf (dCall vI (aA (fQ (lG (ao 1)) (gNl 0) (gH) (dCall pY (aA (ao 1) (aA (ao 0) (aP)))) 1 [0]) (aP)))))) (cP (dC (.bool false))) (eH))
 (cP (dCall iu (aA (fQ (lG (ao 1)) (gTn 2 (bM (gNl 0) (bM (gNl 1) (fZ)))) (gH) (cQ (ao 0)) 2 []) (aP)))))
noncomputable abbrev j7:List D→Option D:=Com.j7
noncomputable abbrev lA:List D→Option D:=Com.lA
noncomputable def mV:List D→Option Or:=fnX 4 2 (kI (Ec gM (aA (ao 0) (aA (ao 1) (aA (ao 2) (aP)))) (D3.jN (bf (dCall j8 (aA (ao 1) (aA (ao 3) (aP)))))) (xOf (cP (dC (.bool false)))) (xOf (eH)))
 (kI (xOf (nR (lO (ao 0)) (gTn 2 (bM (gNl 4) (bM (gNl 5) (fZ)))) (bF (sIf (D3.n_ (bf (dOp gIn (ao 4) (ao 2))) (bf (dOp gLt (dCall j7 (aA (ao 5) (aA (ao 3) (aP)))) (dC (.int 0))))) (cP (dC (.bool false))) (eH))
 (sIf (D3.n_ (bf (dOp G5 (ao 4) (ao 2))) (bf (dOp gGt (dCall j7 (aA (ao 5) (aA (ao 3) (aP)))) (dC (.int 0))))) (cP (dC (.bool false))) (eH)))))
 (xOf (cP (dCall lA (aA (ao 0) (aA (ao 1) (aA (ao 2) (aA (ao 3) (aP))))))))))
noncomputable def lD:List D→Option Or:=fnX 3 1 (kI (jl cG [] (aA (ao 0) (aA (ao 1) (aP))))
 (kI (xOf (bx 3 (dCall uD (aA (fQ (lG (ao 2)) (gTn 2 (bM (gNl 0) (bM (gNl 1) (fZ)))) (gH) (dOp iY (dOp gIx (ao 2) (ao 0)) (ao 1)) 2 [1]) (aP)))))
 (xOf (cP (dOp dH (ao 3) (dCall uD (aA (fQ (lG (ao 0)) (gNl 0) (gH) (dCall wj (aA (dC (.int 0)) (aA (dCall j7 (aA (ao 0) (aA (ao 1) (aP)))) (aP)))) 1 [2]) (aP))))))))
noncomputable abbrev iG:List D→Option D:=Com.iG
noncomputable def lE:List D→Option Or:=fnX 2 3 (kI (jl cG [] (aA (ao 0) (aA (ao 1) (aP))))
 (kI (xOf (bx 2 (gC (aP))))
 (kI (xOf (nR (lO (ao 0)) (gTn 2 (bM (gNl 3) (bM (gNl 4) (fZ)))) (sIf (bf (dCall iG (aA (ao 0) (aA (ao 1) (aA (ao 2) (aA (ao 4) (aP))))))) (pq 2 (ao 3)) (eH))))
 (xOf (cP (ql (ao 2)))))))
noncomputable abbrev fG:List D→Option D:=Com.fG
noncomputable abbrev iB:List D→Option D:=Com.iB
noncomputable abbrev iD:List D→Option D:=Com.iD
noncomputable abbrev dJ:List D→Option D:=Com.dJ
noncomputable abbrev dW:List D→Option D:=Com.dW
noncomputable abbrev iy:List D→Option D:=Com.iy
noncomputable def vg:List D→Option Or:=fnX 2 2 (kI (jl cG [] (aA (ao 0) (aA (ao 1) (aP))))
 (kI (xOf (bx 2 (gC (aP))))
 (kI (xOf (nR (j9 (aA (dCall jx (aA (ao 0) (aP))) (aP))) (gNl 3) (bx 2 (dCall dW (aA (ao 0) (aA (ao 1) (aA (ao 2) (aA (ao 3) (aP)))))))))
 (xOf (uQ (dTup (aA (dCall gq (aA (ao 0) (aA (ao 2) (aP)))) (aA (ao 2) (aA (dCall iy (aA (ao 0) (aA (ao 1) (aA (ao 2) (aP))))) (aP))))))))))
noncomputable abbrev h_:List D→Option D:=Com.h_
noncomputable abbrev ig:List D→Option D:=Com.ig
noncomputable abbrev dj:List D→Option D:=Com.dj
noncomputable abbrev dF:List D→Option D:=Com.dF
noncomputable abbrev iw:List D→Option D:=Com.iw
noncomputable abbrev gb:List D→Option D:=Com.gb
noncomputable def iQ:List D→Option D:=fnD 3 5 (bF (J7 (ao 0) (gTn 3 (bM (gNl 3) (bM (gNl 4) (bM (gNl 5) (fZ))))))
 (bF (bx 6 (dOp iY (dOp cU (dOp gIx (ao 2) (dC (.int 1))) (dC (.int 3))) (dOp cU (dOp gIx (ao 2) (dC (.int 2))) (dOp mK (dC (.int 10)) (dC (.int 9))))))
 (bF (bx 7 (dOp cU (dOp gIx (ao 2) (dC (.int 0))) (dC (.int 6))))
 (bF (sIf (bf (dOp gEq (ao 7) (dC (.int 0)))) (cP (dTup (aA (dOp pI (dUn jR (dC (.int 1))) (ao 6)) (aA (cQ (ao 4)) (aA (cQ (ao 5)) (aP)))))) (eH))
 (bF (sIf (bf (dOp gEq (ao 7) (dC (.int 1)))) (cP (dTup (aA (cQ (ao 3)) (aA (cQ (ao 3)) (aA (cQ (ao 5)) (aP)))))) (eH))
 (bF (sIf (bf (dOp gEq (ao 7) (dC (.int 2)))) (cP (dTup (aA (cQ (ao 4)) (aA (cQ (ao 3)) (aA (cQ (ao 5)) (aP)))))) (eH))
 (bF (sIf (bf (dOp gEq (ao 7) (dC (.int 3)))) (cP (dTup (aA (cQ (ao 3)) (aA (dOp dH (dOp dH (ao 1) (dC (.int 1))) (ao 6)) (aA (cQ (ao 5)) (aP)))))) (eH))
 (bF (sIf (bf (dOp gEq (ao 7) (dC (.int 4)))) (cP (dTup (aA (cQ (ao 3)) (aA (cQ (ao 4)) (aA (dOp pI (dUn jR (dC (.int 1))) (ao 6)) (aP)))))) (eH))
 (cP (dTup (aA (cQ (ao 3)) (aA (cQ (ao 4)) (aA (dOp dH (dOp dH (dOp mK (dC (.int 10)) (dC (.int 9))) (dC (.int 1))) (ao 6)) (aP))))))))))))))
noncomputable def lF:List D→Option Or:=fnX 3 0 (xIf (bf (dOp gEq (ao 0) (dC (.int 0)))) (jl vg [] (aA (ao 1) (aA (ao 2) (aP)))) (xIf (bf (dOp gEq (ao 0) (dC (.int 1)))) (jl gM [] (aA (ao 1) (aA (ao 2) (aA (gC (aA (dC (.int 0)) (aP))) (aP))))) (xIf (bf (dOp gEq (ao 0) (dC (.int 2)))) (jl mV [] (aA (ao 1) (aA (ao 2) (aA (dC (.none)) (aA (dC (.none)) (aP)))))) (xIf (bf (dOp gEq (ao 0) (dC (.int 3)))) (jl lD [] (aA (ao 1) (aA (ao 2) (aA (gC (aP)) (aP))))) (jl lE [] (aA (ao 1) (aA (ao 2) (aP))))))))
noncomputable def cM:List D→Option D:=fnD 3 3 (bF (bx 3 (dTup (aA (dUn pC (ao 1)) (aA (dUn pC (ao 2)) (aP)))))
 (bF (bx 4 (dUn jR (dC (.int 1))))
 (bF (wI 5 (jl lF [] (aA (ao 0) (aA (dOp gIx (ao 3) (dC (.int 0))) (aA (dOp gIx (ao 3) (dC (.int 1))) (aP))))) ["NoWish"] (fun c d=>if c = "NoWish" then bF (sIf (D3.tOr (bf (dC (.bool false))) (D3.tOr (D3.jN (fun _=>some true)) (D3.jN (bf (fun _=>dF [d]))))) (cP (dUn jR (dC (.int 2)))) (eH)) (bx 4 (dC d)) else (fun _=>none)))
 (bF (sIf (bf (dOp gNe (ao 3) (dTup (aA (ao 1) (aA (ao 2) (aP)))))) (cP (dUn jR (dC (.int 3)))) (eH))
 (cP (cQ (ao 4)))))))
noncomputable def Jp:List D→Option D:=fnD 1 10 (bF (bx 1 (dCall dj (aA (ao 0) (aA (dC (.int 0)) (aA (dC (.int 20)) (aP))))))
 (bF (bx 2 (dCall iw (aA (ao 0) (aA (dOp dH (dC (.int 1)) (dOp cU (dOp gIx (ao 1) (dC (.int 0))) (dC (.int 10)))) (aP)))))
 (bF (bx 3 (dCall gb (aA (ao 0) (aA (dCall jx (aA (ao 2) (aP))) (aA (dOp dH (dC (.int 1)) (dOp cU (dOp gIx (ao 1) (dC (.int 1))) (dC (.int 10)))) (aP))))))
 (bF (bx 4 (ao 2))
 (bF (sIf (bf (dOp gEq (dOp cU (dOp gIx (ao 1) (dC (.int 2))) (dC (.int 9))) (dC (.int 4)))) (bx 4 (gC (aP))) (eH))
 (bF (bx 5 (dUn pC (ao 3)))
 (bF (bx 6 (dSl (gC (aA (dOp cU (dOp gIx (ao 1) (dC (.int 3))) (dCall jx (aA (ao 3) (aP)))) (aA (dOp cU (dOp gIx (ao 1) (dC (.int 4))) (dCall jx (aA (ao 3) (aP)))) (aP)))) uF (sU (dOp dH (dC (.int 1)) (dOp cU (dOp gIx (ao 1) (dC (.int 5))) (dC (.int 2)))))))
 (bF (nR (j9 (aA (dCall jx (aA (ao 6) (aP))) (aP))) (gNl 7) (nU 5 (dOp gIx (ao 6) (ao 7)) (dCall iQ (aA (dOp gIx (ao 3) (dOp gIx (ao 6) (ao 7))) (aA (dCall jx (aA (ao 2) (aP))) (aA (dSl (ao 1) (sU (dOp dH (dC (.int 6)) (dOp iY (dC (.int 4)) (ao 7)))) uF) (aP)))))))
 (bF (sIf (bf (dOp gNe (dCall gq (aA (ao 5) (aA (dCall rP (aA (dCall jx (aA (ao 5) (aP))) (aP))) (aP)))) (dCall uD (aA (fQ (lG (ao 5)) (gNl 0) (gH) (cQ (dOp gIx (ao 0) (dC (.int 2)))) 1 []) (aP))))) (cP (dC (.bool false))) (eH))
 (bF (bx 8 (dOp iY (dCall uG (aA (ao 6) (aP))) (dCall DX (aA (dOp gNe (ao 4) (gC (aP))) (aP)))))
 (bF (bx 9 (dOp cU (dOp gIx (ao 1) (dC (.int 16))) (dC (.int 5))))
 (bF (nR (j9 (aA (dC (.int 5)) (aP))) (gNl 7) (bF (bx 10 (dOp cU (dOp dH (ao 9) (ao 7)) (dC (.int 5))))
 (bF (sIf (D3.tOr (bf (dOp gNe (dCall cM (aA (ao 10) (aA (ao 3) (aA (ao 2) (aP))))) (dUn jR (dC (.int 1))))) (bf (dOp gNe (dCall cM (aA (ao 10) (aA (ao 5) (aA (ao 4) (aP))))) (ao 8)))) (cP (dC (.bool false))) (eH))
 (sIf (D3.tOr (bf (dOp gNe (dCall cM (aA (ao 10) (aA (gC (aP)) (aA (ao 4) (aP))))) (dUn jR (dC (.int 1))))) (bf (dOp gNe (dCall cM (aA (ao 10) (aA (ao 3) (aA (ao 2) (aP))))) (dUn jR (dC (.int 1)))))) (cP (dC (.bool false))) (eH)))))
 (cP (dC (.bool true)))))))))))))))
end K56
namespace K56
open PySem D3 My Com
theorem zl2:2 ≤ sizeLine:=Com.sz (by decide)
theorem zl3:3 ≤ sizeLine:=Com.sz (by decide)
section
variable {f g:FX} {c:FT} {δ δ':DS} {cn:Str} {d r:D} {o:Oc} {i p q j:Nat} {b:FX} {ds dd:List D} {F:List D→Option Or} {fa:FA} {cs:List Str} {fS:Str→D→FS}
theorem tu (h:f δ=some (.o (.nx δ'))):kI f g δ=g δ':=by unfold kI;rw [h];rfl
theorem Jq (h:f δ=some (.ex cn d)):kI f g δ=some (.ex cn d):=by unfold kI;rw [h];rfl
theorem T_ (h:f δ=some (.o (.rt d))):kI f g δ=some (.o (.rt d)):=by unfold kI;rw [h];rfl
theorem Ua (h:c δ=some true):xIf c f g δ=f δ:=by unfold xIf;rw [h];rfl
theorem Ub (h:c δ=some false):xIf c f g δ=g δ:=by unfold xIf;rw [h];rfl
theorem zM (hl:ds.length=p) (e:b (ds.map (fun d=>some (.d d))++aG q none)=some (.ex cn d)):fnX p q b ds=some (.ex cn d):=by unfold fnX;rw [if_pos hl,e]
theorem wU (hl:ds.length=p) (e:b (ds.map (fun d=>some (.d d))++aG q none)=some (.o (.rt d))):fnX p q b ds=some (.o (.rt d)):=by unfold fnX;rw [if_pos hl,e]
theorem Dk (hl:ds.length=p) (e:b (ds.map (fun d=>some (.d d))++aG q none)=some (.o (.nx δ'))):fnX p q b ds=some (.o (.rt .none)):=by unfold fnX;rw [if_pos hl,e]
theorem VJ {x y:Str} (hl:ds.length=p) (e:b (ds.map (fun d=>some (.d d))++aG q none)=some (.o (.ex x y d))):fnX p q b ds=some (.o (.ex x y d)):=by unfold fnX;rw [if_pos hl,e]
theorem Dm (hf:fa δ=some ds) (e:F (ds++dd)=some (.ex cn d)):jl F dd fa δ=some (.ex cn d):=by unfold jl;rw [hf,aK,e]
theorem Dp (hf:fa δ=some ds) (e:F (ds++dd)=some (.o (.rt d))):jl F dd fa δ=some (.o (.nx δ)):=by unfold jl;rw [hf,aK,e]
theorem VL {x y:Str} (hf:fa δ=some ds) (e:F (ds++dd)=some (.o (.ex x y d))):jl F dd fa δ=some (.o (.nx δ)):=by unfold jl;rw [hf,aK,e]
theorem Uc {g:FG} {r:List D} {δ1:DS} (h1:g d δ=some δ1) (h2:b δ1=some (.o (.nx δ'))):mR g b (d :: r) δ=mR g b r δ':=by
 rw [mR,h1,aK,h2]
 rfl
theorem Ud {g:FG} {v:D} {r:List D} {δ1:DS} (h1:g d δ=some δ1) (h2:b δ1=some (.ex cn v)):mR g b (d :: r) δ=some (.ex cn v):=by
 rw [mR,h1,aK,h2]
 rfl
theorem Ue {f:FE} (h:f δ=some d):rQ cn f δ=some (.ex cn d):=by
 unfold rQ
 rw [h]
 rfl
theorem pF {f:FS} (h:f δ=some o):xOf f δ=some (.o o):=by
 unfold xOf
 rw [h]
 rfl
theorem Bu (f g:FS):kI (xOf f) (xOf g)=xOf (bF f g):=by
 funext δ
 unfold kI xOf bF
 cases f δ with
 | none=>rfl
 | some o=>cases o <;> rfl
theorem Ug {ft:FT} (hf:fa δ=some ds) (e:F ds=some (.ex cn d)):Ec F fa ft f g δ=some (.ex cn d):=by unfold Ec;rw [hf,aK,e]
theorem VN {ft:FT} (hf:fa δ=some ds) (e:F ds=some (.o (.rt (.bool false)))):Ec F fa ft f g δ=f δ:=by unfold Ec;rw [hf,aK,e];rfl
theorem Jr {b:FS} (hl:ds.length=p) (e:b (ds.map (fun d=>some (.d d))++aG q none)=some (.rt r)):fnD p q b ds=some r:=by
 unfold fnD
 rw [if_pos hl,e]
theorem jC {f g:FS} (h:f δ=some (.nx δ')):bF f g δ=g δ':=by
 unfold bF
 rw [h]
 rfl
theorem Uh (h:f δ=some (.o (.nx δ'))):wI i f cs fS δ=some (.nx δ'):=by unfold wI;rw [h];rfl
theorem Ui (h:f δ=some (.ex cn d)) (hc:cn ∈ cs) (hf:flat d=true) (hs:fS cn d (δ.set i none)=some (.nx δ')):wI i f cs fS δ=some (.nx (δ'.set i none)):=by
 unfold wI
 rw [h,aK]
 dsimp only
 rw [if_pos ⟨hc,hf⟩,hs]
 rfl
def vO (r:Option Or) (k:Option Nat):Prop:=match k with
 | none=>(∃ d,r=some (.o (.rt d)))∨∃ x y d,r=some (.o (.ex x y d))
 | some j=>r=some (.ex "NoWish" (.int (j:Int)))
def oW (δ:DS):Option Nat→Or
 | none=>.o (.nx δ)
 | some j=>.ex "NoWish" (.int (j:Int))
theorem vh {k:Option Nat} (hf:fa δ=some ds) (h:vO (F (ds++dd)) k):jl F dd fa δ=some (oW δ k):=by
 cases k with
 | none =>
  rcases h with ⟨d,h⟩ | ⟨x,y,d,h⟩
  ·exact Dp hf h
  ·exact VL hf h
 | some j=>exact Dm hf h
theorem outD {A:FE} {R:FS} {a:D} (h:fnD p q (bF (oE A) R) ds=some d) (hA:A (ds.map (fun d=>some (.d d))++aG q none)=some a) (hf:f (ds.map (fun d=>some (.d d))++aG q none)=some (.o (.nx (ds.map (fun d=>some (.d d))++aG q none)))):vO (fnX p q (kI f (xOf R)) ds) none:=by
 unfold fnD at h
 by_cases hl:ds.length=p
 ·rw [if_pos hl] at h
  have e:bF (oE A) R (ds.map (fun d=>some (.d d))++aG q none)=R (ds.map (fun d=>some (.d d))++aG q none):=jC (by unfold oE;rw [hA];rfl)
  rw [e] at h
  cases hR:R (ds.map (fun d=>some (.d d))++aG q none) with
  | none=>rw [hR] at h;cases h
  | some o =>
   rw [hR] at h
   cases o with
   | rt x=>exact .inl ⟨_,wU hl ((tu hf).trans (pF hR))⟩
   | nx x=>exact .inl ⟨_,Dk hl ((tu hf).trans (pF hR))⟩
   | bk _=>cases h
   | ct _=>cases h
   | ex _ _ _=>cases h
 ·rw [if_neg hl] at h;cases h
theorem VP {A:FE} {R:FS} {a:D} (h:fnL p q (bF (oE A) R) ds=some d) (hA:A (ds.map (fun d=>some (.d d))++aG q none)=some a) (hf:f (ds.map (fun d=>some (.d d))++aG q none)=some (.o (.nx (ds.map (fun d=>some (.d d))++aG q none)))):vO (fnX p q (kI f (xOf R)) ds) none:=by
 unfold fnL at h
 by_cases hl:ds.length=p
 ·rw [if_pos hl] at h
  have e:bF (oE A) R (ds.map (fun d=>some (.d d))++aG q none)=R (ds.map (fun d=>some (.d d))++aG q none):=jC (by unfold oE;rw [hA];rfl)
  rw [e] at h
  cases hR:R (ds.map (fun d=>some (.d d))++aG q none) with
  | none=>rw [hR] at h;cases h
  | some o =>
   rw [hR] at h
   cases o with
   | rt x=>exact .inl ⟨_,wU hl ((tu hf).trans (pF hR))⟩
   | nx x=>exact .inl ⟨_,Dk hl ((tu hf).trans (pF hR))⟩
   | bk _=>cases h
   | ct _=>cases h
   | ex x y z=>exact .inr ⟨_,_,_,VJ hl ((tu hf).trans (pF hR))⟩
 ·rw [if_neg hl] at h;cases h
end
def wiB (n:Int) (w:Wi):Bool:=(decide (0 ≤ w.1) && (decide (w.1 < w.2.1) && decide (w.2.1 ≤ n))) && (decide (0 ≤ w.2.2) && decide (w.2.2 ≤ 1000000000))
theorem rA {n:Int} {w:Wi}:wiB n w=true↔jf n w:=by
 unfold wiB jf
 simp
 constructor
 ·rintro ⟨⟨a,b,c⟩,d,e⟩;exact ⟨a,b,c,d,e⟩
 ·rintro ⟨a,b,c,d,e⟩;exact ⟨⟨a,b,c⟩,d,e⟩
theorem Js (w:Wi) (fs:List Int):cO [wiD w,.list (fs.map .int)]=some (.bool (wiB fs.length w)):=by
 unfold wiB
 show Com.cO _=_
 unfold Com.cO wiD
 by_cases h1:0 ≤ w.1
 ·by_cases h2:w.1 < w.2.1
  ·by_cases h3:w.2.1 ≤ (fs.length:Int)
   ·by_cases h4:0 ≤ w.2.2
    ·simp only [EV,reduceIte,aq,aB,aj,ak,aC,aD,aF,at0,at1,at2,lMp,dTr h1,dTr h2,dTr h3,dTr h4]
     rfl
    ·simp only [EV,reduceIte,aq,aB,aj,ak,aC,aD,aF,at0,at1,at2,lMp,dTr h1,dTr h2,dTr h3,dFa h4]
     rfl
   ·simp only [EV,reduceIte,aq,aB,aj,ak,aC,aD,aF,at0,at1,at2,lMp,dTr h1,dTr h2,dFa h3]
    rfl
  ·simp only [EV,reduceIte,aq,aB,aj,ak,aC,aD,aF,at0,at1,at2,lMp,dTr h1,dFa h2]
   rfl
 ·simp only [EV,reduceIte,aq,aB,aj,ak,aC,aD,aF,at0,at1,at2,lMp,dFa h1]
  rfl
def bad (n:Int):List Wi→Nat→Option Nat
 | [],_=>none
 | w :: l,i=>if wiB n w=true then bad n l (i + 1) else some i
theorem rB {n:Int}:∀ (l:List Wi) (i:Nat),bad n l i=none→∀ w ∈ l,jf n w
 | [],_,_,_,h=>by cases h
 | u :: l,i,h,w,hw=>by
  rw [bad] at h
  by_cases hu:wiB n u=true
  ·rw [if_pos hu] at h
   rcases aZ.mp hw with rfl | hw
   ·exact rA.mp hu
   ·exact rB l _ h w hw
  ·rw [if_neg hu] at h;cases h
theorem Jt {n:Int}:∀ (l:List Wi) (i:Nat),(∀ w ∈ l,jf n w)→bad n l i=none
 | [],_,_=>rfl
 | u :: l,i,h=>by
  rw [bad,if_pos (rA.mpr (h u aJ))]
  exact Jt l _ fun w hw=>h w (aH _ hw)
theorem Ju {n:Int}:∀ (l:List Wi) (i k:Nat) (w:Wi),l[k]? = some w→¬ jf n w→(∀ j u,j < k→l[j]? = some u→jf n u)→bad n l i=some (i + k)
 | [],_,_,_,h,_,_=>by simp at h
 | u :: l,i,0,w,h,hb,_=>by
  simp at h
  subst h
  rw [bad,if_neg fun z=>hb (rA.mp z)]
  rfl
 | u :: l,i,k + 1,w,h,hb,ha=>by
  rw [bad,if_pos (rA.mpr (ha 0 u (by omega) rfl)),Ju l (i + 1) k w (by simpa using h) hb fun j v hj e=>ha (j + 1) v (by omega) (by simpa using e)]
  congr 1
  omega
theorem vm {fs:List Int} (ds:D):∀ (l:List Wi) (i:Nat) (u2 u3:Option U),
 ∃ δ',mR (gTn 2 (bM (gNl 2) (bM (gNl 3) (fZ)))) (xIf (D3.jN (bf (dCall cO (aA (ao 3) (aA (ao 1) (aP)))))) (rQ "NoWish" (ao 2)) (xOf (eH))) ((l.map wiD).mapIdx fun k x=>PyData.tuple [.int ((i + k:Nat):Int),x]) [some (.d ds),some (.d (.list (fs.map .int))),u2,u3]=some (oW δ' (bad fs.length l i))
 | [],i,u2,u3=>⟨_,rfl⟩
 | w :: l,i,u2,u3=>by
  have st:=Js w fs
  have sh:(((w :: l).map wiD).mapIdx fun k x=>PyData.tuple [.int ((i + k:Nat):Int),x])=PyData.tuple [.int (i:Int),wiD w] :: (l.map wiD).mapIdx fun k x=>PyData.tuple [.int ((i + 1 + k:Nat):Int),x]:=by
   rw [bC,List.mapIdx_cons]
   congr 1
   apply List.ext_getElem
   ·simp
   ·intro k h1 h2
    simp
    omega
  rw [sh]
  have g1:(gTn 2 (bM (gNl 2) (bM (gNl 3) (fZ)))) (PyData.tuple [.int (i:Int),wiD w]) [some (.d ds),some (.d (.list (fs.map .int))),u2,u3]=some [some (.d ds),some (.d (.list (fs.map .int))),some (.d (.int (i:Int))),some (.d (wiD w))]:=rfl
  rw [bad]
  cases hb:wiB fs.length w with
  | false =>
   rw [hb] at st
   refine ⟨[],Ud g1 ?_⟩
   refine (Ua ?_).trans (Ue ?_)
   ·simp only [EV,reduceIte,aq,aB,aj,ak,aC,aD,aF,st]
   ·rfl
  | true =>
   rw [hb] at st
   obtain ⟨δ',e⟩:=vm (fs:=fs) ds l (i + 1) (some (.d (.int (i:Int)))) (some (.d (wiD w)))
   refine ⟨δ',(Uc g1 ((Ub ?_).trans (pF rfl))).trans e⟩
   simp only [EV,reduceIte,aq,aB,aj,ak,aC,aD,aF,st]
section
variable {ws:List Wi} {fs:List Int}
theorem rC (hl:ws.length ≤ 1000):cG [.list (ws.map wiD),.list (fs.map .int)]=some (match bad fs.length ws 0 with
 | none=>.o (.rt .none)
 | some j=>.ex "NoWish" (.int (j:Int))):=by
 obtain ⟨δ',e⟩:=vm (fs:=fs) (.list (ws.map wiD)) ws 0 none none
 have en:jB (ws.map wiD)=(ws.map wiD).mapIdx fun k x=>PyData.tuple [.int ((0 + k:Nat):Int),x]:=by
  unfold jB
  congr 1
  funext k x
  rw [iz]
 have fo:KC (lO (ao 0)) (gTn 2 (bM (gNl 2) (bM (gNl 3) (fZ)))) (xIf (D3.jN (bf (dCall cO (aA (ao 3) (aA (ao 1) (aP)))))) (rQ "NoWish" (ao 2)) (xOf (eH))) [some (.d (.list (ws.map wiD))),some (.d (.list (fs.map .int))),none,none]=some (oW δ' (bad fs.length ws 0)):=by
  unfold KC
  have:(lO (ao 0)) [some (.d (.list (ws.map wiD))),some (.d (.list (fs.map .int))),none,none]=some (jB (ws.map wiD)):=by
   have:ws.length ≤ 100000:=by omega
   simp only [EV,reduceIte,aq,aB,aj,ak,aC,aD,aF,lMp,this]
  rw [this,aK,en]
  exact e
 unfold cG
 cases hc:bad fs.length ws 0 with
 | some j =>
  rw [hc] at fo
  exact zM rfl fo
 | none =>
  rw [hc] at fo
  exact Dk rfl fo
theorem a2 {q:Nat} {x y:D} {l:List D}:(aA (ao 0) (aA (ao 1) (aP))) ((x :: y :: l).map (fun d=>some (.d d))++aG q none)=some [x,y]:=rfl
theorem first {p q:Nat} {g:FX} {x y:D} {l:List D} (hp:(x :: y :: l).length=p) (hx:cG [x,y]=some (match bad fs.length ws 0 with
 | none=>.o (.rt .none)
 | some j=>.ex "NoWish" (.int (j:Int)))) (h:bad fs.length ws 0=none→jl cG [] (aA (ao 0) (aA (ao 1) (aP))) ((x :: y :: l).map (fun d=>some (.d d))++aG q none)=some (.o (.nx ((x :: y :: l).map (fun d=>some (.d d))++aG q none)))→vO (fnX p q (kI (jl cG [] (aA (ao 0) (aA (ao 1) (aP)))) g) (x :: y :: l)) none):vO (fnX p q (kI (jl cG [] (aA (ao 0) (aA (ao 1) (aP)))) g) (x :: y :: l)) (bad fs.length ws 0):=by
 cases hc:bad fs.length ws 0 with
 | some j =>
  rw [hc] at hx
  exact zM hp (Jq (Dm a2 hx))
 | none =>
  rw [hc] at hx
  exact h hc (Dp a2 hx)
theorem Jv (hl:ws.length ≤ 900) (fl:fs.length ≤ 900) (hf:∀ f ∈ fs,0 ≤ f∧f ≤ 12):vO (vg [.list (ws.map wiD),.list (fs.map .int)]) (bad fs.length ws 0):=by
 unfold vg
 simp only [Bu]
 refine first rfl (rC (by omega)) fun hn hx=>?_
 have hw:=rB ws 0 hn
 obtain ⟨ch,d,ok,g,e⟩:=Fw hw (fun f h=>(hf f h).1) hl fl
 unfold Com.Ba at e
 exact VP e (a:=.none) (by simp only [EV,reduceIte,aq,aB,aj,ak,aC,aD,aF,fJ hw]) hx
theorem Fx (hl:ws.length ≤ 900) (hf:∀ f ∈ fs,0 ≤ f∧f ≤ 12):vO (lD [.list (ws.map wiD),.list (fs.map .int),.list []]) (bad fs.length ws 0):=by
 unfold lD
 simp only [Bu]
 refine first rfl (rC (by omega)) fun hn hx=>?_
 have hw:=rB ws 0 hn
 have e:=Bf (ws:=ws) (fs:=fs) (ps:=[]) (by omega) (by simp) hw hf (by simp)
 unfold Com.pU at e
 exact outD e (a:=.none) (by simp only [EV,reduceIte,aq,aB,aj,ak,aC,aD,aF,fJ hw]) hx
theorem Fy (hl:ws.length ≤ 900) (fl:fs.length ≤ 900):vO (lE [.list (ws.map wiD),.list (fs.map .int)]) (bad fs.length ws 0):=by
 unfold lE
 simp only [Bu]
 refine first rfl (rC (by omega)) fun hn hx=>?_
 have hw:=rB ws 0 hn
 have e:=vM (ws:=ws) (fs:=fs) (by omega) (by omega) hw
 unfold Com.pW at e
 exact outD e (a:=.none) (by simp only [EV,reduceIte,aq,aB,aj,ak,aC,aD,aF,fJ hw]) hx
theorem Q6:fO [.list (ws.map wiD),.list [.int 0]]=some (.bool (decide (0 < (ws.length:Int)))):=by
 have w1:iK [.list [.int 0]]=some (.bool true):=rfl
 have w2:iu [.list [.int 0]]=some (.bool true):=rfl
 have C2:=tH (g:=(gNl 0)) (c:=(D3.gH)) (e:=(jG gLe gLt (dC (.int 0)) (ao 0) (dCall jx (aA (ao 1) (aP))))) (δ:=[none,some (.d (.list (ws.map wiD)))]) PyData.int (fun c=>.bool (decide (0 < (ws.length:Int)))) [0] (fun p h=>⟨[some (.d (.int p)),some (.d (.list (ws.map wiD)))],rfl,rfl,by
  obtain rfl:=aU.mp h
  simp only [EV,reduceIte,aq,aB,aj,ak,aC,aD,aF,lMp,dTr (fX 0)]⟩)
 have C2:jF (gNl 0) (D3.gH) (jG gLe gLt (dC (.int 0)) (ao 0) (dCall jx (aA (ao 1) (aP)))) [none,some (.d (.list (ws.map wiD)))] [.int 0]=some [.bool (decide (0 < (ws.length:Int)))]:=C2
 have cb:∀ a b:Option U,jO 1 [0] [a,b]=[none,a]:=fun _ _=>rfl
 have ga:vI [.list [.bool (decide (0 < (ws.length:Int)))]]=some (.bool (decide (0 < (ws.length:Int)))):=by
  cases decide (0 < (ws.length:Int)) <;> rfl
 have l1:[PyData.int 0].length ≤ 100000:=by decide
 unfold fO
 simp only [EV,reduceIte,aq,aB,aj,ak,aC,aD,aF,w1,w2,cb,C2,ga,l1]
theorem Q7:fO [.list (ws.map wiD),.none]=some (.bool false):=by
 have w1:iK [.none]=some (.bool false):=rfl
 unfold fO
 simp only [EV,reduceIte,aq,aB,aj,ak,aC,aD,aF,w1]
theorem Bv (hl:ws.length ≤ 900) (fl:fs.length ≤ 900):vO (gM [.list (ws.map wiD),.list (fs.map .int),.list [.int 0]]) (bad fs.length ws 0):=by
 have pl:=Q6 (ws:=ws)
 unfold gM
 refine first rfl (rC (by omega)) fun hn hx=>?_
 by_cases h0:0 < (ws.length:Int)
 ·rw [dTr h0] at pl
  have C3:=tH (g:=(gTn 2 (bM (gNl 0) (bM (gNl 1) (fZ))))) (c:=(D3.gH)) (e:=(dOp gLe (dCall d8 (aA (ao 2) (aA (ao 3) (aA (ao 0) (aP))))) (ao 1))) (δ:=[none,none,some (.d (.list (ws.map wiD))),some (.d (.list [.int 0]))]) (fun k:Nat=>PyData.tuple [.int (k:Int),.int (fs.getD k 0)]) (fun n:Nat=>.bool (decide ((kh ws [0] (n:Int):Int) ≤ fs.getD n 0))) (aX fs.length) (fun k hk=>by
   refine ⟨[some (.d (.int (k:Int))),some (.d (.int (fs.getD k 0))),some (.d (.list (ws.map wiD))),some (.d (.list [.int 0]))],rfl,rfl,?_⟩
   have hh:d8 [.list (ws.map wiD),.list [.int 0],.int (k:Int)]=_:=rY (ws:=ws) (cs:=[0]) (by decide) (fun c h=>by rw [aU.mp h];exact ⟨fX 0,h0⟩) (k:Int)
   simp only [EV,reduceIte,aq,aB,aj,ak,aC,aD,aF,hh])
  have cc:∀ a b c:Option U,jO 2 [0,2] [a,b,c]=[none,none,a,c]:=fun _ _ _=>rfl
  have ab:vI [.list ((aX fs.length).map fun n:Nat=>PyData.bool (decide ((kh ws [0] (n:Int):Int) ≤ fs.getD n 0)))]=some (.bool ((aX fs.length).all fun n:Nat=>decide ((kh ws [0] (n:Int):Int) ≤ fs.getD n 0))):=by
   have:∀ l:List Nat,mq (l.map fun n:Nat=>PyData.bool (decide ((kh ws [0] (n:Int):Int) ≤ fs.getD n 0)))=some (l.map fun n:Nat=>decide ((kh ws [0] (n:Int):Int) ≤ fs.getD n 0)):=fun l=>by
    induction l with
    | nil=>rfl
    | cons a r ih=>rw [bC,mq,ih];rfl
   show (mq _).map _=_
   rw [this]
   simp [List.all_map]
  have ft:oR [.list (ws.map wiD),.list (fs.map .int),.list [.int 0]]=some (.bool ((aX fs.length).all fun n:Nat=>decide ((kh ws [0] (n:Int):Int) ≤ fs.getD n 0))):=by
   show Com.oR _=_
   unfold Com.oR
   simp only [EV,reduceIte,aq,aB,aj,ak,aC,aD,aF,wK,lMp,cN,show fs.length ≤ 100000 by omega,cc,C3,ab]
  refine .inl ⟨.bool ((aX fs.length).all fun n:Nat=>decide ((kh ws [0] (n:Int):Int) ≤ fs.getD n 0)),wU rfl ((tu hx).trans (pF ?_))⟩
  simp only [EV,reduceIte,aq,aB,aj,ak,aC,aD,aF,pl,ft]
 ·rw [dFa h0] at pl
  refine .inl ⟨.bool false,wU rfl ((tu hx).trans (pF ?_))⟩
  simp only [EV,reduceIte,aq,aB,aj,ak,aC,aD,aF,pl]
theorem Mw (hl:ws.length ≤ 900):gM [.list (ws.map wiD),.list (fs.map .int),.none]=some (match bad fs.length ws 0 with
 | none=>.o (.rt (.bool false))
 | some j=>.ex "NoWish" (.int (j:Int))):=by
 have xc:=rC (ws:=ws) (fs:=fs) (by omega)
 unfold gM
 cases hc:bad fs.length ws 0 with
 | some j =>
  rw [hc] at xc
  exact zM rfl (Jq (Dm (a2 (q:=0)) xc))
 | none =>
  rw [hc] at xc
  refine wU rfl ((tu (Dp (a2 (q:=0)) xc)).trans (pF ?_))
  simp only [EV,reduceIte,aq,aB,aj,ak,aC,aD,aF,Q7]
theorem Bw (hl:ws.length ≤ 900):vO (mV [.list (ws.map wiD),.list (fs.map .int),.none,.none]) (bad fs.length ws 0):=by
 have cn:=Mw (ws:=ws) (fs:=fs) hl
 have a3:(aA (ao 0) (aA (ao 1) (aA (ao 2) (aP)))) [some (.d (.list (ws.map wiD))),some (.d (.list (fs.map .int))),some (.d .none),some (.d .none),none,none]=some [.list (ws.map wiD),.list (fs.map .int),.none]:=rfl
 unfold mV
 cases hc:bad fs.length ws 0 with
 | some j =>
  rw [hc] at cn
  exact zM rfl (Jq (Ug a3 cn))
 | none =>
  rw [hc] at cn
  exact .inl ⟨.bool false,wU rfl (T_ ((VN a3 cn).trans (pF rfl)))⟩
end
section
variable {ws:List Wi} {fs:List Int}
theorem Mx (hl:ws.length ≤ 900) (fl:fs.length ≤ 900) (hf:∀ f ∈ fs,0 ≤ f∧f ≤ 12) {k:Int} (k0:0 ≤ k) (k4:k ≤ 4):lF [.int k,.list (ws.map wiD),.list (fs.map .int)]=some (match bad fs.length ws 0 with
 | none=>.o (.rt .none)
 | some j=>.ex "NoWish" (.int (j:Int))):=by
 have dn:∀ {b:FX},b [some (.d (.int k)),some (.d (.list (ws.map wiD))),some (.d (.list (fs.map .int)))]=some (oW [some (.d (.int k)),some (.d (.list (ws.map wiD))),some (.d (.list (fs.map .int)))] (bad fs.length ws 0))→fnX 3 0 b [.int k,.list (ws.map wiD),.list (fs.map .int)]=some (match bad fs.length ws 0 with
  | none=>.o (.rt .none)
  | some j=>.ex "NoWish" (.int (j:Int))):=fun {b} h=>by
  cases hc:bad fs.length ws 0 with
  | none=>rw [hc] at h;exact Dk rfl h
  | some j=>rw [hc] at h;exact zM rfl h
 have tt:∀ j:Int,bf (dOp gEq (ao 0) (dC (.int j))) [some (.d (.int k)),some (.d (.list (ws.map wiD))),some (.d (.list (fs.map .int)))]=some (decide (k=j)):=fun j=>by
  simp only [EV,reduceIte,aq,aB,aj,ak,aC,aD,aF]
 have t1:∀ {j:Int} {f g:FX},k=j→xIf (bf (dOp gEq (ao 0) (dC (.int j)))) f g [some (.d (.int k)),some (.d (.list (ws.map wiD))),some (.d (.list (fs.map .int)))]=f [some (.d (.int k)),some (.d (.list (ws.map wiD))),some (.d (.list (fs.map .int)))]:=fun {j f g} e=>Ua ((tt j).trans (by rw [dTr e]))
 have t0:∀ {j:Int} {f g:FX},¬ k=j→xIf (bf (dOp gEq (ao 0) (dC (.int j)))) f g [some (.d (.int k)),some (.d (.list (ws.map wiD))),some (.d (.list (fs.map .int)))]=g [some (.d (.int k)),some (.d (.list (ws.map wiD))),some (.d (.list (fs.map .int)))]:=fun {j f g} e=>Ub ((tt j).trans (by rw [dFa e]))
 unfold lF
 by_cases c0:k=0
 ·exact dn ((t1 c0).trans (vh (ds:=[.list (ws.map wiD),.list (fs.map .int)]) rfl (Jv hl fl hf)))
 by_cases c1:k=1
 ·exact dn ((t0 c0).trans ((t1 c1).trans (vh (ds:=[.list (ws.map wiD),.list (fs.map .int),.list [.int 0]]) rfl (Bv hl fl))))
 by_cases c2:k=2
 ·exact dn ((t0 c0).trans ((t0 c1).trans ((t1 c2).trans (vh (ds:=[.list (ws.map wiD),.list (fs.map .int),.none,.none]) rfl (Bw hl)))))
 by_cases c3:k=3
 ·exact dn ((t0 c0).trans ((t0 c1).trans ((t0 c2).trans ((t1 c3).trans (vh (ds:=[.list (ws.map wiD),.list (fs.map .int),.list []]) rfl (Fx hl hf))))))
 ·exact dn ((t0 c0).trans ((t0 c1).trans ((t0 c2).trans ((t0 c3).trans (vh (ds:=[.list (ws.map wiD),.list (fs.map .int)]) rfl (Fy hl fl))))))
def due:Option Nat→Int
 | none=>-1
 | some j=>(j:Int)
theorem yw (hl:ws.length ≤ 900) (fl:fs.length ≤ 900) (hf:∀ f ∈ fs,0 ≤ f∧f ≤ 12) {k:Int} (k0:0 ≤ k) (k4:k ≤ 4):cM [.int k,.list (ws.map wiD),.list (fs.map .int)]=some (.int (due (bad fs.length ws 0))):=by
 have ask:=Mx hl fl hf k0 k4
 have lyT:ly 60 (.tuple [.list (ws.map wiD),.list (fs.map .int)]):=zy (n:=20) (Iw (mU (zy (tZ (qW wiD Nk ws)) (by decide)) (mU (zy (n:=5) (tZ (qW PyData.int (fun _=>uY) fs)) (by decide)) xY))) (by decide)
 have ne:=ne_self lyT
 have e1:∀ a b c x y z,(bx 3 (dTup (aA (dUn pC (ao 1)) (aA (dUn pC (ao 2)) (aP))))) [a,some (.d (.list b)),some (.d (.list c)),x,y,z]=some (.nx [a,some (.d (.list b)),some (.d (.list c)),some (.d (.tuple [.list b,.list c])),y,z]):=fun a b c x y z=>by
  simp only [EV,reduceIte,aq,aB,aj,ak,aC,aD,aF,zl2]
 have aa:∀ (a y z:Option U) (k b c:D),(aA (ao 0) (aA (dOp gIx (ao 3) (dC (.int 0))) (aA (dOp gIx (ao 3) (dC (.int 1))) (aP)))) [some (.d k),y,z,some (.d (.tuple [b,c])),a,none]=some [k,b,c]:=fun a y z k b c=>by
  simp only [EV,reduceIte,aq,aB,aj,ak,aC,aD,aF,at0,at1]
 have e4:∀ (y:U),(sIf (bf (dOp gNe (ao 3) (dTup (aA (ao 1) (aA (ao 2) (aP)))))) (cP (dUn jR (dC (.int 3)))) (eH)) [some (.d (.int k)),some (.d (.list (ws.map wiD))),some (.d (.list (fs.map .int))),some (.d (.tuple [.list (ws.map wiD),.list (fs.map .int)])),some y,none]=some (.nx [some (.d (.int k)),some (.d (.list (ws.map wiD))),some (.d (.list (fs.map .int))),some (.d (.tuple [.list (ws.map wiD),.list (fs.map .int)])),some y,none]):=fun y=>by
  simp only [EV,reduceIte,aq,aB,aj,ak,aC,aD,aF,zl2,ne]
 unfold cM
 cases hc:bad fs.length ws 0 with
 | none =>
  rw [hc] at ask
  have tr:=Uh (i:=5) (cs:=["NoWish"]) (fS:=((fun c d=>if c = "NoWish" then bF (sIf (D3.tOr (bf (dC (.bool false))) (D3.tOr (D3.jN (fun _=>some true)) (D3.jN (bf (fun _=>dF [d]))))) (cP (dUn jR (dC (.int 2)))) (eH)) (bx 4 (dC d)) else (fun _=>none)):Str→D→FS)) (Dp (aa (some (.d (.int (-1)))) (some (.d (.list (ws.map wiD)))) (some (.d (.list (fs.map .int)))) (.int k) _ _) ask)
  refine Jr rfl ((jC (e1 _ _ _ _ _ _)).trans ((jC rfl).trans ((jC tr).trans ((jC (e4 _)).trans ?_))))
  rfl
 | some j =>
  rw [hc] at ask
  have wh:dF [.int (j:Int)]=some (.bool true):=rfl
  have su:((fun c d=>if c = "NoWish" then bF (sIf (D3.tOr (bf (dC (.bool false))) (D3.tOr (D3.jN (fun _=>some true)) (D3.jN (bf (fun _=>dF [d]))))) (cP (dUn jR (dC (.int 2)))) (eH)) (bx 4 (dC d)) else (fun _=>none)):Str→D→FS) "NoWish" (.int (j:Int)) [some (.d (.int k)),some (.d (.list (ws.map wiD))),some (.d (.list (fs.map .int))),some (.d (.tuple [.list (ws.map wiD),.list (fs.map .int)])),some (.d (.int (-1))),none]=some (.nx [some (.d (.int k)),some (.d (.list (ws.map wiD))),some (.d (.list (fs.map .int))),some (.d (.tuple [.list (ws.map wiD),.list (fs.map .int)])),some (.d (.int (j:Int))),none]):=by
   show (if _ then _ else _:FS) _=_
   rw [if_pos rfl]
   simp only [EV,reduceIte,aq,aB,aj,ak,aC,aD,aF,wh]
  have tr:=Ui (i:=5) (cs:=["NoWish"]) (fS:=((fun c d=>if c = "NoWish" then bF (sIf (D3.tOr (bf (dC (.bool false))) (D3.tOr (D3.jN (fun _=>some true)) (D3.jN (bf (fun _=>dF [d]))))) (cP (dUn jR (dC (.int 2)))) (eH)) (bx 4 (dC d)) else (fun _=>none)):Str→D→FS)) (Dm (aa (some (.d (.int (-1)))) (some (.d (.list (ws.map wiD)))) (some (.d (.list (fs.map .int)))) (.int k) _ _) ask) (by decide) rfl su
  refine Jr rfl ((jC (e1 _ _ _ _ _ _)).trans ((jC rfl).trans ((jC tr).trans ((jC (e4 _)).trans ?_))))
  rfl
end
theorem zN {n:Int} {w:Wi} (hw:jf n w) {x y z:Int} (hx:r6 x) (hy:r6 y) (hz:r6 z) (l:List D):∃ u:Wi,¬ jf n u∧iQ [wiD w,.int n,.list (.int x :: .int y :: .int z :: l)]=some (wiD u):=by
 obtain ⟨h1,h2,h3,h4,h5⟩:=hw
 have p0:pAt (.int x :: .int y :: .int z :: l) 0=some (.int x):=jz (k:=0)
 have p1:pAt (.int x :: .int y :: .int z :: l) 1=some (.int y):=jz (k:=1)
 have p2:pAt (.int x :: .int y :: .int z :: l) 2=some (.int z):=jz (k:=2)
 have gx:cU (.int x) (.int 6)=some (.int (x % 6)):=fV (by decide)
 have gy:cU (.int y) (.int 3)=some (.int (y % 3)):=fV (by decide)
 have gz:cU (.int z) (.int 1000000000)=some (.int (z % 1000000000)):=fV (by decide)
 have gp:mK (.int 10) (.int 9)=some (.int 1000000000):=rfl
 have rx:=jX (i:=x) (j:=6) (by decide)
 have ry:=jX (i:=y) (j:=3) (by decide)
 have rz:=jX (i:=z) (j:=1000000000) (by decide)
 have gm:iY (.int (y % 3)) (.int (z % 1000000000))=some (.int (y % 3 * (z % 1000000000))):=mulL (by omega) (by omega)
 have b0:0 ≤ y % 3 * (z % 1000000000):=Int.mul_nonneg ry.1 rz.1
 generalize y % 3 * (z % 1000000000)=by' at *
 generalize x % 6=q at *
 unfold iQ
 by_cases c0:q=0
 ·refine ⟨(-1 - by',w.2.1,w.2.2),fun z=>by have z:(0:Int) ≤ -1 - by':=z.1;omega,?_⟩
  unfold wiD
  simp only [EV,reduceIte,aq,aB,aj,ak,aC,aD,aF,p0,p1,p2,gx,gy,gz,gp,gm,dTr c0,zl3]
 by_cases c1:q=1
 ·refine ⟨(w.1,w.1,w.2.2),fun z=>by have z:w.1 < w.1:=z.2.1;omega,?_⟩
  unfold wiD
  simp only [EV,reduceIte,aq,aB,aj,ak,aC,aD,aF,p0,p1,p2,gx,gy,gz,gp,gm,dFa c0,dTr c1,zl3]
 by_cases c2:q=2
 ·refine ⟨(w.2.1,w.1,w.2.2),fun z=>by have z:w.2.1 < w.1:=z.2.1;omega,?_⟩
  unfold wiD
  simp only [EV,reduceIte,aq,aB,aj,ak,aC,aD,aF,p0,p1,p2,gx,gy,gz,gp,gm,dFa c0,dFa c1,dTr c2,zl3]
 by_cases c3:q=3
 ·refine ⟨(w.1,n + 1 + by',w.2.2),fun z=>by have z:n + 1 + by' ≤ n:=z.2.2.1;omega,?_⟩
  unfold wiD
  simp only [EV,reduceIte,aq,aB,aj,ak,aC,aD,aF,p0,p1,p2,gx,gy,gz,gp,gm,dFa c0,dFa c1,dFa c2,dTr c3,zl3]
 by_cases c4:q=4
 ·refine ⟨(w.1,w.2.1,-1 - by'),fun z=>by have z:(0:Int) ≤ -1 - by':=z.2.2.2.1;omega,?_⟩
  unfold wiD
  simp only [EV,reduceIte,aq,aB,aj,ak,aC,aD,aF,p0,p1,p2,gx,gy,gz,gp,gm,dFa c0,dFa c1,dFa c2,dFa c3,dTr c4,zl3]
 ·refine ⟨(w.1,w.2.1,1000000000 + 1 + by'),fun z=>by have z:1000000000 + 1 + by' ≤ (1000000000:Int):=z.2.2.2.2;omega,?_⟩
  unfold wiD
  simp only [EV,reduceIte,aq,aB,aj,ak,aC,aD,aF,p0,p1,p2,gx,gy,gz,gp,gm,dFa c0,dFa c1,dFa c2,dFa c3,dFa c4,zl3]
theorem Bx {g:FG} {b:FS} {d:D} {r:List D} {δ δ1 δ':DS} (h1:g d δ=some δ1) (h2:b δ1=some (.nx δ')):mJ g b (d :: r) δ=mJ g b r δ':=by
 rw [mJ,h1,aK,h2]
 rfl
theorem Uj {xs:List Int} (h:xs.length=20):∃ a0 a1 a2 a3 a4 a5 a6 a7 a8 a9 a10 a11 a12 a13 a14 a15 a16 a17 a18 a19,xs=[a0,a1,a2,a3,a4,a5,a6,a7,a8,a9,a10,a11,a12,a13,a14,a15,a16,a17,a18,a19]:=by
 match xs,h with
 | [a0,a1,a2,a3,a4,a5,a6,a7,a8,a9,a10,a11,a12,a13,a14,a15,a16,a17,a18,a19],_=>exact ⟨a0,a1,a2,a3,a4,a5,a6,a7,a8,a9,a10,a11,a12,a13,a14,a15,a16,a17,a18,a19,rfl⟩
section
variable {ns:List Int} {RW:List D} {fs ni:List Int} {ws sp:List Wi} {P:List Nat}
theorem Np {i p:Nat} {x y z:Int} {l:List D} {wi:Wi} (hi:i < 2) (hp:pAt (P.map fun p:Nat=>PyData.int (p:Int)) (i:Int)=some (.int (p:Int))) (hw:ws[p]? = some wi) (ok:jf fs.length wi) (hx:r6 x) (hy:r6 y) (hz:r6 z) (cut:cutD RW (some (6 + 4 * (i:Int))) none = .int x :: .int y :: .int z :: l) (hs:sp.length=ws.length) :
 ∃ u:Wi,¬ jf fs.length u∧(nU 5 (dOp gIx (ao 6) (ao 7)) (dCall iQ (aA (dOp gIx (ao 3) (dOp gIx (ao 6) (ao 7))) (aA (dCall jx (aA (ao 2) (aP))) (aA (dSl (ao 1) (sU (dOp dH (dC (.int 6)) (dOp iY (dC (.int 4)) (ao 7)))) uF) (aP)))))) [some (.d (.list (ns.map .int))),some (.d (.list RW)),some (.d (.list (fs.map .int))),some (.d (.list (ws.map wiD))),some (.d (.list (ni.map .int))),some (.d (.list ((sp).map wiD))),some (.d (.list (P.map fun p:Nat=>PyData.int (p:Int)))),some (.d (.int (i:Int))),none,none,none]=some (.nx [some (.d (.list (ns.map .int))),some (.d (.list RW)),some (.d (.list (fs.map .int))),some (.d (.list (ws.map wiD))),some (.d (.list (ni.map .int))),some (.d (.list ((sp.set p u).map wiD))),some (.d (.list (P.map fun p:Nat=>PyData.int (p:Int)))),some (.d (.int (i:Int))),none,none,none]):=by
 obtain ⟨u,nu,e⟩:=zN ok hx hy hz l
 have pl:p < ws.length:=by
  rcases mX p ws.length with h | h
  ·exact h
  ·rw [bI h] at hw;cases hw
 have aw:pAt (ws.map wiD) (p:Int)=some (wiD wi):=by
  rw [lB wiD (0,0,0) (by omega) (by omega),show ((p:Int)).toNat=p by omega,aN,hw]
  rfl
 have ix:pIx sp.length (p:Int)=some p:=Mu (by omega)
 have gm:iY (.int 4) (.int (i:Int))=some (.int (4 * (i:Int))):=mulL (by decide) (by omega)
 refine ⟨u,nu,?_⟩
 rw [mZ]
 simp only [EV,reduceIte,aq,aB,aj,ak,aC,aD,aF,hp,aw,lMp,gm,cut,e,ix,aK]
def Spt (ws sp:List Wi) (n:Int) (P:List Nat):Prop:=sp.length=ws.length∧∀ j u,sp[j]? = some u→(j ∈ P→¬ jf n u)∧(j ∉ P→jf n u)
theorem Spt.bad {n:Int} {k:Nat} (h:Spt ws sp n P) (hk:k ∈ P) (hl:k < ws.length) (hm:∀ j ∈ P,k ≤ j):bad n sp 0=some k:=by
 have lk:k < sp.length:=by rw [h.1];exact hl
 have e:sp[k]? = some sp[k]:=aV lk
 have:=Ju sp 0 k _ e ((h.2 k _ e).1 hk) fun j u hj eu=>(h.2 j u eu).2 fun z=>by have:=hm j z;omega
 rw [this,iz]
theorem Q8 {n:Int} {p:Nat} {u:Wi} (hw:∀ w ∈ ws,jf n w) (nu:¬ jf n u):Spt ws (ws.set p u) n [p]:=by
 refine ⟨bK,fun j v e=>?_⟩
 rw [iU] at e
 split at e
 ·rename_i h
  subst h
  split at e
  ·cases e
   exact ⟨fun _=>nu,fun z=>absurd aJ z⟩
  ·cases e
 ·rename_i h
  exact ⟨fun z=>absurd (aU.mp z).symm h,fun _=>hw v (eY e)⟩
theorem Uk {n:Int} {p r:Nat} {u:Wi} (h:Spt ws sp n [p]) (nu:¬ jf n u):Spt ws (sp.set r u) n [p,r]:=by
 refine ⟨by rw [bK];exact h.1,fun j v e=>?_⟩
 rw [iU] at e
 split at e
 ·rename_i h
  subst h
  split at e
  ·cases e
   exact ⟨fun _=>nu,fun z=>absurd (by simp) z⟩
  ·cases e
 ·rename_i hr
  have:=h.2 j v e
  refine ⟨fun z=>?_,fun z=>this.2 fun y=>z (by rw [aU.mp y];simp)⟩
  rcases aZ.mp z with z | z
  ·exact this.1 (by rw [z];simp)
  ·exact absurd (aU.mp z).symm hr
theorem Ul {du q9:Int} (hl:ws.length ≤ 900) (fl:fs.length ≤ 900) (nl:ni.length ≤ 900) (sl:sp.length ≤ 900) (hf:∀ f ∈ fs,0 ≤ f∧f ≤ 12) (hn:∀ f ∈ ni,0 ≤ f∧f ≤ 12) (hw:∀ w ∈ ws,jf fs.length w) (hd:due (bad ni.length sp 0)=du) (z0:0 ≤ q9) (a b c:Option U) (d:D) :
 ∃ δ',mJ (gNl 7) (bF (bx 10 (dOp cU (dOp dH (ao 9) (ao 7)) (dC (.int 5)))) (bF (sIf (D3.tOr (bf (dOp gNe (dCall cM (aA (ao 10) (aA (ao 3) (aA (ao 2) (aP))))) (dUn jR (dC (.int 1))))) (bf (dOp gNe (dCall cM (aA (ao 10) (aA (ao 5) (aA (ao 4) (aP))))) (ao 8)))) (cP (dC (.bool false))) (eH)) (sIf (D3.tOr (bf (dOp gNe (dCall cM (aA (ao 10) (aA (gC (aP)) (aA (ao 4) (aP))))) (dUn jR (dC (.int 1))))) (bf (dOp gNe (dCall cM (aA (ao 10) (aA (ao 3) (aA (ao 2) (aP))))) (dUn jR (dC (.int 1)))))) (cP (dC (.bool false))) (eH)))) (gB 0 5) [a,b,some (.d (.list (fs.map .int))),some (.d (.list (ws.map wiD))),some (.d (.list (ni.map .int))),some (.d (.list (sp.map wiD))),c,some (.d d),some (.d (.int du)),some (.d (.int q9)),none]=some (.nx δ'):=by
 obtain ⟨δ',e,_⟩:=o9 (g:=(gNl 7)) (b:=(bF (bx 10 (dOp cU (dOp dH (ao 9) (ao 7)) (dC (.int 5)))) (bF (sIf (D3.tOr (bf (dOp gNe (dCall cM (aA (ao 10) (aA (ao 3) (aA (ao 2) (aP))))) (dUn jR (dC (.int 1))))) (bf (dOp gNe (dCall cM (aA (ao 10) (aA (ao 5) (aA (ao 4) (aP))))) (ao 8)))) (cP (dC (.bool false))) (eH)) (sIf (D3.tOr (bf (dOp gNe (dCall cM (aA (ao 10) (aA (gC (aP)) (aA (ao 4) (aP))))) (dUn jR (dC (.int 1))))) (bf (dOp gNe (dCall cM (aA (ao 10) (aA (ao 3) (aA (ao 2) (aP))))) (dUn jR (dC (.int 1)))))) (cP (dC (.bool false))) (eH))))) (fun _ δ=>∃ x y,δ=[a,b,some (.d (.list (fs.map .int))),some (.d (.list (ws.map wiD))),some (.d (.list (ni.map .int))),some (.d (.list (sp.map wiD))),c,x,some (.d (.int du)),some (.d (.int q9)),y]) (gB 0 5) [a,b,some (.d (.list (fs.map .int))),some (.d (.list (ws.map wiD))),some (.d (.list (ni.map .int))),some (.d (.list (sp.map wiD))),c,some (.d d),some (.d (.int du)),some (.d (.int q9)),none] ⟨_,_,rfl⟩ (by
  rintro i d δ hd' ⟨x,y,rfl⟩
  obtain ⟨hi,rfl⟩:=CQ hd'
  have gm:cU (.int (q9 + (i:Int))) (.int 5)=some (.int ((q9 + (i:Int)) % 5)):=fV (by decide)
  have rm:=jX (i:=q9 + (i:Int)) (j:=5) (by decide)
  generalize (q9 + (i:Int)) % 5=k at *
  have t1:=yw (ws:=ws) (fs:=fs) hl fl hf (k:=k) rm.1 (by omega)
  have t2:=yw (ws:=sp) (fs:=ni) sl nl hn (k:=k) rm.1 (by omega)
  have t3:cM [.int k,.list [],.list (ni.map .int)]=_:=yw (ws:=[]) (fs:=ni) (by simp) nl hn (k:=k) rm.1 (by omega)
  rw [Jt ws 0 hw] at t1
  rw [hd] at t2
  have t1:cM [.int k,.list (ws.map wiD),.list (fs.map .int)]=some (.int (-1)):=t1
  have t3:cM [.int k,.list [],.list (ni.map .int)]=some (.int (-1)):=t3
  have d1:decide ((-1:Int) = -1)=true:=by decide
  have d2:decide (du=du)=true:=by simp
  have z1:(0:Nat) ≤ sizeLine:=eZ _
  refine ⟨_,_,rfl,.inl ?_,some (.d (.int (i:Int))),some (.d (.int k)),rfl⟩
  simp only [EV,reduceIte,aq,aB,aj,ak,aC,aD,aF,gm,t1,t2,t3,d1,d2,z1,jr])
 exact ⟨δ',e⟩
end
theorem tail {a:Option U} {RW:List D} {fs ni:List Int} {ws sp:List Wi} {P:List Nat} {k:Nat} {x16:Int} {d:D} (p16:pAt RW 16=some (.int x16)) (wl:ws.length ≤ 900) (fl:fs.length ≤ 900) (hf:∀ f ∈ fs,0 ≤ f∧f ≤ 12) (hni:ni=fs∨ni=[]) (hw:∀ w ∈ ws,jf fs.length w) (st:Spt ws sp fs.length P) (hk:k ∈ P) (kl:k < ws.length) (km:∀ j ∈ P,k ≤ j) (mn:uG [.list (P.map fun p:Nat=>PyData.int (p:Int))]=some (.int (k:Int))) :
 (bF (sIf (bf (dOp gNe (dCall gq (aA (ao 5) (aA (dCall rP (aA (dCall jx (aA (ao 5) (aP))) (aP))) (aP)))) (dCall uD (aA (fQ (lG (ao 5)) (gNl 0) (D3.gH) (cQ (dOp gIx (ao 0) (dC (.int 2)))) 1 []) (aP))))) (cP (dC (.bool false))) (eH)) (bF (bx 8 (dOp iY (dCall uG (aA (ao 6) (aP))) (dCall DX (aA (dOp gNe (ao 4) (gC (aP))) (aP))))) (bF (bx 9 (dOp cU (dOp gIx (ao 1) (dC (.int 16))) (dC (.int 5)))) (bF (nR (j9 (aA (dC (.int 5)) (aP))) (gNl 7) (bF (bx 10 (dOp cU (dOp dH (ao 9) (ao 7)) (dC (.int 5)))) (bF (sIf (D3.tOr (bf (dOp gNe (dCall cM (aA (ao 10) (aA (ao 3) (aA (ao 2) (aP))))) (dUn jR (dC (.int 1))))) (bf (dOp gNe (dCall cM (aA (ao 10) (aA (ao 5) (aA (ao 4) (aP))))) (ao 8)))) (cP (dC (.bool false))) (eH)) (sIf (D3.tOr (bf (dOp gNe (dCall cM (aA (ao 10) (aA (gC (aP)) (aA (ao 4) (aP))))) (dUn jR (dC (.int 1))))) (bf (dOp gNe (dCall cM (aA (ao 10) (aA (ao 3) (aA (ao 2) (aP))))) (dUn jR (dC (.int 1)))))) (cP (dC (.bool false))) (eH))))) (cP (dC (.bool true))))))) [a,some (.d (.list RW)),some (.d (.list (fs.map .int))),some (.d (.list (ws.map wiD))),some (.d (.list (ni.map .int))),some (.d (.list (sp.map wiD))),some (.d (.list (P.map fun p:Nat=>PyData.int (p:Int)))),some (.d d),none,none,none]=some (.rt (.bool true)):=by
 have sl:sp.length=ws.length:=st.1
 have W:=u5 (ws:=sp) (cs:=(aX sp.length).map fun k:Nat=>(k:Int)) (by rw [aW,cN];omega) (fun c hc=>by
  obtain ⟨k,hk,rfl⟩:=cR.mp hc
  have:=bQ.mp hk
  omega)
 have ws1:uZ sp ((aX sp.length).map fun k:Nat=>(k:Int))=(sp.map (·.2.2)).sum:=by
  unfold uZ
  congr 1
  rw [cT]
  apply List.ext_getElem
  ·simp
  ·intro j h1 h2
   simp at h1 h2
   simp [h1]
 rw [ws1] at W
 have lr:rP [.int (sp.length:Int)]=some (.list (((aX sp.length).map fun k:Nat=>(k:Int)).map .int)):=by
  have:gB 0 (sp.length:Int)=((aX sp.length).map fun k:Nat=>(k:Int)).map .int:=by
   unfold gB
   rw [cT,show ((sp.length:Int) - 0).toNat=sp.length by omega]
   exact jm fun k _=>by show PyData.int _=PyData.int _;rw [mY]
  rw [← this]
  exact Kv (by omega) (by omega)
 have C:=tH (g:=(gNl 0)) (c:=(D3.gH)) (e:=(cQ (dOp gIx (ao 0) (dC (.int 2))))) (δ:=[none]) wiD (fun w:Wi=>PyData.int w.2.2) sp (fun w _=>⟨[some (.d (wiD w))],rfl,rfl,by
  unfold wiD
  simp only [EV,reduceIte,aq,aB,aj,ak,aC,aD,aF,at2]⟩)
 have C:jF (gNl 0) (D3.gH) (cQ (dOp gIx (ao 0) (dC (.int 2)))) [none] (sp.map wiD)=some ((sp.map (·.2.2)).map .int):=by rw [C,cT];rfl
 have ca:∀ a b c d e f g h i j k:Option U,jO 1 [] [a,b,c,d,e,f,g,h,i,j,k]=[none]:=fun _ _ _ _ _ _ _ _ _ _ _=>rfl
 have d1:decide ((sp.map (·.2.2)).sum=(sp.map (·.2.2)).sum)=true:=by simp
 have ne:gNe (.list (ni.map .int)) (.list [])=some (.bool (!ni.isEmpty)):=by
  have:ly 60 (.list (ni.map PyData.int)):=zy (n:=5) (tZ (qW PyData.int (fun _=>uY) ni)) (by decide)
  unfold gNe
  rw [rT this,show SeqAt.shaped (.list [])=true from rfl]
  cases ni <;> simp [PyData.eqv,PyData.eqvAll]
 have gi:DX [.bool (!ni.isEmpty)]=some (.int (if (!ni.isEmpty)=true then 1 else 0)):=rfl
 have gm:iY (.int (k:Int)) (.int (if (!ni.isEmpty)=true then 1 else 0))=some (.int ((k:Int) * (if (!ni.isEmpty)=true then 1 else 0))):=mulL (by omega) (by omega)
 have g16:cU (.int x16) (.int 5)=some (.int (x16 % 5)):=fV (by decide)
 have r16:=jX (i:=x16) (j:=5) (by decide)
 have du:due (bad ni.length sp 0)=(k:Int) * (if (!ni.isEmpty)=true then 1 else 0):=by
  rcases hni with rfl | rfl
  ·have ne:ni.isEmpty=false:=by
    cases ni with
    | nil =>
     have lk:k < sp.length:=by omega
     have z:=hw _ (d7 kl)
     have:=z.1;have:=z.2.1;have z3:=z.2.2.1
     rw [dU] at z3
     omega
    | cons _ _=>rfl
   rw [st.bad hk kl km,ne]
   show (k:Int)=(k:Int) * 1
   omega
  ·cases sp with
   | nil=>rw [dU] at sl;omega
   | cons u sp =>
    have:¬ jf ((([]:List Int).length:Nat):Int) u:=fun z=>by
     have:=z.1;have:=z.2.1;have z3:=z.2.2.1
     rw [dU] at z3
     omega
    rw [bad,if_neg fun z=>this (rA.mp z)]
    show (0:Int)=(k:Int) * 0
    omega
 have nl:ni.length ≤ 900:=by
  rcases hni with rfl | rfl
  ·exact fl
  ·simp
 have hn:∀ f ∈ ni,0 ≤ f∧f ≤ 12:=by
  rcases hni with rfl | rfl
  ·exact hf
  ·simp
 have rg:nP (some [.int 5])=some (gB 0 5):=uW (by decide) (by decide)
 obtain ⟨δ',L2⟩:=Ul (ws:=ws) (fs:=fs) (ni:=ni) (sp:=sp) wl fl nl (by omega) hf hn hw du r16.1 a (some (.d (.list RW))) (some (.d (.list (P.map fun p:Nat=>PyData.int (p:Int))))) d
 simp only [EV,reduceIte,aq,aB,aj,ak,aC,aD,aF,lMp,lr,W,C,ca,zu,show sp.length ≤ 100000 by omega,d1,jr,mn,ne,gi,gm,p16,g16,rg,L2,eZ]
theorem Jw (ns:List Int) (h:ns.length ≤ 63):Jp [.list (ns.map .int)]=some (.bool true):=by
 obtain ⟨xs,hl,hb,R⟩:=qY ns (a:=0) (m:=20) (by decide) (by decide) (by decide)
 obtain ⟨x0,x1,x2,x3,x4,x5,x6,x7,x8,x9,x10,x11,x12,x13,x14,x15,x16,x17,x18,x19,rfl⟩:=Uj hl
 have R:dj [.list (ns.map .int),.int 0,.int 20]=some (.list [.int x0,.int x1,.int x2,.int x3,.int x4,.int x5,.int x6,.int x7,.int x8,.int x9,.int x10,.int x11,.int x12,.int x13,.int x14,.int x15,.int x16,.int x17,.int x18,.int x19]):=R
 have r0:=jX (i:=x0) (j:=10) (by decide)
 have g0:cU (.int x0) (.int 10)=some (.int (x0 % 10)):=fV (by decide)
 obtain ⟨fs,fl,hf,Fr⟩:=E_ ns (n:=1 + x0 % 10) (by omega) (by omega)
 have Fr:iw _=_:=Fr
 have r1:=jX (i:=x1) (j:=10) (by decide)
 have g1:cU (.int x1) (.int 10)=some (.int (x1 % 10)):=fV (by decide)
 obtain ⟨ws,wl,hw,Wi0⟩:=zB ns (n:=(fs.length:Int)) (m:=1 + x1 % 10) (by omega) (by omega) (by omega) (by omega)
 have Wi0:gb _=_:=Wi0
 have g2:cU (.int x2) (.int 9)=some (.int (x2 % 9)):=fV (by decide)
 have L0:0 < ws.length:=by omega
 have g3:cU (.int x3) (.int (ws.length:Int))=some (.int (x3 % (ws.length:Int))):=fV (by omega)
 have r3:=jX (i:=x3) (j:=(ws.length:Int)) (by omega)
 have g4:cU (.int x4) (.int (ws.length:Int))=some (.int (x4 % (ws.length:Int))):=fV (by omega)
 have r4:=jX (i:=x4) (j:=(ws.length:Int)) (by omega)
 have g5:cU (.int x5) (.int 2)=some (.int (x5 % 2)):=fV (by decide)
 have r5:=jX (i:=x5) (j:=2) (by decide)
 have fl9:fs.length ≤ 900:=by omega
 have wl9:ws.length ≤ 900:=by omega
 generalize x0 % 10=q0 at *
 generalize x1 % 10=q1 at *
 generalize x2 % 9=q2 at *
 generalize x3 % (ws.length:Int)=q3 at *
 generalize x4 % (ws.length:Int)=q4 at *
 generalize x5 % 2=q5 at *
 obtain ⟨p0,rfl⟩:∃ p:Nat,q3=(p:Int):=⟨q3.toNat,by omega⟩
 obtain ⟨p1,rfl⟩:∃ p:Nat,q4=(p:Int):=⟨q4.toNat,by omega⟩
 have P0:p0 < ws.length:=by omega
 have P1:p1 < ws.length:=by omega
 have k0:pAt [PyData.int x0,PyData.int x1,PyData.int x2,PyData.int x3,PyData.int x4,PyData.int x5,PyData.int x6,PyData.int x7,PyData.int x8,PyData.int x9,PyData.int x10,PyData.int x11,PyData.int x12,PyData.int x13,PyData.int x14,PyData.int x15,PyData.int x16,PyData.int x17,PyData.int x18,PyData.int x19] 0=some (.int x0):=rfl
 have k1:pAt [PyData.int x0,PyData.int x1,PyData.int x2,PyData.int x3,PyData.int x4,PyData.int x5,PyData.int x6,PyData.int x7,PyData.int x8,PyData.int x9,PyData.int x10,PyData.int x11,PyData.int x12,PyData.int x13,PyData.int x14,PyData.int x15,PyData.int x16,PyData.int x17,PyData.int x18,PyData.int x19] 1=some (.int x1):=rfl
 have k2:pAt [PyData.int x0,PyData.int x1,PyData.int x2,PyData.int x3,PyData.int x4,PyData.int x5,PyData.int x6,PyData.int x7,PyData.int x8,PyData.int x9,PyData.int x10,PyData.int x11,PyData.int x12,PyData.int x13,PyData.int x14,PyData.int x15,PyData.int x16,PyData.int x17,PyData.int x18,PyData.int x19] 2=some (.int x2):=rfl
 have k3:pAt [PyData.int x0,PyData.int x1,PyData.int x2,PyData.int x3,PyData.int x4,PyData.int x5,PyData.int x6,PyData.int x7,PyData.int x8,PyData.int x9,PyData.int x10,PyData.int x11,PyData.int x12,PyData.int x13,PyData.int x14,PyData.int x15,PyData.int x16,PyData.int x17,PyData.int x18,PyData.int x19] 3=some (.int x3):=rfl
 have k4:pAt [PyData.int x0,PyData.int x1,PyData.int x2,PyData.int x3,PyData.int x4,PyData.int x5,PyData.int x6,PyData.int x7,PyData.int x8,PyData.int x9,PyData.int x10,PyData.int x11,PyData.int x12,PyData.int x13,PyData.int x14,PyData.int x15,PyData.int x16,PyData.int x17,PyData.int x18,PyData.int x19] 4=some (.int x4):=rfl
 have k5:pAt [PyData.int x0,PyData.int x1,PyData.int x2,PyData.int x3,PyData.int x4,PyData.int x5,PyData.int x6,PyData.int x7,PyData.int x8,PyData.int x9,PyData.int x10,PyData.int x11,PyData.int x12,PyData.int x13,PyData.int x14,PyData.int x15,PyData.int x16,PyData.int x17,PyData.int x18,PyData.int x19] 5=some (.int x5):=rfl
 have k16:pAt [PyData.int x0,PyData.int x1,PyData.int x2,PyData.int x3,PyData.int x4,PyData.int x5,PyData.int x6,PyData.int x7,PyData.int x8,PyData.int x9,PyData.int x10,PyData.int x11,PyData.int x12,PyData.int x13,PyData.int x14,PyData.int x15,PyData.int x16,PyData.int x17,PyData.int x18,PyData.int x19] 16=some (.int x16):=rfl
 unfold Jp
 refine Jr rfl ?_
 refine (jC (δ':=[some (.d (.list (ns.map .int))),some (.d (.list [.int x0,.int x1,.int x2,.int x3,.int x4,.int x5,.int x6,.int x7,.int x8,.int x9,.int x10,.int x11,.int x12,.int x13,.int x14,.int x15,.int x16,.int x17,.int x18,.int x19])),none,none,none,none,none,none,none,none,none]) (by simp only [EV,reduceIte,aq,aB,aj,ak,aC,aD,aF,R])).trans ?_
 refine (jC (δ':=[some (.d (.list (ns.map .int))),some (.d (.list [.int x0,.int x1,.int x2,.int x3,.int x4,.int x5,.int x6,.int x7,.int x8,.int x9,.int x10,.int x11,.int x12,.int x13,.int x14,.int x15,.int x16,.int x17,.int x18,.int x19])),some (.d (.list (fs.map .int))),none,none,none,none,none,none,none,none]) (by simp only [EV,reduceIte,aq,aB,aj,ak,aC,aD,aF,k0,g0,Fr])).trans ?_
 refine (jC (δ':=[some (.d (.list (ns.map .int))),some (.d (.list [.int x0,.int x1,.int x2,.int x3,.int x4,.int x5,.int x6,.int x7,.int x8,.int x9,.int x10,.int x11,.int x12,.int x13,.int x14,.int x15,.int x16,.int x17,.int x18,.int x19])),some (.d (.list (fs.map .int))),some (.d (.list (ws.map wiD))),none,none,none,none,none,none,none]) (by simp only [EV,reduceIte,aq,aB,aj,ak,aC,aD,aF,k1,g1,lMp,Wi0])).trans ?_
 refine (jC (δ':=[some (.d (.list (ns.map .int))),some (.d (.list [.int x0,.int x1,.int x2,.int x3,.int x4,.int x5,.int x6,.int x7,.int x8,.int x9,.int x10,.int x11,.int x12,.int x13,.int x14,.int x15,.int x16,.int x17,.int x18,.int x19])),some (.d (.list (fs.map .int))),some (.d (.list (ws.map wiD))),some (.d (.list (fs.map .int))),none,none,none,none,none,none]) (by simp only [EV,reduceIte,aq,aB,aj,ak,aC,aD,aF])).trans ?_
 obtain ⟨ni,hni,en⟩:∃ ni:List Int,(ni=fs∨ni=[])∧(sIf (bf (dOp gEq (dOp cU (dOp gIx (ao 1) (dC (.int 2))) (dC (.int 9))) (dC (.int 4)))) (bx 4 (gC (aP))) (eH)) [some (.d (.list (ns.map .int))),some (.d (.list [.int x0,.int x1,.int x2,.int x3,.int x4,.int x5,.int x6,.int x7,.int x8,.int x9,.int x10,.int x11,.int x12,.int x13,.int x14,.int x15,.int x16,.int x17,.int x18,.int x19])),some (.d (.list (fs.map .int))),some (.d (.list (ws.map wiD))),some (.d (.list (fs.map .int))),none,none,none,none,none,none]=some (.nx [some (.d (.list (ns.map .int))),some (.d (.list [.int x0,.int x1,.int x2,.int x3,.int x4,.int x5,.int x6,.int x7,.int x8,.int x9,.int x10,.int x11,.int x12,.int x13,.int x14,.int x15,.int x16,.int x17,.int x18,.int x19])),some (.d (.list (fs.map .int))),some (.d (.list (ws.map wiD))),some (.d (.list (ni.map .int))),none,none,none,none,none,none]):=by
  by_cases c:q2=4
  ·refine ⟨[],.inr rfl,?_⟩
   simp only [EV,reduceIte,aq,aB,aj,ak,aC,aD,aF,k2,g2,dTr c,eZ]
  ·refine ⟨fs,.inl rfl,?_⟩
   simp only [EV,reduceIte,aq,aB,aj,ak,aC,aD,aF,k2,g2,dFa c]
 refine (jC en).trans ?_
 refine (jC (δ':=[some (.d (.list (ns.map .int))),some (.d (.list [.int x0,.int x1,.int x2,.int x3,.int x4,.int x5,.int x6,.int x7,.int x8,.int x9,.int x10,.int x11,.int x12,.int x13,.int x14,.int x15,.int x16,.int x17,.int x18,.int x19])),some (.d (.list (fs.map .int))),some (.d (.list (ws.map wiD))),some (.d (.list (ni.map .int))),some (.d (.list (ws.map wiD))),none,none,none,none,none]) (by simp only [EV,reduceIte,aq,aB,aj,ak,aC,aD,aF])).trans ?_
 have b1:=fun (P:List Nat) (hp:pAt (P.map fun p:Nat=>PyData.int (p:Int)) ((0:Nat):Int)=some (.int (p0:Int)))=>Np (ns:=ns) (RW:=[PyData.int x0,PyData.int x1,PyData.int x2,PyData.int x3,PyData.int x4,PyData.int x5,PyData.int x6,PyData.int x7,PyData.int x8,PyData.int x9,PyData.int x10,PyData.int x11,PyData.int x12,PyData.int x13,PyData.int x14,PyData.int x15,PyData.int x16,PyData.int x17,PyData.int x18,PyData.int x19]) (fs:=fs) (ni:=ni) (ws:=ws) (sp:=ws) (P:=P) (i:=0) (p:=p0) (x:=x6) (y:=x7) (z:=x8) (by decide) hp (aV P0) (hw _ (d7 P0)) (hb _ (by simp)) (hb _ (by simp)) (hb _ (by simp)) rfl rfl
 by_cases c:q5=0
 ·subst c
  have sl:cutD [PyData.int (p0:Int),.int (p1:Int)] none (some (1 + 0))=[.int (p0:Int)]:=rfl
  refine (jC (δ':=[some (.d (.list (ns.map .int))),some (.d (.list [.int x0,.int x1,.int x2,.int x3,.int x4,.int x5,.int x6,.int x7,.int x8,.int x9,.int x10,.int x11,.int x12,.int x13,.int x14,.int x15,.int x16,.int x17,.int x18,.int x19])),some (.d (.list (fs.map .int))),some (.d (.list (ws.map wiD))),some (.d (.list (ni.map .int))),some (.d (.list (ws.map wiD))),some (.d (.list [.int (p0:Int)])),none,none,none,none]) (by simp only [EV,reduceIte,aq,aB,aj,ak,aC,aD,aF,k3,k4,k5,g3,g4,g5,lMp,Com.sz (show 2 ≤ 1000000 by decide),sl])).trans ?_
  obtain ⟨u,nu,e⟩:=b1 [p0] rfl
  have rg:nP (some [.int (([PyData.int (p0:Int)].length:Nat):Int)])=some [.int 0]:=uW (k:=1) (by decide) (by decide)
  refine (jC (δ':=[some (.d (.list (ns.map .int))),some (.d (.list [.int x0,.int x1,.int x2,.int x3,.int x4,.int x5,.int x6,.int x7,.int x8,.int x9,.int x10,.int x11,.int x12,.int x13,.int x14,.int x15,.int x16,.int x17,.int x18,.int x19])),some (.d (.list (fs.map .int))),some (.d (.list (ws.map wiD))),some (.d (.list (ni.map .int))),some (.d (.list ((ws.set p0 u).map wiD))),some (.d (.list [.int (p0:Int)])),some (.d (.int 0)),none,none,none]) (by simp only [EV,reduceIte,aq,aB,aj,ak,aC,aD,aF,rg];exact (Bx rfl e).trans rfl)).trans ?_
  exact tail (P:=[p0]) (k:=p0) k16 wl9 fl9 hf hni hw (Q8 hw nu) (by simp) P0 (fun j hj=>by rw [aU.mp hj];exact bA _) rfl
 ·obtain rfl:q5=1:=by omega
  have sl:cutD [PyData.int (p0:Int),.int (p1:Int)] none (some (1 + 1))=[.int (p0:Int),.int (p1:Int)]:=rfl
  refine (jC (δ':=[some (.d (.list (ns.map .int))),some (.d (.list [.int x0,.int x1,.int x2,.int x3,.int x4,.int x5,.int x6,.int x7,.int x8,.int x9,.int x10,.int x11,.int x12,.int x13,.int x14,.int x15,.int x16,.int x17,.int x18,.int x19])),some (.d (.list (fs.map .int))),some (.d (.list (ws.map wiD))),some (.d (.list (ni.map .int))),some (.d (.list (ws.map wiD))),some (.d (.list [.int (p0:Int),.int (p1:Int)])),none,none,none,none]) (by simp only [EV,reduceIte,aq,aB,aj,ak,aC,aD,aF,k3,k4,k5,g3,g4,g5,lMp,Com.sz (show 2 ≤ 1000000 by decide),sl])).trans ?_
  obtain ⟨u,nu,e⟩:=b1 [p0,p1] rfl
  obtain ⟨v,nv,e'⟩:=Np (ns:=ns) (RW:=[PyData.int x0,PyData.int x1,PyData.int x2,PyData.int x3,PyData.int x4,PyData.int x5,PyData.int x6,PyData.int x7,PyData.int x8,PyData.int x9,PyData.int x10,PyData.int x11,PyData.int x12,PyData.int x13,PyData.int x14,PyData.int x15,PyData.int x16,PyData.int x17,PyData.int x18,PyData.int x19]) (fs:=fs) (ni:=ni) (ws:=ws) (sp:=ws.set p0 u) (P:=[p0,p1]) (i:=1) (p:=p1) (x:=x10) (y:=x11) (z:=x12) (by decide) rfl (aV P1) (hw _ (d7 P1)) (hb _ (by simp)) (hb _ (by simp)) (hb _ (by simp)) rfl bK
  have rg:nP (some [.int (([PyData.int (p0:Int),.int (p1:Int)].length:Nat):Int)])=some [.int 0,.int 1]:=uW (k:=2) (by decide) (by decide)
  refine (jC (δ':=[some (.d (.list (ns.map .int))),some (.d (.list [.int x0,.int x1,.int x2,.int x3,.int x4,.int x5,.int x6,.int x7,.int x8,.int x9,.int x10,.int x11,.int x12,.int x13,.int x14,.int x15,.int x16,.int x17,.int x18,.int x19])),some (.d (.list (fs.map .int))),some (.d (.list (ws.map wiD))),some (.d (.list (ni.map .int))),some (.d (.list (((ws.set p0 u).set p1 v).map wiD))),some (.d (.list [.int (p0:Int),.int (p1:Int)])),some (.d (.int 1)),none,none,none]) (by simp only [EV,reduceIte,aq,aB,aj,ak,aC,aD,aF,rg];exact (Bx rfl e).trans ((Bx rfl e').trans rfl))).trans ?_
  by_cases c:p1 < p0
  ·exact tail (P:=[p0,p1]) (k:=p1) k16 wl9 fl9 hf hni hw (Uk (Q8 hw nu) nv) (by simp) P1 (fun j hj=>by rcases aZ.mp hj with z | z <;> first | omega | (have:=aU.mp z;omega)) (by
    show some (PyData.int (mnI (p0:Int) [(p1:Int)]))=_
    unfold mnI
    rw [fK,n8,if_pos (by omega)])
  ·exact tail (P:=[p0,p1]) (k:=p0) k16 wl9 fl9 hf hni hw (Uk (Q8 hw nu) nv) (by simp) P0 (fun j hj=>by rcases aZ.mp hj with z | z <;> first | omega | (have:=aU.mp z;omega)) (by
    show some (PyData.int (mnI (p0:Int) [(p1:Int)]))=_
    unfold mnI
    rw [fK,n8,if_neg (by omega)])
end K56
namespace K56
open PySem PySem.Spec PyProof.Rows L2 My D3 XC
def top (i:Nat):Stmt:=PySem.Challenge.pw_nightbook_k56_wishes_refused.main.body.getD i (.Pass ⟨0,0,0,0⟩)
section
seal PE PT PW PA PS PSs PG PGs PI PO PTs
variable {P:Program} {w:World} {K:PySem.W.Frag} {mg:Str→Option Value} {base:Heap} {n:Nat} {fld:Addr→Str}
theorem zO (D:Dg K mg "is_whole" (top 24) ["thing"]) (B:Bl mg):Has P w K mg base (n + 1) "is_whole" ["thing"] (spD K lu):=by
 have sc:FnScope ["thing"] ["thing"] (aO (top 24)):=fsc
 exact fU (fl:=[.A]) D sc (by decide) (by decide) fun f cdv A outer s H E hr=>bh (bT (bJ (j6 (aM (nC (T := "int") (by decide) (vP 0) (by rfl) B.isinstance_ (by rfl) B.int_ PyProof.Rows.boot_int)) (nA (Ar (aM (nC (T := "bool") (by decide) (vP 0) (by rfl) B.isinstance_ (by rfl) B.bool_ PyProof.Rows.boot_bool)))))))
theorem yx (D:Dg K mg "all_whole" (top 25) ["things"]) (B:Bl mg) (his_whole:Has P w K mg base n "is_whole" ["thing"] (spD K lu)):Has P w K mg base (n + 1) "all_whole" ["things"] (spD K jY):=by
 have sc:FnScope ["things"] ["things"] (aO (top 25)):=fsc
 exact fU (fl:=[.A]) D sc (by decide) (by decide) fun f cdv A outer s H E hr=>bh (bT (bJ (cY (kJ rfl) sY (by rfl) B.all_ (show bootBuiltins "all" = some (.builtin "all") by decide +kernel) (dq (aM (fH (L:=[]) (fl':=[.A]) rfl ["thing"] [] [] (O2 (vB 0)) (fun _ _ _ _ _=>gN' (i:=0) (show (["thing"]:List Str).Nodup by decide +kernel)) (fun _ _ _ _ _=>fW) (fun _ _ _ _ _=>bO his_whole hr (dq (vP 0) dz)))) dz))))
theorem vo (D:Dg K mg "is_tuple_of" (top 26) ["thing", "many"]) (B:Bl mg) (hall_whole:Has P w K mg base n "all_whole" ["things"] (spD K jY)):Has P w K mg base (n + 1) "is_tuple_of" ["thing", "many"] (spD K mD):=by
 have sc:FnScope ["thing", "many"] ["thing", "many"] (aO (top 26)):=fsc
 exact fU (fl:=[.A,.A]) D sc (by decide) (by decide) fun f cdv A outer s H E hr=>bh (bT (sV (j6 (aM (nC (T := "tuple") (by decide) (vP 0) (by rfl) B.isinstance_ (by rfl) B.tuple_ PyProof.Rows.boot_tuple)) (j6 (aM (mC (i_ hr.units) oH (aM (cY bY jc (by rfl) B.len_ PySem.boot_len (dq (vP 0) dz))) (vP 1) (cL _))) (nA (bO hall_whole hr (dq (vP 0) dz)))))))
theorem BJ (D:Dg K mg "is_pair" (top 27) ["thing"]) (B:Bl mg) (his_tuple_of:Has P w K mg base n "is_tuple_of" ["thing", "many"] (spD K mD)):Has P w K mg base (n + 1) "is_pair" ["thing"] (spD K sE):=by
 have sc:FnScope ["thing"] ["thing"] (aO (top 27)):=fsc
 exact fU (fl:=[.A]) D sc (by decide) (by decide) fun f cdv A outer s H E hr=>bh (bT (sV (bO his_tuple_of hr (dq (vP 0) (dq iP dz)))))
theorem sG (D:Dg K mg "is_whole_list" (top 28) ["thing"]) (B:Bl mg) (hall_whole:Has P w K mg base n "all_whole" ["things"] (spD K jY)):Has P w K mg base (n + 1) "is_whole_list" ["thing"] (spD K iK):=by
 have sc:FnScope ["thing"] ["thing"] (aO (top 28)):=fsc
 exact fU (fl:=[.A]) D sc (by decide) (by decide) fun f cdv A outer s H E hr=>bh (bT (sV (j6 (aM (nC (T := "list") (by decide) (vP 0) (by rfl) B.isinstance_ (by rfl) B.list_ PyProof.Rows.boot_list)) (nA (bO hall_whole hr (dq (vP 0) dz))))))
theorem yC (D:Dg K mg "is_rising" (top 29) ["numbers"]) (B:Bl mg):Has P w K mg base (n + 1) "is_rising" ["numbers"] (spD K iu):=by
 have sc:FnScope ["numbers"] ["numbers"] (aO (top 29)):=fsc
 exact fU (fl:=[.A]) D sc (by decide) (by decide) fun f cdv A outer s H E hr=>bh (bT (bJ (cY (kJ rfl) sY (by rfl) B.all_ (show bootBuiltins "all" = some (.builtin "all") by decide +kernel) (dq (aM (fH (L:=[]) (fl':=[.A,.A]) rfl ["one", "other"] [] [] (OD (L1:=[]) (L2:=[]) (vB 0) (j_ (mL (Cu (vB 0) (tR iP) tQ))) (by rfl) B.zip_) (fun _ _ _ _ _=>jJ rfl (cJ (gN' (i:=0) (show (["one", "other"]:List Str).Nodup by decide +kernel)) (cJ (gN' (i:=1) (show (["one", "other"]:List Str).Nodup by decide +kernel)) (iW)))) (fun _ _ _ _ _=>fW) (fun _ _ _ _ _=>dw (mC oh b_lt (vP 0) (vP 1) (cL _))))) dz))))
theorem yD (D:Dg K mg "nights_of" (top 31) ["stay"]) (B:Bl mg):Has P w K mg base (n + 1) "nights_of" ["stay"] (spD K fD):=by
 have sc:FnScope ["stay"] ["stay"] (aO (top 31)):=fsc
 exact fU (fl:=[.A]) D sc (by decide) (by decide) fun f cdv A outer s H E hr=>bh (bT (iR rfl (dq (bJ (cX (bN (dx (vB 0) iP)))) (dq (bJ (cX (bN (dx (vB 0) iP)))) dz))))
theorem Jx (D:Dg K mg "holds" (top 32) ["stretch", "night"]) (B:Bl mg):Has P w K mg base (n + 1) "holds" ["stretch", "night"] (spD K jL):=by
 have sc:FnScope ["stretch", "night"] ["stretch", "night"] (aO (top 32)):=fsc
 exact fU (fl:=[.A,.A]) D sc (by decide) (by decide) fun f cdv A outer s H E hr=>bh (bT (bJ (qx qe oh xK b_lt (bN (dx (vB 0) iP)) (vP 1) (bN (dx (vB 0) iP)))))
theorem zP (D:Dg K mg "count_at" (top 33) ["stretches", "night"]) (B:Bl mg) (hholds:Has P w K mg base n "holds" ["stretch", "night"] (spD K jL)):Has P w K mg base (n + 1) "count_at" ["stretches", "night"] (spD K jA):=by
 have sc:FnScope ["stretches", "night"] ["stretches", "night"] (aO (top 33)):=fsc
 exact fU (fl:=[.A,.A]) D sc (by decide) (by decide) fun f cdv A outer s H E hr=>bh (bT (bJ (cY bY jc (by rfl) B.len_ PySem.boot_len (dq (aM (fH (L:=[]) (fl':=[.A,.A]) rfl ["stretch"] ["night"] [1] (jj (vB 0)) (fun _ _ _ _ _=>gN' (i:=0) (show (["stretch", "night"]:List Str).Nodup by decide +kernel)) (fun _ _ _ _ _=>oY (oG (gO (bO hholds hr (dq (vP 0) (dq (vP 1) dz)))))) (fun _ _ _ _ _=>dw (cX (vP 0))))) dz))))
theorem vp (D:Dg K mg "is_wish_for" (top 36) ["wish", "free"]) (B:Bl mg) (gMOST_WORTH:∃ t,mg "MOST_WORTH" = some (.int 1000000000 t)):Has P w K mg base (n + 1) "is_wish_for" ["wish", "free"] (spD K cO):=by
 have sc:FnScope ["wish", "free"] ["wish", "free"] (aO (top 36)):=fsc
 exact fU (fl:=[.A,.A]) D sc (by decide) (by decide) fun f cdv A outer s H E hr=>bh (bT (bJ (j6 (aM (D_ qe oh qe xK b_lt xK iP (bN (dx (vB 0) iP)) (bN (dx (vB 0) iP)) (aM (cY bY jc (by rfl) B.len_ PySem.boot_len (dq (vP 1) dz))))) (nA (qx qe qe xK xK iP (bN (dx (vB 0) iP)) (aM (J_ gMOST_WORTH)))))))
theorem sH (D:Dg K mg "check_wishes" (top 37) ["wishes", "free"]) (B:Bl mg) (his_wish_for:Has P w K mg base (n + 2) "is_wish_for" ["wish", "free"] (spD K cO)) (zNoWish:ExcG K mg fld "NoWish" "at" "InnError"):HasX P w K mg base fld (n + 3) "check_wishes" ["wishes", "free"] (spX K mg cG) []:=by
 have sc:FnScope ["wishes", "free", "at", "wish"] ["wishes", "free"] (aO (top 37)):=fsc
 exact KN (fl:=[.A,.A,.A,.A]) D sc (by decide) (by decide) fun f cdv A outer s H E hr=>gJ (O8 (L:=[]) R6 rfl (nF (vB 0) (by rfl) B.enumerate_) (jJ rfl (cJ (gN' (i:=2) sc.nd) (cJ (gN' (i:=3) sc.nd) (iW)))) (gJ (zj (xQ (oG (gO (bO his_wish_for hr (dq (vP 3) (dq (vP 1) dz)))))) (gJ (Ei zNoWish.fly hr (vP 2))) (Ax (dB)))))
theorem Mz (D:Dg K mg "cost" (top 38) ["prices", "first", "behind"]) (B:Bl mg):Has P w K mg base (n + 1) "cost" ["prices", "first", "behind"] (spD K pR):=by
 have sc:FnScope ["prices", "first", "behind"] ["prices", "first", "behind"] (aO (top 38)):=fsc
 exact fU (fl:=[.A,.A,.A]) D sc (by decide) (by decide) fun f cdv A outer s H E hr=>bh (bT (bJ (cY (mQ rfl) uP (by rfl) B.sum_ PyProof.Rows.boot_sum (dq (aM (fH (L:=[]) (fl':=[.A,.A,.A,.A]) rfl ["night", "price"] ["first", "behind"] [1,2] (jj (vB 0)) (fun _ _ _ _ _=>jJ rfl (cJ (gN' (i:=0) (show (["night", "price", "first", "behind"]:List Str).Nodup by decide +kernel)) (cJ (gN' (i:=1) (show (["night", "price", "first", "behind"]:List Str).Nodup by decide +kernel)) (iW)))) (fun _ _ _ _ _=>oY (G3 qe oh xK b_lt (vP 2) (vP 0) (vP 3))) (fun _ _ _ _ _=>dw (cX (vP 1))))) dz))))
theorem zQ (D:Dg K mg "worth_of" (top 39) ["wishes", "choice"]) (B:Bl mg):Has P w K mg base (n + 1) "worth_of" ["wishes", "choice"] (spD K gq):=by
 have sc:FnScope ["wishes", "choice"] ["wishes", "choice"] (aO (top 39)):=fsc
 exact fU (fl:=[.A,.A]) D sc (by decide) (by decide) fun f cdv A outer s H E hr=>bh (bT (bJ (cY (mQ rfl) uP (by rfl) B.sum_ PyProof.Rows.boot_sum (dq (aM (fH (L:=[]) (fl':=[.A,.A]) rfl ["place"] ["wishes"] [0] (jj (vB 1)) (fun _ _ _ _ _=>gN' (i:=0) (show (["place", "wishes"]:List Str).Nodup by decide +kernel)) (fun _ _ _ _ _=>fW) (fun _ _ _ _ _=>dw (cX (bN (dx (j_ (dx (vB 1) (vP 0))) iP)))))) dz))))
theorem BK (D:Dg K mg "held_at" (top 40) ["wishes", "choice", "night"]) (B:Bl mg) (hnights_of:Has P w K mg base n "nights_of" ["stay"] (spD K fD)) (hcount_at:Has P w K mg base n "count_at" ["stretches", "night"] (spD K jA)):Has P w K mg base (n + 1) "held_at" ["wishes", "choice", "night"] (spD K d8):=by
 have sc:FnScope ["wishes", "choice", "night"] ["wishes", "choice", "night"] (aO (top 40)):=fsc
 exact fU (fl:=[.A,.A,.A]) D sc (by decide) (by decide) fun f cdv A outer s H E hr=>bh (bT (sV (bO hcount_at hr (dq (aM (fH (L:=[]) (fl':=[.A,.A]) rfl ["place"] ["wishes"] [0] (jj (vB 1)) (fun _ _ _ _ _=>gN' (i:=0) (show (["place", "wishes"]:List Str).Nodup by decide +kernel)) (fun _ _ _ _ _=>fW) (fun _ _ _ _ _=>bO hnights_of hr (dq (bN (dx (vB 1) (vP 0))) dz)))) (dq (vP 2) dz)))))
theorem MF (D:Dg K mg "fits" (top 41) ["wishes", "free", "choice"]) (B:Bl mg) (hheld_at:Has P w K mg base n "held_at" ["wishes", "choice", "night"] (spD K d8)):Has P w K mg base (n + 1) "fits" ["wishes", "free", "choice"] (spD K oR):=by
 have sc:FnScope ["wishes", "free", "choice"] ["wishes", "free", "choice"] (aO (top 41)):=fsc
 exact fU (fl:=[.A,.A,.A]) D sc (by decide) (by decide) fun f cdv A outer s H E hr=>bh (bT (bJ (cY (kJ rfl) sY (by rfl) B.all_ (show bootBuiltins "all" = some (.builtin "all") by decide +kernel) (dq (aM (fH (L:=[]) (fl':=[.A,.A,.A,.A]) rfl ["night", "many"] ["wishes", "choice"] [0,2] (nF (vB 1) (by rfl) B.enumerate_) (fun _ _ _ _ _=>jJ rfl (cJ (gN' (i:=0) (show (["night", "many", "wishes", "choice"]:List Str).Nodup by decide +kernel)) (cJ (gN' (i:=1) (show (["night", "many", "wishes", "choice"]:List Str).Nodup by decide +kernel)) (iW)))) (fun _ _ _ _ _=>fW) (fun _ _ _ _ _=>dw (mC qe xK (gO (bO hheld_at hr (dq (vP 2) (dq (vP 3) (dq (vP 0) dz))))) (vP 1) (cL _))))) dz))))
theorem sI (D:Dg K mg "is_place_list" (top 42) ["wishes", "thing"]) (B:Bl mg) (his_whole_list:Has P w K mg base n "is_whole_list" ["thing"] (spD K iK)) (his_rising:Has P w K mg base n "is_rising" ["numbers"] (spD K iu)):Has P w K mg base (n + 1) "is_place_list" ["wishes", "thing"] (spD K fO):=by
 have sc:FnScope ["wishes", "thing"] ["wishes", "thing"] (aO (top 42)):=fsc
 exact fU (fl:=[.A,.A]) D sc (by decide) (by decide) fun f cdv A outer s H E hr=>bh (bT (bJ (j6 (gO (bO his_whole_list hr (dq (vP 1) dz))) (j6 (gO (bO his_rising hr (dq (vP 1) dz))) (nA (cY (kJ rfl) sY (by rfl) B.all_ (show bootBuiltins "all" = some (.builtin "all") by decide +kernel) (dq (aM (fH (L:=[]) (fl':=[.A,.A]) rfl ["place"] ["wishes"] [0] (jj (vB 1)) (fun _ _ _ _ _=>gN' (i:=0) (show (["place", "wishes"]:List Str).Nodup by decide +kernel)) (fun _ _ _ _ _=>fW) (fun _ _ _ _ _=>dw (qx qe oh xK b_lt iP (vP 0) (aM (cY bY jc (by rfl) B.len_ PySem.boot_len (dq (vP 1) dz))))))) dz)))))))
theorem vQ (D:Dg K mg "is_choice" (top 43) ["wishes", "free", "thing"]) (B:Bl mg) (hfits:Has P w K mg base (n + 2) "fits" ["wishes", "free", "choice"] (spD K oR)) (his_place_list:Has P w K mg base (n + 2) "is_place_list" ["wishes", "thing"] (spD K fO)) (xcheck_wishes:HasX P w K mg base fld (n + 2) "check_wishes" ["wishes", "free"] (spX K mg cG) []):HasX P w K mg base fld (n + 3) "is_choice" ["wishes", "free", "thing"] (spX K mg gM) []:=by
 have sc:FnScope ["wishes", "free", "thing"] ["wishes", "free", "thing"] (aO (top 43)):=fsc
 exact pP (fl:=[.A,.A,.A]) D sc (by decide) (by decide) fun f cdv A outer s H E hr=>jd (jK (dd:=[]) xcheck_wishes (fun H=>.nil) hr (dq (vP 0) (dq (vP 1) dz)))
  (gJ (oO (bT (sV (j6 (gO (bO his_place_list hr (dq (vP 0) (dq (vP 2) dz)))) (nA (bO hfits hr (dq (vP 0) (dq (vP 1) (dq (vP 2) dz))))))))))
theorem zR (D:Dg K mg "is_price" (top 44) ["free", "thing"]) (B:Bl mg) (his_pair:Has P w K mg base n "is_pair" ["thing"] (spD K sE)):Has P w K mg base (n + 1) "is_price" ["free", "thing"] (spD K pY):=by
 have sc:FnScope ["free", "thing"] ["free", "thing"] (aO (top 44)):=fsc
 exact fU (fl:=[.A,.A]) D sc (by decide) (by decide) fun f cdv A outer s H E hr=>bh (bT (bJ (j6 (gO (bO his_pair hr (dq (vP 1) dz))) (j6 (aM (qx qe oh xK b_lt iP (bN (dx (vB 1) iP)) (aM (cY bY jc (by rfl) B.len_ PySem.boot_len (dq (vP 0) dz))))) (nA (mC Gk Oo (bN (dx (vB 1) iP)) iP (cL _)))))))
theorem sJ (D:Dg K mg "is_price_list" (top 45) ["free", "thing"]) (B:Bl mg) (his_rising:Has P w K mg base n "is_rising" ["numbers"] (spD K iu)) (his_price:Has P w K mg base n "is_price" ["free", "thing"] (spD K pY)):Has P w K mg base (n + 1) "is_price_list" ["free", "thing"] (spD K j8):=by
 have sc:FnScope ["free", "thing"] ["free", "thing"] (aO (top 45)):=fsc
 exact fU (fl:=[.A,.A]) D sc (by decide) (by decide) fun f cdv A outer s H E hr=>aR (g_ (vK (yU (xQ (oG (aM (nC (T := "list") (by decide) (vP 1) (by rfl) B.isinstance_ (by rfl) B.list_ PyProof.Rows.boot_list)))) (rN (xQ (oG (aM (cY (kJ rfl) sY (by rfl) B.all_ (show bootBuiltins "all" = some (.builtin "all") by decide +kernel) (dq (aM (fH (L:=[]) (fl':=[.A,.A]) rfl ["price"] ["free"] [0] (jj (vB 1)) (fun _ _ _ _ _=>gN' (i:=0) (show (["price", "free"]:List Str).Nodup by decide +kernel)) (fun _ _ _ _ _=>fW) (fun _ _ _ _ _=>bO his_price hr (dq (vP 1) (dq (vP 0) dz))))) dz)))))))) (bh (bT (bJ (nM)))) (dB))
  (bh (bT (sV (bO his_rising hr (dq (aM (fH (L:=[]) (fl':=[.A,.A]) rfl ["night", "price"] [] [] (jj (vB 1)) (fun _ _ _ _ _=>jJ rfl (cJ (gN' (i:=0) (show (["night", "price"]:List Str).Nodup by decide +kernel)) (cJ (gN' (i:=1) (show (["night", "price"]:List Str).Nodup by decide +kernel)) (iW)))) (fun _ _ _ _ _=>fW) (fun _ _ _ _ _=>dw (cX (vP 0))))) dz)))))
theorem MJ (D:Dg K mg "gain" (top 46) ["wish", "prices"]) (B:Bl mg) (hcost:Has P w K mg base n "cost" ["prices", "first", "behind"] (spD K pR)):Has P w K mg base (n + 1) "gain" ["wish", "prices"] (spD K j7):=by
 have sc:FnScope ["wish", "prices"] ["wish", "prices"] (aO (top 46)):=fsc
 exact fU (fl:=[.A,.A]) D sc (by decide) (by decide) fun f cdv A outer s H E hr=>bh (bT (bJ (bH pJ uJ (bN (dx (vB 0) iP)) (gO (bO hcost hr (dq (vP 1) (dq (bN (dx (vB 0) iP)) (dq (bN (dx (vB 0) iP)) dz))))))))
theorem zT (D:Dg K mg "sold_out" (top 47) ["wishes", "free", "choice", "prices"]) (B:Bl mg) (hheld_at:Has P w K mg base n "held_at" ["wishes", "choice", "night"] (spD K d8)):Has P w K mg base (n + 1) "sold_out" ["wishes", "free", "choice", "prices"] (spD K lA):=by
 have sc:FnScope ["wishes", "free", "choice", "prices"] ["wishes", "free", "choice", "prices"] (aO (top 47)):=fsc
 exact fU (fl:=[.A,.A,.A,.A]) D sc (by decide) (by decide) fun f cdv A outer s H E hr=>bh (bT (bJ (cY (kJ rfl) sY (by rfl) B.all_ (show bootBuiltins "all" = some (.builtin "all") by decide +kernel) (dq (aM (fH (L:=[]) (fl':=[.A,.A,.A,.A,.A]) rfl ["night", "price"] ["wishes", "choice", "free"] [0,2,1] (jj (vB 3)) (fun _ _ _ _ _=>jJ rfl (cJ (gN' (i:=0) (show (["night", "price", "wishes", "choice", "free"]:List Str).Nodup by decide +kernel)) (cJ (gN' (i:=1) (show (["night", "price", "wishes", "choice", "free"]:List Str).Nodup by decide +kernel)) (iW)))) (fun _ _ _ _ _=>fW) (fun _ _ _ _ _=>dw (mC (i_ hr.units) oH (gO (bO hheld_at hr (dq (vP 2) (dq (vP 3) (dq (vP 0) dz))))) (bN (dx (vB 4) (vP 0))) (cL _))))) dz))))
theorem zU (D:Dg K mg "is_best" (top 48) ["wishes", "free", "choice", "prices"]) (B:Bl mg) (his_price_list:Has P w K mg base (n + 2) "is_price_list" ["free", "thing"] (spD K j8)) (hgain:Has P w K mg base (n + 2) "gain" ["wish", "prices"] (spD K j7)) (hsold_out:Has P w K mg base (n + 2) "sold_out" ["wishes", "free", "choice", "prices"] (spD K lA)) (xis_choice:HasX P w K mg base fld (n + 2) "is_choice" ["wishes", "free", "thing"] (spX K mg gM) []):HasX P w K mg base fld (n + 3) "is_best" ["wishes", "free", "choice", "prices"] (spX K mg mV) []:=by
 have sc:FnScope ["wishes", "free", "choice", "prices", "place", "wish"] ["wishes", "free", "choice", "prices"] (aO (top 48)):=fsc
 exact pP (fl:=[.A,.A,.A,.A,.A,.A]) D sc (by decide) (by decide) fun f cdv A outer s H E hr=>jd (PJ xis_choice hr (dq (vP 0) (dq (vP 1) (dq (vP 2) dz))) (rN (xQ (oG (gO (bO his_price_list hr (dq (vP 1) (dq (vP 3) dz))))))) (Ax (bh (bT (bJ (nM))))) (Ax (dB)))
  (jd (oO (oJ (L:=[]) PassesOwn.never rfl (nF (vB 0) (by rfl) B.enumerate_) (jJ rfl (cJ (gN' (i:=4) sc.nd) (cJ (gN' (i:=5) sc.nd) (iW)))) (aR (g_ (vK (uL (cW (uR hr.units) G7 (vP 4) (vP 2) (by with_unfolding_all rfl)) (qw (cW oh b_lt (gO (bO hgain hr (dq (vP 5) (dq (vP 3) dz)))) iP (cL _))))) (bh (bT (bJ (nM)))) (dB))
  (bh (g_ (vK (uL (cW (Eb hr.units) Ky (vP 4) (vP 2) (by with_unfolding_all rfl)) (qw (cW Cd Kf (gO (bO hgain hr (dq (vP 5) (dq (vP 3) dz)))) iP (cL _))))) (bh (bT (bJ (nM)))) (dB))))))
  (gJ (oO (bT (sV (bO hsold_out hr (dq (vP 0) (dq (vP 1) (dq (vP 2) (dq (vP 3) dz))))))))))
theorem yE (D:Dg K mg "bound_by" (top 49) ["wishes", "free", "prices"]) (B:Bl mg) (hgain:Has P w K mg base (n + 2) "gain" ["wish", "prices"] (spD K j7)) (xcheck_wishes:HasX P w K mg base fld (n + 2) "check_wishes" ["wishes", "free"] (spX K mg cG) []):HasX P w K mg base fld (n + 3) "bound_by" ["wishes", "free", "prices"] (spX K mg lD) []:=by
 have sc:FnScope ["wishes", "free", "prices", "rooms"] ["wishes", "free", "prices"] (aO (top 49)):=fsc
 exact pP (fl:=[.A,.A,.A,.A]) D sc (by decide) (by decide) fun f cdv A outer s H E hr=>jd (jK (dd:=[]) xcheck_wishes (fun H=>.nil) hr (dq (vP 0) (dq (vP 1) dz)))
  (jd (oO (sA (i:=3) sc.nd (dh (cY (mQ rfl) uP (by rfl) B.sum_ PyProof.Rows.boot_sum (dq (aM (fH (L:=[]) (fl':=[.A,.A,.A]) rfl ["night", "price"] ["free"] [1] (jj (vB 2)) (fun _ _ _ _ _=>jJ rfl (cJ (gN' (i:=0) (show (["night", "price", "free"]:List Str).Nodup by decide +kernel)) (cJ (gN' (i:=1) (show (["night", "price", "free"]:List Str).Nodup by decide +kernel)) (iW)))) (fun _ _ _ _ _=>fW) (fun _ _ _ _ _=>dw (bH iV lR (bN (dx (vB 2) (vP 0))) (vP 1))))) dz)))))
  (gJ (oO (bT (bJ (bH dN f9 (vP 3) (aM (cY (mQ rfl) uP (by rfl) B.sum_ PyProof.Rows.boot_sum (dq (aM (fH (L:=[]) (fl':=[.A,.A]) rfl ["wish"] ["prices"] [2] (jj (vB 0)) (fun _ _ _ _ _=>gN' (i:=0) (show (["wish", "prices"]:List Str).Nodup by decide +kernel)) (fun _ _ _ _ _=>fW) (fun _ _ _ _ _=>dw (cY (Dv rfl) Ou (by rfl) B.max_ PyProof.Rows.boot_max (dq iP (dq (gO (bO hgain hr (dq (vP 0) (dq (vP 1) dz)))) dz)))))) dz)))))))))
theorem zV (D:Dg K mg "has_room" (top 50) ["wishes", "free", "choice", "wish"]) (B:Bl mg) (hnights_of:Has P w K mg base n "nights_of" ["stay"] (spD K fD)) (hholds:Has P w K mg base n "holds" ["stretch", "night"] (spD K jL)) (hheld_at:Has P w K mg base n "held_at" ["wishes", "choice", "night"] (spD K d8)):Has P w K mg base (n + 1) "has_room" ["wishes", "free", "choice", "wish"] (spD K iG):=by
 have sc:FnScope ["wishes", "free", "choice", "wish", "left"] ["wishes", "free", "choice", "wish"] (aO (top 50)):=fsc
 exact fU (fl:=[.A,.A,.A,.A,.A]) D sc (by decide) (by decide) fun f cdv A outer s H E hr=>aR (oM (i:=4) (L:=[]) (fl':=[.A,.A,.A,.A,.A]) rfl sc.nd rfl rfl rfl ["night", "many"] ["wishes", "choice", "wish"] [0,2,3] (nF (vB 1) (by rfl) B.enumerate_) (fun _ _ _ _ _=>jJ rfl (cJ (gN' (i:=0) (show (["night", "many", "wishes", "choice", "wish"]:List Str).Nodup by decide +kernel)) (cJ (gN' (i:=1) (show (["night", "many", "wishes", "choice", "wish"]:List Str).Nodup by decide +kernel)) (iW)))) (fun _ _ _ _ _=>oY (oG (gO (bO hholds hr (dq (gO (bO hnights_of hr (dq (vP 4) dz))) (dq (vP 0) dz)))))) (fun _ _ _ _ _=>dw (bH pJ uJ (vP 1) (gO (bO hheld_at hr (dq (vP 2) (dq (vP 3) (dq (vP 0) dz))))))))
  (bh (bT (bJ (mC Cd Kf (aM (cY (wC rfl) GZ (by rfl) B.min_ PyProof.Rows.boot_min (dq (vP 4) dz))) iP (cL _)))))
theorem yF (D:Dg K mg "by_turns" (top 51) ["wishes", "free"]) (B:Bl mg) (hhas_room:Has P w K mg base (n + 2) "has_room" ["wishes", "free", "choice", "wish"] (spD K iG)) (xcheck_wishes:HasX P w K mg base fld (n + 2) "check_wishes" ["wishes", "free"] (spX K mg cG) []):HasX P w K mg base fld (n + 3) "by_turns" ["wishes", "free"] (spX K mg lE) []:=by
 have sc:FnScope ["wishes", "free", "choice", "place", "wish"] ["wishes", "free"] (aO (top 51)):=fsc
 exact pP (fl:=[.A,.A,.O,.A,.A]) D sc (by decide) (by decide) fun f cdv A outer s H E hr=>jd (jK (dd:=[]) xcheck_wishes (fun H=>.nil) hr (dq (vP 0) (dq (vP 1) dz)))
  (jd (oO (nj (i:=2) rfl sc.nd rfl (by first | exact Or.inl rfl | exact Or.inr rfl) (mz (eX dz))))
  (jd (oO (oJ (L:=[]) PassesOwn.never rfl (nF (vB 0) (by rfl) B.enumerate_) (jJ rfl (cJ (gN' (i:=3) sc.nd) (cJ (gN' (i:=4) sc.nd) (iW)))) (bh (g_ (oG (gO (bO hhas_room hr (dq (vP 0) (dq (vP 1) (dq (qu (j4 2)) (dq (vP 4) dz))))))) (bh (o7 (i:=2) rfl (vA 3) rfl)) (dB)))))
  (gJ (oO (bT (qt 2 (by decide)))))))
theorem tK (D:Dg K mg "ways_of_wish" (top 53) ["wish", "place", "choice"]) (B:Bl mg):Has P w K mg base (n + 1) "ways_of_wish" ["wish", "place", "choice"] (spD K fG):=by
 have sc:FnScope ["wish", "place", "choice"] ["wish", "place", "choice"] (aO (top 53)):=fsc
 exact fU (fl:=[.A,.A,.A]) D sc (by decide) (by decide) fun f cdv A outer s H E hr=>aR (g_ (cW (uR hr.units) G7 (vP 1) (vP 2) (by with_unfolding_all rfl)) (bh (bT (iR rfl (dq (bJ (cX (bN (dx (vB 0) iP)))) (dq (bJ (cX (bN (dx (vB 0) iP)))) (dq (bJ (cX (bN (dx (vB 0) iP)))) (dq (bJ (cX (vP 1))) dz))))))) (dB))
  (bh (bT (iR rfl (dq (bJ (cX (bN (dx (vB 0) iP)))) (dq (bJ (cX (bN (dx (vB 0) iP)))) (dq (bJ (nD (bN (dx (vB 0) iP)))) (dq (bJ (cX (vP 1))) dz)))))))
theorem zW (D:Dg K mg "all_ways" (top 54) ["wishes", "free", "choice"]) (B:Bl mg) (hheld_at:Has P w K mg base n "held_at" ["wishes", "choice", "night"] (spD K d8)) (hways_of_wish:Has P w K mg base n "ways_of_wish" ["wish", "place", "choice"] (spD K fG)):Has P w K mg base (n + 1) "all_ways" ["wishes", "free", "choice"] (spD K iB):=by
 have sc:FnScope ["wishes", "free", "choice", "onward", "left", "back"] ["wishes", "free", "choice"] (aO (top 54)):=fsc
 exact fU (fl:=[.A,.A,.A,.A,.A,.A]) D sc (by decide) (by decide) fun f cdv A outer s H E hr=>aR (oM (i:=3) (L:=[]) (fl':=[.A]) rfl sc.nd rfl rfl rfl ["night"] [] [] (gW (by rfl) B.range_ (oK (dq (aM (cY bY jc (by rfl) B.len_ PySem.boot_len (dq (vP 1) dz))) dz))) (fun _ _ _ _ _=>gN' (i:=0) (show (["night"]:List Str).Nodup by decide +kernel)) (fun _ _ _ _ _=>fW) (fun _ _ _ _ _=>dw (cX (bN (iR rfl (dq (vA 0) (dq (dh (bH dN f9 (vP 0) iP)) (dq (dh (rH)) (dq (dh (rJ)) dz)))))))))
  (aR (oM (i:=4) (L:=[]) (fl':=[.A,.A,.A,.A]) rfl sc.nd rfl rfl rfl ["night", "many"] ["wishes", "choice"] [0,2] (nF (vB 1) (by rfl) B.enumerate_) (fun _ _ _ _ _=>jJ rfl (cJ (gN' (i:=0) (show (["night", "many", "wishes", "choice"]:List Str).Nodup by decide +kernel)) (cJ (gN' (i:=1) (show (["night", "many", "wishes", "choice"]:List Str).Nodup by decide +kernel)) (iW)))) (fun _ _ _ _ _=>oY (cW oh b_lt (gO (bO hheld_at hr (dq (vP 2) (dq (vP 3) (dq (vP 0) dz))))) (vP 1) (cL _))) (fun _ _ _ _ _=>dw (cX (vP 0))))
  (aR (oM (i:=5) (L:=[]) (fl':=[.A]) rfl sc.nd rfl rfl rfl ["night"] [] [] (O4 (vB 4) (by rfl) B.reversed_) (fun _ _ _ _ _=>gN' (i:=0) (show (["night"]:List Str).Nodup by decide +kernel)) (fun _ _ _ _ _=>fW) (fun _ _ _ _ _=>dw (cX (bN (iR rfl (dq (dh (bH dN f9 (vP 0) iP)) (dq (vA 0) (dq (dh (rH)) (dq (dh (rJ)) dz)))))))))
  (bh (bT (bJ (Ak (uM (j_ (mL (uM (vB 3) (vB 5)))) (j_ (dh (fH (L:=[]) (fl':=[.A,.A,.A]) rfl ["place", "wish"] ["choice"] [2] (nF (vB 0) (by rfl) B.enumerate_) (fun _ _ _ _ _=>jJ rfl (cJ (gN' (i:=0) (show (["place", "wish", "choice"]:List Str).Nodup by decide +kernel)) (cJ (gN' (i:=1) (show (["place", "wish", "choice"]:List Str).Nodup by decide +kernel)) (iW)))) (fun _ _ _ _ _=>fW) (fun _ _ _ _ _=>bO hways_of_wish hr (dq (vP 1) (dq (vP 0) (dq (vP 2) dz))))))))))))))
theorem zX (D:Dg K mg "cheapest" (top 55) ["costs", "ways"]) (B:Bl mg):Has P w K mg base (n + 1) "cheapest" ["costs", "ways"] (spD K iD):=by
 have sc:FnScope ["costs", "ways", "least", "came", "better", "way", "since", "known"] ["costs", "ways"] (aO (top 55)):=fsc
 exact fU (fl:=[.A,.A,.O,.O,.A,.A,.A,.A]) D sc (by decide) (by decide) fun f cdv A outer s H E hr=>aR (nj (i:=2) rfl sc.nd rfl (by first | exact Or.inl rfl | exact Or.inr rfl) (tO (vB 0) (by rfl) B.list_))
  (aR (nj (i:=3) rfl sc.nd rfl (by first | exact Or.inl rfl | exact Or.inr rfl) (rO (mz (eX (dq (dw (rJ)) dz))) (aM (cY bY jc (by rfl) B.len_ PySem.boot_len (dq (vP 0) dz)))))
  (aR (sA (i:=4) sc.nd (dh (nM)))
  (aR (yS PassesOwn.never (oG (vP 4)) (aR (sA (i:=4) sc.nd (dh (nM)))
  (bh (oJ (L:=[]) PassesOwn.never rfl (jj (vB 1)) (gN' (i:=5) sc.nd) (aR (sA (i:=6) sc.nd (dx (j4 2) (bN (dx (vB 5) iP))))
  (aR (sA (i:=7) sc.nd (dx (j4 2) (bN (dx (vB 5) iP))))
  (bh (g_ (vK (uL (Cw (vP 6)) (qw (vK (yU (GX (vP 7)) (rN (cW oh b_lt (aM (bH dN f9 (vP 6) (bN (dx (vB 5) iP)))) (vP 7) (cL _)))))))) (aR (xM (i:=2) rfl (dh (bH dN f9 (vP 6) (bN (dx (vB 5) iP)))) (bN (dx (vB 5) iP)) rfl)
  (aR (xM (i:=3) rfl (vA 5) (bN (dx (vB 5) iP)) rfl)
  (bh (sA (i:=4) sc.nd (dh (nM)))))) (dB)))))))))
  (bh (bT (iR rfl (dq (qt 2 (by decide)) (dq (qt 3 (by decide)) dz))))))))
theorem oU (D:Dg K mg "places_on_the_way" (top 56) ["came", "start", "goal"]) (B:Bl mg):Has P w K mg base (n + 1) "places_on_the_way" ["came", "start", "goal"] (spD K dJ):=by
 have sc:FnScope ["came", "start", "goal", "places", "post", "way"] ["came", "start", "goal"] (aO (top 56)):=fsc
 exact fU (fl:=[.A,.A,.A,.O,.A,.A]) D sc (by decide) (by decide) fun f cdv A outer s H E hr=>aR (nj (i:=3) rfl sc.nd rfl (by first | exact Or.inl rfl | exact Or.inr rfl) (mz (eX dz)))
  (aR (sA (i:=4) sc.nd (vA 2))
  (aR (yS PassesOwn.never (cW (mj hr.units) vJ (vP 4) (vP 1) (cL _)) (aR (sA (i:=5) sc.nd (dx (vB 0) (vP 4)))
  (aR (g_ (Cw (bN (dx (vB 5) iP))) (bh (o7 (i:=3) rfl (dx (vB 5) iP) rfl)) (dB))
  (bh (sA (i:=4) sc.nd (dx (vB 5) iP))))))
  (bh (bT (qt 3 (by decide))))))
theorem sO (D:Dg K mg "with_one_more" (top 57) ["wishes", "free", "choice", "place"]) (B:Bl mg) (hall_ways:Has P w K mg base n "all_ways" ["wishes", "free", "choice"] (spD K iB)) (hcheapest:Has P w K mg base n "cheapest" ["costs", "ways"] (spD K iD)) (hplaces_on_the_way:Has P w K mg base n "places_on_the_way" ["came", "start", "goal"] (spD K dJ)):Has P w K mg base (n + 1) "with_one_more" ["wishes", "free", "choice", "place"] (spL K dW):=by
 have sc:FnScope ["wishes", "free", "choice", "place", "wish", "costs", "found", "back", "changed"] ["wishes", "free", "choice", "place"] (aO (top 57)):=fsc
 exact O5 (fl:=[.A,.A,.A,.A,.A,.O,.A,.A,.A]) D sc (by decide) (by decide) fun f cdv A outer s H E hr=>aR (sA (i:=4) sc.nd (dx (vB 0) (vP 3)))
  (aR (nj (i:=5) rfl sc.nd rfl (by first | exact Or.inl rfl | exact Or.inr rfl) (rO (mz (eX (dq (dw (rJ)) dz))) (aM (bH dN f9 (aM (cY bY jc (by rfl) B.len_ PySem.boot_len (dq (vP 1) dz))) iP))))
  (aR (xM (i:=5) rfl (dh (rH)) (bN (dx (vB 4) iP)) rfl)
  (aR (sA (i:=6) sc.nd (oF (bO hcheapest hr (dq (qu (j4 5)) (dq (gO (bO hall_ways hr (dq (Gy (Cu (vB 0) tQ (tR (vP 3)))) (dq (vP 1) (dq (vP 2) dz))))) dz)))))
  (aR (sA (i:=7) sc.nd (dx (j_ (dx (vB 6) iP)) (bN (dx (vB 4) iP))))
  (aR (g_ (vK (yU (GX (vP 7)) (rN (cW Gk Oo (vP 7) (bN (dx (vB 4) iP)) (cL _))))) (bh (xU (vP 2))) (dB))
  (aR (sA (i:=8) sc.nd (mL (uM (j_ (oF (bO hplaces_on_the_way hr (dq (bN (dx (vB 6) iP)) (dq (bN (dx (vB 4) iP)) (dq (bN (dx (vB 4) iP)) dz)))))) (j_ (mL (Cr (dq (vA 3) dz)))))))
  (bh (xU (aM (fH (L:=[]) (fl':=[.A,.A,.A]) rfl ["one"] ["choice", "changed"] [2,8] (gW (by rfl) B.range_ (oK (dq (aM (bH dN f9 (vP 3) iP)) dz))) (fun _ _ _ _ _=>gN' (i:=0) (show (["one", "choice", "changed"]:List Str).Nodup by decide +kernel)) (fun _ _ _ _ _=>oY (cW (mj hr.units) vJ (aM (mC (uR hr.units) G7 (vP 0) (vP 1) (by with_unfolding_all rfl))) (aM (mC (uR hr.units) G7 (vP 0) (vP 2) (by with_unfolding_all rfl))) (cL _))) (fun _ _ _ _ _=>dw (cX (vP 0)))))))))))))
theorem yG (D:Dg K mg "prices_of" (top 58) ["wishes", "free", "choice"]) (B:Bl mg) (hall_ways:Has P w K mg base n "all_ways" ["wishes", "free", "choice"] (spD K iB)) (hcheapest:Has P w K mg base n "cheapest" ["costs", "ways"] (spD K iD)):Has P w K mg base (n + 1) "prices_of" ["wishes", "free", "choice"] (spD K iy):=by
 have sc:FnScope ["wishes", "free", "choice", "costs", "falls"] ["wishes", "free", "choice"] (aO (top 58)):=fsc
 exact fU (fl:=[.A,.A,.A,.A,.A]) D sc (by decide) (by decide) fun f cdv A outer s H E hr=>aR (sA (i:=3) sc.nd (dx (j_ (oF (bO hcheapest hr (dq (Gy (rO (mz (eX (dq iC dz))) (aM (bH dN f9 (aM (cY bY jc (by rfl) B.len_ PySem.boot_len (dq (vP 1) dz))) iP)))) (dq (gO (bO hall_ways hr (dq (vP 0) (dq (vP 1) (dq (vP 2) dz))))) dz))))) iP))
  (aR (oM (i:=4) (L:=[]) (fl':=[.A,.A]) rfl sc.nd rfl rfl rfl ["night"] ["costs"] [3] (gW (by rfl) B.range_ (oK (dq (aM (cY bY jc (by rfl) B.len_ PySem.boot_len (dq (vP 1) dz))) dz))) (fun _ _ _ _ _=>gN' (i:=0) (show (["night", "costs"]:List Str).Nodup by decide +kernel)) (fun _ _ _ _ _=>fW) (fun _ _ _ _ _=>dw (cX (bN (iR rfl (dq (vA 0) (dq (dh (bH pJ uJ (bN (dx (vB 1) (vP 0))) (bN (dx (vB 1) (aM (bH dN f9 (vP 0) iP)))))) dz)))))))
  (bh (bT (bJ (fH (L:=[]) (fl':=[.A,.A]) rfl ["night", "price"] [] [] (jj (vB 4)) (fun _ _ _ _ _=>jJ rfl (cJ (gN' (i:=0) (show (["night", "price"]:List Str).Nodup by decide +kernel)) (cJ (gN' (i:=1) (show (["night", "price"]:List Str).Nodup by decide +kernel)) (iW)))) (fun _ _ _ _ _=>oY (cW Cd Kf (vP 1) iP (cL _))) (fun _ _ _ _ _=>dw (cX (bN (iR rfl (dq (vA 0) (dq (vA 1) dz)))))))))))
theorem Jy (D:Dg K mg "best" (top 59) ["wishes", "free"]) (B:Bl mg) (hworth_of:Has P w K mg base (n + 2) "worth_of" ["wishes", "choice"] (spD K gq)) (hwith_one_more:Has P w K mg base (n + 2) "with_one_more" ["wishes", "free", "choice", "place"] (spL K dW)) (hprices_of:Has P w K mg base (n + 2) "prices_of" ["wishes", "free", "choice"] (spD K iy)) (xcheck_wishes:HasX P w K mg base fld (n + 2) "check_wishes" ["wishes", "free"] (spX K mg cG) []):HasX P w K mg base fld (n + 3) "best" ["wishes", "free"] (spX K mg vg) []:=by
 have sc:FnScope ["wishes", "free", "choice", "place"] ["wishes", "free"] (aO (top 59)):=fsc
 exact pP (fl:=[.A,.A,.A,.A]) D sc (by decide) (by decide) fun f cdv A outer s H E hr=>jd (jK (dd:=[]) xcheck_wishes (fun H=>.nil) hr (dq (vP 0) (dq (vP 1) dz)))
  (jd (oO (sA (i:=2) sc.nd (dh (eX dz))))
  (jd (oO (oJ (L:=[]) PassesOwn.never rfl (gW (by rfl) B.range_ (oK (dq (aM (cY bY jc (by rfl) B.len_ PySem.boot_len (dq (vP 0) dz))) dz))) (gN' (i:=3) sc.nd) (bh (sA (i:=2) sc.nd (U_ rfl (G9 hwith_one_more hr (dq (vP 0) (dq (vP 1) (dq (vP 2) (dq (vP 3) dz))))))))))
  (gJ (oO (xU (iR rfl (dq (gO (bO hworth_of hr (dq (vP 0) (dq (vP 2) dz)))) (dq (vP 2) (dq (gO (bO hprices_of hr (dq (vP 0) (dq (vP 1) (dq (vP 2) dz))))) dz)))))))))
theorem yH (D:Dg K mg "_law_cell" (top 61) ["_law_script", "_law_at_here"]) (B:Bl mg):Has P w K mg base (n + 1) "_law_cell" ["_law_script", "_law_at_here"] (spD K h_):=by
 have sc:FnScope ["_law_script", "_law_at_here"] ["_law_script", "_law_at_here"] (aO (top 61)):=fsc
 exact fU (fl:=[.A,.A]) D sc (by decide) (by decide) fun f cdv A outer s H E hr=>aR (g_ (cW oh b_lt (vP 1) (aM (cY bY jc (by rfl) B.len_ PySem.boot_len (dq (vP 0) dz))) (cL _)) (bh (bT (bJ (bH cI eU (bN (dx (vB 0) (vP 1))) iP)))) (dB))
  (aR (g_ (cW (i_ hr.units) oH (vP 0) (aM (eX dz)) (cL _)) (bh (bT (bJ (bH dN f9 (aM (bH iV lR iP (vP 1))) iP)))) (dB))
  (bh (bT (bJ (bH dN f9 (aM (bH cI eU (bN (dx (vB 0) (aM (bH cI eU (aM (bH iV lR (vP 1) iP)) (aM (cY bY jc (by rfl) B.len_ PySem.boot_len (dq (vP 0) dz))))))) iP)) (aM (bH iV lR iP (vP 1))))))))
theorem yI (D:Dg K mg "_law_part" (top 62) ["_law_script", "_law_at_here", "_law_k", "_law_many"]) (B:Bl mg) (h_law_cell:Has P w K mg base n "_law_cell" ["_law_script", "_law_at_here"] (spD K h_)):Has P w K mg base (n + 1) "_law_part" ["_law_script", "_law_at_here", "_law_k", "_law_many"] (spD K ig):=by
 have sc:FnScope ["_law_script", "_law_at_here", "_law_k", "_law_many", "_law_number", "_law_j"] ["_law_script", "_law_at_here", "_law_k", "_law_many"] (aO (top 62)):=fsc
 exact fU (fl:=[.A,.A,.A,.A,.A,.A]) D sc (by decide) (by decide) fun f cdv A outer s H E hr=>aR (g_ (vK (uL (cW oh b_lt (vP 1) (aM (cY bY jc (by rfl) B.len_ PySem.boot_len (dq (vP 0) dz))) (cL _)) (qw (cW Gk Oo (bN (dx (vB 0) (vP 1))) (aM (bH pK uK iP iP)) (cL _))))) (aR (sA (i:=4) sc.nd (dx (vB 0) (vP 1)))
  (aR (oJ (L:=[]) PassesOwn.never rfl (gW (by rfl) B.range_ (oK (dq (vP 2) dz))) (gN' (i:=5) sc.nd) (bh (sA (i:=4) sc.nd (dh (bH Cj M8 (vP 4) iP)))))
  (bh (g_ (cW Cd Kf (vP 4) iP (cL _)) (bh (bT (bJ (bH cI eU (aM (bH cI eU (vP 4) iP)) (vP 3))))) (dB))))) (dB))
  (aR (sA (i:=4) sc.nd (dh (bH cI eU (aM (bH iV lR (aM (bH dN f9 (aM (bH dN f9 (gO (bO h_law_cell hr (dq (vP 0) (dq (vP 1) dz)))) (aM (bH iV lR iP (vP 1))))) iP)) (aM (bH dN f9 iP (aM (bH iV lR iP (vP 2))))))) iP)))
  (aR (sA (i:=4) sc.nd (dh (bH dN f9 (aM (bH cI eU (aM (bH iV lR (vP 4) (vP 4))) iP)) iP)))
  (bh (bT (bJ (bH cI eU (aM (bH Cj M8 (aM (bH cI eU (aM (bH iV lR (vP 4) (vP 4))) iP)) iP)) (vP 3)))))))
theorem zY (D:Dg K mg "_law_row" (top 63) ["_law_script", "_law_at_here", "_law_many"]) (B:Bl mg) (h_law_part:Has P w K mg base n "_law_part" ["_law_script", "_law_at_here", "_law_k", "_law_many"] (spD K ig)):Has P w K mg base (n + 1) "_law_row" ["_law_script", "_law_at_here", "_law_many"] (spD K dj):=by
 have sc:FnScope ["_law_script", "_law_at_here", "_law_many"] ["_law_script", "_law_at_here", "_law_many"] (aO (top 63)):=fsc
 exact fU (fl:=[.A,.A,.A]) D sc (by decide) (by decide) fun f cdv A outer s H E hr=>bh (bT (bJ (fH (L:=[]) (fl':=[.A,.A,.A]) rfl ["_law_k"] ["_law_script", "_law_at_here"] [0,1] (gW (by rfl) B.range_ (oK (dq (vP 2) dz))) (fun _ _ _ _ _=>gN' (i:=0) (show (["_law_k", "_law_script", "_law_at_here"]:List Str).Nodup by decide +kernel)) (fun _ _ _ _ _=>fW) (fun _ _ _ _ _=>bO h_law_part hr (dq (vP 1) (dq (vP 2) (dq (vP 0) (dq (aM (bH pK uK iP iP)) dz))))))))
theorem vR (D:Dg K mg "_law_whole" (top 64) ["_law_thing"]) (B:Bl mg):Has P w K mg base (n + 1) "_law_whole" ["_law_thing"] (spD K dF):=by
 have sc:FnScope ["_law_thing"] ["_law_thing"] (aO (top 64)):=fsc
 exact fU (fl:=[.A]) D sc (by decide) (by decide) fun f cdv A outer s H E hr=>bh (bT (bJ (j6 (aM (nC (T := "int") (by decide) (vP 0) (by rfl) B.isinstance_ (by rfl) B.int_ PyProof.Rows.boot_int)) (nA (Ar (aM (nC (T := "bool") (by decide) (vP 0) (by rfl) B.isinstance_ (by rfl) B.bool_ PyProof.Rows.boot_bool)))))))
theorem vq (D:Dg K mg "_law_whole" (top 64) ["_law_thing"]) (B:Bl mg):HasQ P w K mg base (n + 1) "_law_whole" ["_law_thing"] (spD K dF):=by
 have sc:FnScope ["_law_thing"] ["_law_thing"] (aO (top 64)):=fsc
 exact O_ (fl:=[.A]) D sc (by decide) (by decide) fun f cdv A outer s H E hr=>bh (bT (bJ (j6 (aM (nC (T := "int") (by decide) (vP 0) (by rfl) B.isinstance_ (by rfl) B.int_ PyProof.Rows.boot_int)) (nA (Ar (aM (nC (T := "bool") (by decide) (vP 0) (by rfl) B.isinstance_ (by rfl) B.bool_ PyProof.Rows.boot_bool)))))))
theorem yJ (D:Dg K mg "_law_free" (top 65) ["_law_script", "_law_nights"]) (B:Bl mg) (h_law_row:Has P w K mg base n "_law_row" ["_law_script", "_law_at_here", "_law_many"] (spD K dj)):Has P w K mg base (n + 1) "_law_free" ["_law_script", "_law_nights"] (spD K iw):=by
 have sc:FnScope ["_law_script", "_law_nights", "_law_xs", "_law_ys", "_law_way", "_law_cut"] ["_law_script", "_law_nights"] (aO (top 65)):=fsc
 exact fU (fl:=[.A,.A,.A,.A,.A,.A]) D sc (by decide) (by decide) fun f cdv A outer s H E hr=>aR (sA (i:=2) sc.nd (oF (bO h_law_row hr (dq (vP 0) (dq iP (dq iP dz))))))
  (aR (sA (i:=3) sc.nd (oF (bO h_law_row hr (dq (vP 0) (dq iP (dq (vP 1) dz))))))
  (aR (sA (i:=4) sc.nd (dh (bH cI eU (bN (dx (vB 2) iP)) iP)))
  (aR (g_ (cW (i_ hr.units) oH (vP 4) iP (cL _)) (bh (bT (bJ (Ak (rO (mz (eX (dq (dw (bH dN f9 iP (aM (bH cI eU (bN (dx (vB 2) iP)) iP)))) dz))) (vP 1)))))) (dB))
  (aR (g_ (cW (i_ hr.units) oH (vP 4) iP (cL _)) (bh (bT (bJ (fH (L:=[]) (fl':=[.A,.A]) rfl ["_law_k"] ["_law_ys"] [3] (gW (by rfl) B.range_ (oK (dq (vP 1) dz))) (fun _ _ _ _ _=>gN' (i:=0) (show (["_law_k", "_law_ys"]:List Str).Nodup by decide +kernel)) (fun _ _ _ _ _=>fW) (fun _ _ _ _ _=>dw (bH cI eU (bN (dx (vB 1) (vP 0))) iP)))))) (dB))
  (aR (g_ (cW (i_ hr.units) oH (vP 4) iP (cL _)) (bh (bT (bJ (fH (L:=[]) (fl':=[.A,.A]) rfl ["_law_k"] ["_law_ys"] [3] (gW (by rfl) B.range_ (oK (dq (vP 1) dz))) (fun _ _ _ _ _=>gN' (i:=0) (show (["_law_k", "_law_ys"]:List Str).Nodup by decide +kernel)) (fun _ _ _ _ _=>fW) (fun _ _ _ _ _=>dw (cX (bN (dx (j_ (dh (eX (dq iC (dq iC (dq iC (dq iC (dq iC (dq iC dz))))))))) (aM (bH cI eU (bN (dx (vB 1) (vP 0))) iP)))))))))) (dB))
  (aR (sA (i:=5) sc.nd (dh (bH cI eU (bN (dx (vB 2) iP)) (aM (bH dN f9 (vP 1) iP)))))
  (bh (bT (bJ (Ak (uM (j_ (mL (rO (mz (eX (dq (dw (bH cI eU (bN (dx (vB 2) iP)) iP)) dz))) (vP 5)))) (j_ (mL (rO (mz (eX (dq (dw (bH cI eU (bN (dx (vB 2) iP)) iP)) dz))) (aM (bH pJ uJ (vP 1) (vP 5)))))))))))))))))
theorem vC (D:Dg K mg "_law_wishes" (top 66) ["_law_script", "_law_nights", "_law_many"]) (B:Bl mg) (h_law_row:Has P w K mg base n "_law_row" ["_law_script", "_law_at_here", "_law_many"] (spD K dj)):Has P w K mg base (n + 1) "_law_wishes" ["_law_script", "_law_nights", "_law_many"] (spD K gb):=by
 have sc:FnScope ["_law_script", "_law_nights", "_law_many", "_law_wishes_here", "_law_k", "_law_xs", "_law_first", "_law_behind", "_law_some"] ["_law_script", "_law_nights", "_law_many"] (aO (top 66)):=fsc
 exact fU (fl:=[.A,.A,.A,.O,.A,.A,.A,.A,.A]) D sc (by decide) (by decide) fun f cdv A outer s H E hr=>aR (nj (i:=3) rfl sc.nd rfl (by first | exact Or.inl rfl | exact Or.inr rfl) (mz (eX dz)))
  (aR (oJ (L:=[]) PassesOwn.never rfl (gW (by rfl) B.range_ (oK (dq (vP 2) dz))) (gN' (i:=4) sc.nd) (aR (sA (i:=5) sc.nd (oF (bO h_law_row hr (dq (vP 0) (dq (aM (bH dN f9 iP (vP 4))) (dq iP dz))))))
  (aR (sA (i:=6) sc.nd (dh (bH cI eU (bN (dx (vB 5) iP)) (vP 1))))
  (aR (sA (i:=7) sc.nd (dh (cY (Dw rfl) Ov (by rfl) B.min_ PyProof.Rows.boot_min (dq (vP 1) (dq (aM (bH dN f9 (aM (bH dN f9 (vP 6) iP)) (aM (bH cI eU (bN (dx (vB 5) iP)) (bN (dx (j_ (mL (Cr (dq (dh (rH)) (dq (vA 1) dz))))) (aM (bH cI eU (bN (dx (vB 5) iP)) iP)))))))) dz)))))
  (aR (sA (i:=8) sc.nd (dh (eX (dq (dw (bH cI eU (bN (dx (vB 5) iP)) iP)) (dq (dw (bH iV lR iP (aM (bH pJ uJ (vP 7) (vP 6))))) (dq (dw (bH cI eU (aM (bH dN f9 (aM (bH iV lR (bN (dx (vB 5) iP)) (aM (bH pK uK iP iP)))) (bN (dx (vB 5) iP)))) (aM (bH dN f9 (aM (bH pK uK iP iP)) iP)))) dz))))))
  (aR (sA (i:=8) sc.nd (mL (uM (vB 8) (j_ (dh (eX (dq (dw (bH pK uK iP iP)) (dq (dw (bH dN f9 iP (aM (bH cI eU (bN (dx (vB 5) iP)) iP)))) dz))))))))
  (bh (g_ (vK (uL (cW (i_ hr.units) oH (aM (bH cI eU (bN (dx (vB 5) iP)) iP)) iP (cL _)) (qw (cW (mj hr.units) vJ (qu (j4 3)) (aM (eX dz)) (cL _))))) (bh (o7 (i:=3) rfl (dx (j4 3) (aM (bH cI eU (bN (dx (vB 5) iP)) (aM (cY bY jc (by rfl) B.len_ PySem.boot_len (dq (qu (j4 3)) dz)))))) rfl)) (bh (o7 (i:=3) rfl (iR rfl (dq (vA 6) (dq (vA 7) (dq (dx (vB 8) (aM (bH cI eU (bN (dx (vB 5) iP)) iP))) dz)))) rfl))))))))))
  (bh (bT (qt 3 (by decide)))))
theorem vD (D:Dg K mg "_law_spoilt" (top 67) ["_law_wish", "_law_nights", "_law_xs"]) (B:Bl mg):Has P w K mg base (n + 1) "_law_spoilt" ["_law_wish", "_law_nights", "_law_xs"] (spD K iQ):=by
 have sc:FnScope ["_law_wish", "_law_nights", "_law_xs", "_law_first", "_law_behind", "_law_worth", "_law_far", "_law_way"] ["_law_wish", "_law_nights", "_law_xs"] (aO (top 67)):=fsc
 exact fU (fl:=[.A,.A,.A,.A,.A,.A,.A,.A]) D sc (by decide) (by decide) fun f cdv A outer s H E hr=>aR (Oq (vA 0) (jJ rfl (cJ (gN' (i:=3) sc.nd) (cJ (gN' (i:=4) sc.nd) (cJ (gN' (i:=5) sc.nd) (iW))))))
  (aR (sA (i:=6) sc.nd (dh (bH iV lR (aM (bH cI eU (bN (dx (vB 2) iP)) iP)) (aM (bH cI eU (bN (dx (vB 2) iP)) (aM (bH pK uK iP iP)))))))
  (aR (sA (i:=7) sc.nd (dh (bH cI eU (bN (dx (vB 2) iP)) iP)))
  (aR (g_ (cW (i_ hr.units) oH (vP 7) iP (cL _)) (bh (bT (iR rfl (dq (bJ (bH pJ uJ (aM (nD iP)) (vP 6))) (dq (bJ (cX (vP 4))) (dq (bJ (cX (vP 5))) dz)))))) (dB))
  (aR (g_ (cW (i_ hr.units) oH (vP 7) iP (cL _)) (bh (bT (iR rfl (dq (bJ (cX (vP 3))) (dq (bJ (cX (vP 3))) (dq (bJ (cX (vP 5))) dz)))))) (dB))
  (aR (g_ (cW (i_ hr.units) oH (vP 7) iP (cL _)) (bh (bT (iR rfl (dq (bJ (cX (vP 4))) (dq (bJ (cX (vP 3))) (dq (bJ (cX (vP 5))) dz)))))) (dB))
  (aR (g_ (cW (i_ hr.units) oH (vP 7) iP (cL _)) (bh (bT (iR rfl (dq (bJ (cX (vP 3))) (dq (bJ (bH dN f9 (aM (bH dN f9 (vP 1) iP)) (vP 6))) (dq (bJ (cX (vP 5))) dz)))))) (dB))
  (aR (g_ (cW (i_ hr.units) oH (vP 7) iP (cL _)) (bh (bT (iR rfl (dq (bJ (cX (vP 3))) (dq (bJ (cX (vP 4))) (dq (bJ (bH pJ uJ (aM (nD iP)) (vP 6))) dz)))))) (dB))
  (bh (bT (iR rfl (dq (bJ (cX (vP 3))) (dq (bJ (cX (vP 4))) (dq (bJ (bH dN f9 (aM (bH dN f9 (aM (bH pK uK iP iP)) iP)) (vP 6))) dz)))))))))))))
theorem yK (D:Dg K mg "_law_ask" (top 68) ["_law_which", "_law_wishes_here", "_law_free_here"]) (B:Bl mg) (xbest:HasX P w K mg base fld (n + 2) "best" ["wishes", "free"] (spX K mg vg) []) (xbound_by:HasX P w K mg base fld (n + 2) "bound_by" ["wishes", "free", "prices"] (spX K mg lD) []) (xby_turns:HasX P w K mg base fld (n + 2) "by_turns" ["wishes", "free"] (spX K mg lE) []) (xis_best:HasX P w K mg base fld (n + 2) "is_best" ["wishes", "free", "choice", "prices"] (spX K mg mV) []) (xis_choice:HasX P w K mg base fld (n + 2) "is_choice" ["wishes", "free", "thing"] (spX K mg gM) []):HasX P w K mg base fld (n + 3) "_law_ask" ["_law_which", "_law_wishes_here", "_law_free_here"] (spX K mg lF) []:=by
 have sc:FnScope ["_law_which", "_law_wishes_here", "_law_free_here"] ["_law_which", "_law_wishes_here", "_law_free_here"] (aO (top 68)):=fsc
 exact pP (fl:=[.A,.A,.A]) D sc (by decide) (by decide) fun f cdv A outer s H E hr=>gJ (zj (cW (i_ hr.units) oH (vP 0) iP (cL _)) (gJ (jK (dd:=[]) xbest (fun H=>.nil) hr (dq (vP 1) (dq (vP 2) dz)))) (gJ (zj (cW (i_ hr.units) oH (vP 0) iP (cL _)) (gJ (jK (dd:=[]) xis_choice (fun H=>.nil) hr (dq (vP 1) (dq (vP 2) (dq (aM (eX (dq iC dz))) dz))))) (gJ (zj (cW (i_ hr.units) oH (vP 0) iP (cL _)) (gJ (jK (dd:=[]) xis_best (fun H=>.nil) hr (dq (vP 1) (dq (vP 2) (dq (aM (rJ)) (dq (aM (rJ)) dz)))))) (gJ (zj (cW (i_ hr.units) oH (vP 0) iP (cL _)) (gJ (jK (dd:=[]) xbound_by (fun H=>.nil) hr (dq (vP 1) (dq (vP 2) (dq (aM (eX dz)) dz))))) (gJ (jK (dd:=[]) xby_turns (fun H=>.nil) hr (dq (vP 1) (dq (vP 2) dz)))))))))))
theorem mW (D:Dg K mg "_law_strange" (top 69) ["_law_e"]) (B:Bl mg) (sNoWish:SuiU K mg fld "NoWish" "at" "InnError" [("Full", false),("InHouse", false),("NoBook", false),("NoChance", false),("NoExchange", false),("NoGuest", false),("NoKind", false),("NoName", false),("NoNumber", false),("NoRoom", false),("NoRow", false),("NoStay", false),("NoStretch", false),("NoText", false),("NoWish", true),("NotTaken", false),("NotTonight", false),("Stands", false),("Taken", false),("TooFull", false),("TooMany", false)]) (vValueError:mg "ValueError" = none):HasE P w K mg base (n + 1) "_law_strange" "NoWish" false:=by
 have sc:FnScope ["_law_e", "_law_some"] ["_law_e"] (aO (top 69)):=fsc
 obtain ⟨C,_,Ex,_⟩:=sNoWish.ex
 refine Px (fl:=[.A,.O]) (fs:=bF (bx 1 (gC (aA (dC (.bool false)) (aP)))) (bF (pq 1 (dC (.bool false))) (cP (dOr (dOp gIn (dC (.bool true)) (ao 1)) (dOr (dC (.bool false)) (Ag (dC (.bool true)))))))) D sc Ex.mgC rfl (by rfl) fun f cdv A outer s H E a oa xd od hoa hod hnc hr=>?_
 have S:=PB (X:=cxQ P w K mg base ["_law_e", "_law_some"] "_law_strange" (aO (top 69)) f cdv A outer s H E) (a:=a) (dx:=xd) (od:=od) (i:=0) sNoWish Ex.mgC hoa hod hnc B.isinstance_ rfl
 exact uV (K9 (j:=1) (show (0:Nat) ≠ 1 by decide) rfl sc.nd rfl (by first | exact Or.inl rfl | exact Or.inr rfl) (Ph (Pk (K1 rfl (Az (CN (z:=⟨_,a,.non,.none⟩) (S.is _ ["Full", "InHouse", "NoBook", "NoChance", "NoExchange", "NoGuest", "NoKind", "NoName", "NoNumber", "NoRoom"] _ (by repeat (first | exact trivial | refine ⟨rfl,?_⟩)) (by repeat (first | exact gU _ | refine gD.mpr ⟨⟨_,(by first | exact aJ | decide),rfl,rfl,by decide⟩,?_⟩)) (by decide) _ _ _ _))) (Pj))))) (uV (Eo (j:=1) rfl (Hz (CN (z:=⟨_,a,.non,.none⟩) (S.is _ ["NoRow", "NoStay", "NoStretch", "NoText", "NotTaken", "NotTonight", "Stands", "Taken"] _ (by repeat (first | exact trivial | refine ⟨rfl,?_⟩)) (by repeat (first | exact gU _ | refine gD.mpr ⟨⟨_,(by first | exact aJ | decide),rfl,rfl,by decide⟩,?_⟩)) (by decide) _ _ _ _))) rfl) (xW (HD (Pg (Ng (Nb (mC (uR hr.units) G7 (aM (nM)) (qu (j4 1)) (by with_unfolding_all rfl))) (Ng (CN (z:=⟨_,a,.non,.none⟩) (S.is _ ["TooFull", "TooMany"] _ (by repeat (first | exact trivial | refine ⟨rfl,?_⟩)) (by repeat (first | exact gU _ | refine gD.mpr ⟨⟨_,(by first | exact aJ | decide),rfl,rfl,by decide⟩,?_⟩)) (by decide) _ _ _ _)) (Py (Pz (CN (z:=⟨_,a,.non,.none⟩) (S.isv vValueError rfl _ _ _ _))))))))))
theorem BL (D:Dg K mg "_law_at" (top 70) ["_law_which", "_law_wishes_here", "_law_free_here"]) (B:Bl mg) (h_law_whole:Has P w K mg base n "_law_whole" ["_law_thing"] (spD K dF)) (x_law_ask:HasX P w K mg base fld n "_law_ask" ["_law_which", "_law_wishes_here", "_law_free_here"] (spX K mg lF) []) (sNoWish:SuiU K mg fld "NoWish" "at" "InnError" [("Full", false),("InHouse", false),("NoBook", false),("NoChance", false),("NoExchange", false),("NoGuest", false),("NoKind", false),("NoName", false),("NoNumber", false),("NoRoom", false),("NoRow", false),("NoStay", false),("NoStretch", false),("NoText", false),("NoWish", true),("NotTaken", false),("NotTonight", false),("Stands", false),("Taken", false),("TooFull", false),("TooMany", false)]) (q_law_whole:HasQ P w K mg base n "_law_whole" ["_law_thing"] (spD K dF)) (e_law_strange_NoWish:HasE P w K mg base n "_law_strange" "NoWish" false):Has P w K mg base (n + 1) "_law_at" ["_law_which", "_law_wishes_here", "_law_free_here"] (spD K cM):=by
 have sc:FnScope ["_law_which", "_law_wishes_here", "_law_free_here", "_law_handed", "_law_found", "_law_e"] ["_law_which", "_law_wishes_here", "_law_free_here"] (aO (top 70)):=fsc
 exact fU (fl:=[.A,.A,.A,.A,.A,.A]) D sc (by decide) (by decide) fun f cdv A outer s H E hr=>aR (sA (i:=3) sc.nd (iR rfl (dq (mL (tO (vB 1) (by rfl) B.list_)) (dq (mL (tO (vB 2) (by rfl) B.list_)) dz))))
  (aR (sA (i:=4) sc.nd (dh (nD iP)))
  (aR (K6 (i:=5) (cs:=["NoWish"]) (fS:=fun c d=>if c = "NoWish" then bF (sIf (D3.tOr (bf (dC (.bool false))) (D3.tOr (D3.jN (fun _=>some true)) (D3.jN (bf (fun _=>dF [d]))))) (cP (dUn jR (dC (.int 2)))) (eH)) (bx 4 (dC d)) else (fun _=>none)) (Hy (dd:=[]) x_law_ask (fun H=>.nil) hr (dq (vP 0) (dq (bN (dx (vB 3) iP)) (dq (bN (dx (vB 3) iP)) dz)))) (gD.mpr ⟨El (i:=5) (g:=fun d=>bF (sIf (D3.tOr (bf (dC (.bool false))) (D3.tOr (D3.jN (fun _=>some true)) (D3.jN (bf (fun _=>dF [d]))))) (cP (dUn jR (dC (.int 2)))) (eH)) (bx 4 (dC d))) true sNoWish B.isinstance_ rfl (fun d=>by rw [if_pos rfl]) (fun a oa xd od v d C hc hoa hod hnc S hfd=>uV (Sd (Vc (Nf (Pn (HX e_law_strange_NoWish hc hoa hod hnc hr rfl)) (Nf (HB (R_ (z:=⟨_,a,v,d⟩) (S.is ("NoWish", true) (by decide) rfl (by decide) _ _ _ _))) (Pq (HB (K3 (HN S q_law_whole hr))))))) (xW (HD (Nb (bJ (nD iP))))) (K4)) (xW (K5 (j:=4) (show (5:Nat) ≠ 4 by decide) rfl sc.nd rfl (by first | exact Or.inl rfl | exact Or.inr rfl) (Hz (Pu S))))),gU _⟩) rfl rfl sc.nd rfl)
  (aR (g_ (cW (mj hr.units) vJ (vP 3) (bN (iR rfl (dq (vA 1) (dq (vA 2) dz)))) (cL _)) (bh (bT (bJ (nD iP)))) (dB))
  (bh (bT (bJ (cX (vP 4))))))))
theorem Q9 {f:Addr} {fd:FuncData} (Fn:FunD K "law" (top 71) f fd) (B:Bl mg) (hworth_of:Has P w K mg base n "worth_of" ["wishes", "choice"] (spD K gq)) (h_law_row:Has P w K mg base n "_law_row" ["_law_script", "_law_at_here", "_law_many"] (spD K dj)) (h_law_free:Has P w K mg base n "_law_free" ["_law_script", "_law_nights"] (spD K iw)) (h_law_wishes:Has P w K mg base n "_law_wishes" ["_law_script", "_law_nights", "_law_many"] (spD K gb)) (h_law_spoilt:Has P w K mg base n "_law_spoilt" ["_law_wish", "_law_nights", "_law_xs"] (spD K iQ)) (h_law_at:Has P w K mg base n "_law_at" ["_law_which", "_law_wishes_here", "_law_free_here"] (spD K cM)):FnOk P w K mg base CX0 (n + 1) f fd ["_law_script"] (spD K Jp):=by
 have sc:FnScope ["_law_script", "_law_xs", "_law_free_here", "_law_good", "_law_nights", "_law_wrong", "_law_places", "_law_k", "_law_due", "_law_turn", "_law_which"] ["_law_script"] (aO (top 71)):=fsc
 exact GP (fl:=[.A,.A,.A,.A,.A,.O,.A,.A,.A,.A,.A]) Fn sc (by decide) (by decide) fun f cdv A outer s H E hr=>aR (sA (i:=1) sc.nd (oF (bO h_law_row hr (dq (vP 0) (dq iP (dq iP dz))))))
  (aR (sA (i:=2) sc.nd (oF (bO h_law_free hr (dq (vP 0) (dq (aM (bH dN f9 iP (aM (bH cI eU (bN (dx (vB 1) iP)) iP)))) dz)))))
  (aR (sA (i:=3) sc.nd (oF (bO h_law_wishes hr (dq (vP 0) (dq (aM (cY bY jc (by rfl) B.len_ PySem.boot_len (dq (vP 2) dz))) (dq (aM (bH dN f9 iP (aM (bH cI eU (bN (dx (vB 1) iP)) iP)))) dz))))))
  (aR (sA (i:=4) sc.nd (vA 2))
  (aR (g_ (cW (i_ hr.units) oH (aM (bH cI eU (bN (dx (vB 1) iP)) iP)) iP (cL _)) (bh (sA (i:=4) sc.nd (dh (eX dz)))) (dB))
  (aR (nj (i:=5) rfl sc.nd rfl (by first | exact Or.inl rfl | exact Or.inr rfl) (tO (vB 3) (by rfl) B.list_))
  (aR (sA (i:=6) sc.nd (mL (Cu (j_ (dh (eX (dq (dw (bH cI eU (bN (dx (vB 1) iP)) (aM (cY bY jc (by rfl) B.len_ PySem.boot_len (dq (vP 3) dz))))) (dq (dw (bH cI eU (bN (dx (vB 1) iP)) (aM (cY bY jc (by rfl) B.len_ PySem.boot_len (dq (vP 3) dz))))) dz))))) tQ (tR (aM (bH dN f9 iP (aM (bH cI eU (bN (dx (vB 1) iP)) iP))))))))
  (aR (oJ (L:=[]) PassesOwn.never rfl (gW (by rfl) B.range_ (oK (dq (aM (cY bY jc (by rfl) B.len_ PySem.boot_len (dq (vP 6) dz))) dz))) (gN' (i:=7) sc.nd) (bh (xM (i:=5) rfl (oF (bO h_law_spoilt hr (dq (bN (dx (vB 3) (bN (dx (vB 6) (vP 7))))) (dq (aM (cY bY jc (by rfl) B.len_ PySem.boot_len (dq (vP 2) dz))) (dq (Gy (Cu (vB 1) (tR (aM (bH dN f9 iP (aM (bH iV lR iP (vP 7)))))) tQ)) dz))))) (bN (dx (vB 6) (vP 7))) rfl)))
  (aR (g_ (cW (mj hr.units) vJ (gO (bO hworth_of hr (dq (qu (j4 5)) (dq (aM (G6 (dq (aM (cY bY jc (by rfl) B.len_ PySem.boot_len (dq (qu (j4 5)) dz))) dz) rfl (by rfl) B.list_ (by rfl) B.range_)) dz)))) (aM (cY (mQ rfl) uP (by rfl) B.sum_ PyProof.Rows.boot_sum (dq (aM (fH (L:=[5]) (fl':=[.A]) rfl ["_law_wish"] [] [] (jj (j4 5)) (fun _ _ _ _ _=>gN' (i:=0) (show (["_law_wish"]:List Str).Nodup by decide +kernel)) (fun _ _ _ _ _=>fW) (fun _ _ _ _ _=>dw (cX (bN (dx (vB 0) iP)))))) dz))) (cL _)) (bh (bT (bJ (nM)))) (dB))
  (aR (sA (i:=8) sc.nd (dh (bH iV lR (aM (cY (wC rfl) GZ (by rfl) B.min_ PyProof.Rows.boot_min (dq (vP 6) dz))) (aM (Ku (dq (aM (mC (mj hr.units) vJ (vP 4) (aM (eX dz)) (cL _))) dz) (by rfl) B.int_)))))
  (aR (sA (i:=9) sc.nd (dh (bH cI eU (bN (dx (vB 1) iP)) iP)))
  (aR (oJ (L:=[]) PassesOwn.never rfl (gW (by rfl) B.range_ (oK (dq iP dz))) (gN' (i:=7) sc.nd) (aR (sA (i:=10) sc.nd (dh (bH cI eU (aM (bH dN f9 (vP 9) (vP 7))) iP)))
  (aR (g_ (vK (yU (cW (mj hr.units) vJ (gO (bO h_law_at hr (dq (vP 10) (dq (vP 3) (dq (vP 2) dz))))) (aM (nD iP)) (cL _)) (rN (cW (mj hr.units) vJ (gO (bO h_law_at hr (dq (vP 10) (dq (qu (j4 5)) (dq (vP 4) dz))))) (vP 8) (cL _))))) (bh (bT (bJ (nM)))) (dB))
  (bh (g_ (vK (yU (cW (mj hr.units) vJ (gO (bO h_law_at hr (dq (vP 10) (dq (aM (eX dz)) (dq (vP 4) dz))))) (aM (nD iP)) (cL _)) (rN (cW (mj hr.units) vJ (gO (bO h_law_at hr (dq (vP 10) (dq (vP 3) (dq (vP 2) dz))))) (aM (nD iP)) (cL _))))) (bh (bT (bJ (nM)))) (dB))))))
  (bh (bT (bJ (nM)))))))))))))))
end
end K56
namespace D3
theorem len0 {p:List PySem.Value→Prop} (h:p []):∀ us,us.length=0→p us:=fun us hl=>by
 cases us with
 | nil=>exact h
 | cons _ _=>cases hl
theorem cg {n:Nat} {p:List PySem.Value→Prop} (h:∀ a us,us.length=n→p (a :: us)):∀ us,us.length=n + 1→p us:=fun us hl=>by
 cases us with
 | nil=>cases hl
 | cons a r=>exact h a r (Nat.succ.inj hl)
end D3
namespace K56
open PySem L2 My D3
structure Txt (K:PySem.W.Frag) (mg:Str→Option Value):Prop where
 d_is_whole:Dg K mg "is_whole" (top 24) ["thing"]
 d_all_whole:Dg K mg "all_whole" (top 25) ["things"]
 d_is_tuple_of:Dg K mg "is_tuple_of" (top 26) ["thing", "many"]
 d_is_pair:Dg K mg "is_pair" (top 27) ["thing"]
 d_is_whole_list:Dg K mg "is_whole_list" (top 28) ["thing"]
 d_is_rising:Dg K mg "is_rising" (top 29) ["numbers"]
 d_nights_of:Dg K mg "nights_of" (top 31) ["stay"]
 d_holds:Dg K mg "holds" (top 32) ["stretch", "night"]
 d_count_at:Dg K mg "count_at" (top 33) ["stretches", "night"]
 d_is_wish_for:Dg K mg "is_wish_for" (top 36) ["wish", "free"]
 d_check_wishes:Dg K mg "check_wishes" (top 37) ["wishes", "free"]
 d_cost:Dg K mg "cost" (top 38) ["prices", "first", "behind"]
 d_worth_of:Dg K mg "worth_of" (top 39) ["wishes", "choice"]
 d_held_at:Dg K mg "held_at" (top 40) ["wishes", "choice", "night"]
 d_fits:Dg K mg "fits" (top 41) ["wishes", "free", "choice"]
 d_is_place_list:Dg K mg "is_place_list" (top 42) ["wishes", "thing"]
 d_is_choice:Dg K mg "is_choice" (top 43) ["wishes", "free", "thing"]
 d_is_price:Dg K mg "is_price" (top 44) ["free", "thing"]
 d_is_price_list:Dg K mg "is_price_list" (top 45) ["free", "thing"]
 d_gain:Dg K mg "gain" (top 46) ["wish", "prices"]
 d_sold_out:Dg K mg "sold_out" (top 47) ["wishes", "free", "choice", "prices"]
 d_is_best:Dg K mg "is_best" (top 48) ["wishes", "free", "choice", "prices"]
 d_bound_by:Dg K mg "bound_by" (top 49) ["wishes", "free", "prices"]
 d_has_room:Dg K mg "has_room" (top 50) ["wishes", "free", "choice", "wish"]
 d_by_turns:Dg K mg "by_turns" (top 51) ["wishes", "free"]
 d_ways_of_wish:Dg K mg "ways_of_wish" (top 53) ["wish", "place", "choice"]
 d_all_ways:Dg K mg "all_ways" (top 54) ["wishes", "free", "choice"]
 d_cheapest:Dg K mg "cheapest" (top 55) ["costs", "ways"]
 d_places_on_the_way:Dg K mg "places_on_the_way" (top 56) ["came", "start", "goal"]
 d_with_one_more:Dg K mg "with_one_more" (top 57) ["wishes", "free", "choice", "place"]
 d_prices_of:Dg K mg "prices_of" (top 58) ["wishes", "free", "choice"]
 d_best:Dg K mg "best" (top 59) ["wishes", "free"]
 d__law_cell:Dg K mg "_law_cell" (top 61) ["_law_script", "_law_at_here"]
 d__law_part:Dg K mg "_law_part" (top 62) ["_law_script", "_law_at_here", "_law_k", "_law_many"]
 d__law_row:Dg K mg "_law_row" (top 63) ["_law_script", "_law_at_here", "_law_many"]
 d__law_whole:Dg K mg "_law_whole" (top 64) ["_law_thing"]
 d__law_free:Dg K mg "_law_free" (top 65) ["_law_script", "_law_nights"]
 d__law_wishes:Dg K mg "_law_wishes" (top 66) ["_law_script", "_law_nights", "_law_many"]
 d__law_spoilt:Dg K mg "_law_spoilt" (top 67) ["_law_wish", "_law_nights", "_law_xs"]
 d__law_ask:Dg K mg "_law_ask" (top 68) ["_law_which", "_law_wishes_here", "_law_free_here"]
 d__law_strange:Dg K mg "_law_strange" (top 69) ["_law_e"]
 d__law_at:Dg K mg "_law_at" (top 70) ["_law_which", "_law_wishes_here", "_law_free_here"]
 d_law:Dl K mg "law" "_law_script" (top 71)
 z_NoWish:XC.ExcG K mg (fun _ => "at") "NoWish" "at" "InnError"
 s_NoWish:XC.SuiU K mg (fun _ => "at") "NoWish" "at" "InnError" [("Full", false),("InHouse", false),("NoBook", false),("NoChance", false),("NoExchange", false),("NoGuest", false),("NoKind", false),("NoName", false),("NoNumber", false),("NoRoom", false),("NoRow", false),("NoStay", false),("NoStretch", false),("NoText", false),("NoWish", true),("NotTaken", false),("NotTonight", false),("Stands", false),("Taken", false),("TooFull", false),("TooMany", false)]
 v_ValueError:mg "ValueError" = none
 blt:Bl mg
 c_MOST_WORTH:∃ t,mg "MOST_WORTH" = some (.int 1000000000 t)
theorem Q_ {P:Program} {w:World} {K:PySem.W.Frag} {mg:Str→Option Value} {base:Heap} (T:Txt K mg) {f:Addr} {fd:FuncData} (F:FunD K "law" (top 71) f fd):FnOk P w K mg base CX0 65 f fd ["_law_script"] (GQ K):=by
 have e__law_strange_NoWish:=mW (P:=P) (w:=w) (base:=base) (fld:=(fun _ => "at")) (n:=0) T.d__law_strange T.blt T.s_NoWish T.v_ValueError
 have h_is_whole:=zO (P:=P) (w:=w) (base:=base) (n:=0) T.d_is_whole T.blt
 have h_is_rising:=yC (P:=P) (w:=w) (base:=base) (n:=0) T.d_is_rising T.blt
 have h_nights_of:=yD (P:=P) (w:=w) (base:=base) (n:=0) T.d_nights_of T.blt
 have h_holds:=Jx (P:=P) (w:=w) (base:=base) (n:=0) T.d_holds T.blt
 have h_is_wish_for:=vp (P:=P) (w:=w) (base:=base) (n:=0) T.d_is_wish_for T.blt T.c_MOST_WORTH
 have h_cost:=Mz (P:=P) (w:=w) (base:=base) (n:=0) T.d_cost T.blt
 have h_worth_of:=zQ (P:=P) (w:=w) (base:=base) (n:=0) T.d_worth_of T.blt
 have h_ways_of_wish:=tK (P:=P) (w:=w) (base:=base) (n:=0) T.d_ways_of_wish T.blt
 have h_cheapest:=zX (P:=P) (w:=w) (base:=base) (n:=0) T.d_cheapest T.blt
 have h_places_on_the_way:=oU (P:=P) (w:=w) (base:=base) (n:=0) T.d_places_on_the_way T.blt
 have h__law_cell:=yH (P:=P) (w:=w) (base:=base) (n:=0) T.d__law_cell T.blt
 have h__law_whole:=vR (P:=P) (w:=w) (base:=base) (n:=0) T.d__law_whole T.blt
 have h__law_spoilt:=vD (P:=P) (w:=w) (base:=base) (n:=0) T.d__law_spoilt T.blt
 have h_all_whole:=yx (P:=P) (w:=w) (base:=base) (n:=1) T.d_all_whole T.blt (h_is_whole.mono (by decide))
 have h_count_at:=zP (P:=P) (w:=w) (base:=base) (n:=1) T.d_count_at T.blt (h_holds.mono (by decide))
 have h_gain:=MJ (P:=P) (w:=w) (base:=base) (n:=1) T.d_gain T.blt (h_cost.mono (by decide))
 have h__law_part:=yI (P:=P) (w:=w) (base:=base) (n:=1) T.d__law_part T.blt (h__law_cell.mono (by decide))
 have h_is_tuple_of:=vo (P:=P) (w:=w) (base:=base) (n:=2) T.d_is_tuple_of T.blt (h_all_whole.mono (by decide))
 have h_is_whole_list:=sG (P:=P) (w:=w) (base:=base) (n:=2) T.d_is_whole_list T.blt (h_all_whole.mono (by decide))
 have x_check_wishes:=sH (P:=P) (w:=w) (base:=base) (fld:=(fun _ => "at")) (n:=0) T.d_check_wishes T.blt (h_is_wish_for.mono (by decide)) T.z_NoWish
 have h_held_at:=BK (P:=P) (w:=w) (base:=base) (n:=2) T.d_held_at T.blt (h_nights_of.mono (by decide)) (h_count_at.mono (by decide))
 have h__law_row:=zY (P:=P) (w:=w) (base:=base) (n:=2) T.d__law_row T.blt (h__law_part.mono (by decide))
 have h_is_pair:=BJ (P:=P) (w:=w) (base:=base) (n:=3) T.d_is_pair T.blt (h_is_tuple_of.mono (by decide))
 have h_fits:=MF (P:=P) (w:=w) (base:=base) (n:=3) T.d_fits T.blt (h_held_at.mono (by decide))
 have h_is_place_list:=sI (P:=P) (w:=w) (base:=base) (n:=3) T.d_is_place_list T.blt (h_is_whole_list.mono (by decide)) (h_is_rising.mono (by decide))
 have h_sold_out:=zT (P:=P) (w:=w) (base:=base) (n:=3) T.d_sold_out T.blt (h_held_at.mono (by decide))
 have x_bound_by:=yE (P:=P) (w:=w) (base:=base) (fld:=(fun _ => "at")) (n:=1) T.d_bound_by T.blt (h_gain.mono (by decide)) (x_check_wishes.mono (by decide))
 have h_has_room:=zV (P:=P) (w:=w) (base:=base) (n:=3) T.d_has_room T.blt (h_nights_of.mono (by decide)) (h_holds.mono (by decide)) (h_held_at.mono (by decide))
 have h_all_ways:=zW (P:=P) (w:=w) (base:=base) (n:=3) T.d_all_ways T.blt (h_held_at.mono (by decide)) (h_ways_of_wish.mono (by decide))
 have h__law_free:=yJ (P:=P) (w:=w) (base:=base) (n:=3) T.d__law_free T.blt (h__law_row.mono (by decide))
 have h__law_wishes:=vC (P:=P) (w:=w) (base:=base) (n:=3) T.d__law_wishes T.blt (h__law_row.mono (by decide))
 have x_is_choice:=vQ (P:=P) (w:=w) (base:=base) (fld:=(fun _ => "at")) (n:=2) T.d_is_choice T.blt (h_fits.mono (by decide)) (h_is_place_list.mono (by decide)) (x_check_wishes.mono (by decide))
 have h_is_price:=zR (P:=P) (w:=w) (base:=base) (n:=4) T.d_is_price T.blt (h_is_pair.mono (by decide))
 have x_by_turns:=yF (P:=P) (w:=w) (base:=base) (fld:=(fun _ => "at")) (n:=2) T.d_by_turns T.blt (h_has_room.mono (by decide)) (x_check_wishes.mono (by decide))
 have h_with_one_more:=sO (P:=P) (w:=w) (base:=base) (n:=4) T.d_with_one_more T.blt (h_all_ways.mono (by decide)) (h_cheapest.mono (by decide)) (h_places_on_the_way.mono (by decide))
 have h_prices_of:=yG (P:=P) (w:=w) (base:=base) (n:=4) T.d_prices_of T.blt (h_all_ways.mono (by decide)) (h_cheapest.mono (by decide))
 have h_is_price_list:=sJ (P:=P) (w:=w) (base:=base) (n:=5) T.d_is_price_list T.blt (h_is_rising.mono (by decide)) (h_is_price.mono (by decide))
 have x_best:=Jy (P:=P) (w:=w) (base:=base) (fld:=(fun _ => "at")) (n:=3) T.d_best T.blt (h_worth_of.mono (by decide)) (h_with_one_more.mono (by decide)) (h_prices_of.mono (by decide)) (x_check_wishes.mono (by decide))
 have x_is_best:=zU (P:=P) (w:=w) (base:=base) (fld:=(fun _ => "at")) (n:=4) T.d_is_best T.blt (h_is_price_list.mono (by decide)) (h_gain.mono (by decide)) (h_sold_out.mono (by decide)) (x_is_choice.mono (by decide))
 have x__law_ask:=yK (P:=P) (w:=w) (base:=base) (fld:=(fun _ => "at")) (n:=5) T.d__law_ask T.blt (x_best.mono (by decide)) (x_bound_by.mono (by decide)) (x_by_turns.mono (by decide)) (x_is_best.mono (by decide)) (x_is_choice.mono (by decide))
 have h__law_at:=BL (P:=P) (w:=w) (base:=base) (n:=8) T.d__law_at T.blt (h__law_whole.mono (by decide)) (x__law_ask.mono (by decide)) T.s_NoWish (vq (P:=P) (w:=w) (base:=base) (n:=7) T.d__law_whole T.blt) (e__law_strange_NoWish.mono (by decide))
 exact ((Q9 (P:=P) (w:=w) (base:=base) (n:=9) F T.blt (h_worth_of.mono (by decide)) (h__law_row.mono (by decide)) (h__law_free.mono (by decide)) (h__law_wishes.mono (by decide)) (h__law_spoilt.mono (by decide)) (h__law_at.mono (by decide))).mono (by decide)).imp (Ks K56.Jw)
end K56
def PySem.W.Fast.tw11320148881536699262:=0
def PySem.W.Fast.tw16035066436326275992:=0
def PySem.W.Fast.tw6444946187932602940:=0
def PySem.W.Fast.tw13819976205778312734:=0
def PySem.W.Fast.tw10981593151771097613:=0
def PySem.W.Fast.tw7549926221037854699:=0
def PySem.W.Fast.tw6364746287539401621:=0
def PySem.W.Fast.tw5757579268131519330:=0
def PySem.W.Fast.tw5709200245695143192:=0
def PySem.W.Fast.tw16521950142812177944:=0
def PySem.W.Fast.tw17379684525642655238:=0
def PySem.W.Fast.tw10268319268399958974:=0
def PySem.W.Fast.tw14165094130856821335:=0
def PySem.W.Fast.tw12506831947580799193:=0
def PySem.W.Fast.tw7305488857886280392:=0
def PySem.W.Fast.tw2251700963473719908:=0
def PySem.W.Fast.tw14250497485766582810:=0
def PySem.W.Fast.tw5236895278544919059:=0
def PySem.W.Fast.tw15289885420911047970:=0
def PySem.W.Fast.tw3533413907106532375:=0
def PySem.W.Fast.tw16855233006483325063:=0
def PySem.W.Fast.tw6257015631088217053:=0
def PySem.W.Fast.tw5311671944737682406:=0
def PySem.W.Fast.tw9404243809640653773:=0
def PySem.W.Fast.tw1679313929685475040:=0
def PySem.W.Fast.tw17119553391923020958:=0
def PySem.W.Fast.tw3989237436914829468:=0
def PySem.W.Fast.tw13976677432153165584:=0
def PySem.W.Fast.tw14025287818380827006:=0
def PySem.W.Fast.tw10533469191346196121:=0
def PySem.W.Fast.tw1581815943681901826:=0
def PySem.W.Fast.tw17484893221078853860:=0
def PySem.W.Fast.tw6429325914884581057:=0
def PySem.W.Fast.tw16411867361042914194:=0
open PySem PySem.W PyProof.Rows
set_option maxRecDepth 100000 in
set_option maxHeartbeats 0 in
theorem PySem.Challenge.cw_nightbook_k56_wishes_refused_holds : PySem.Challenge.rw_nightbook_k56_wishes_refused.Holds := by
 w_on;o_law;k_head;(case hw=>w_witness2)
 k_fill
 refine L2.Gw (l:=PySem.Challenge.rw_nightbook_k56_wishes_refused) (n:=63) (k:=65) (x := "_law_script") (CX:=L2.CX0) (sp:=D3.GQ) rfl (by decide) rfl ⟨rfl,by decide,by decide⟩ (fun w h Y=>PySem.W.kIn_of Y) ?F D3.tabs (fun _ _ _=>⟨(fun _ h=>nomatch (show _ ∈ ([]:List (Addr × Str × Pos)) from h)),(fun _ h=>nomatch (show _ ∈ ([]:List (Addr × Str × Pos)) from h)),(fun _ h=>nomatch (show _ ∈ ([]:List (Addr × Str × Pos)) from h))⟩) (fun _ h=>nomatch (show _ ∈ ([]:List (Addr × Str × Pos)) from h)) ?S ?C
 case F =>
  intro w mg fa h KX G hmg
  have T:K56.Txt (L2.KOf KX) mg:=by
   dsimp only [L2.KOf]
   have d_is_whole:D3.Dg (L2.KOf KX) mg "is_whole" (K56.top 24) ["thing"]:=by
    dsimp only [L2.KOf]
    refine' D3.dX KX G ?b ?a ?l ?c ?k
    (case a=>k_is);(case l=>k_is);(case c=>k_is);(case k=>k_is)
    (case b=>exact fun _ _ _ _ _ _=>D3.cg fun _=>D3.len0 rfl)
   have d_all_whole:D3.Dg (L2.KOf KX) mg "all_whole" (K56.top 25) ["things"]:=by
    dsimp only [L2.KOf]
    refine' D3.dX KX G ?b ?a ?l ?c ?k
    (case a=>k_is);(case l=>k_is);(case c=>k_is);(case k=>k_is)
    (case b=>exact fun _ _ _ _ _ _=>D3.cg fun _=>D3.len0 rfl)
   have d_is_tuple_of:D3.Dg (L2.KOf KX) mg "is_tuple_of" (K56.top 26) ["thing", "many"]:=by
    dsimp only [L2.KOf]
    refine' D3.dX KX G ?b ?a ?l ?c ?k
    (case a=>k_is);(case l=>k_is);(case c=>k_is);(case k=>k_is)
    (case b=>exact fun _ _ _ _ _ _=>D3.cg fun _=>D3.cg fun _=>D3.len0 rfl)
   have d_is_pair:D3.Dg (L2.KOf KX) mg "is_pair" (K56.top 27) ["thing"]:=by
    dsimp only [L2.KOf]
    refine' D3.dX KX G ?b ?a ?l ?c ?k
    (case a=>k_is);(case l=>k_is);(case c=>k_is);(case k=>k_is)
    (case b=>exact fun _ _ _ _ _ _=>D3.cg fun _=>D3.len0 rfl)
   have d_is_whole_list:D3.Dg (L2.KOf KX) mg "is_whole_list" (K56.top 28) ["thing"]:=by
    dsimp only [L2.KOf]
    refine' D3.dX KX G ?b ?a ?l ?c ?k
    (case a=>k_is);(case l=>k_is);(case c=>k_is);(case k=>k_is)
    (case b=>exact fun _ _ _ _ _ _=>D3.cg fun _=>D3.len0 rfl)
   have d_is_rising:D3.Dg (L2.KOf KX) mg "is_rising" (K56.top 29) ["numbers"]:=by
    dsimp only [L2.KOf]
    refine' D3.dX KX G ?b ?a ?l ?c ?k
    (case a=>k_is);(case l=>k_is);(case c=>k_is);(case k=>k_is)
    (case b=>exact fun _ _ _ _ _ _=>D3.cg fun _=>D3.len0 rfl)
   have d_nights_of:D3.Dg (L2.KOf KX) mg "nights_of" (K56.top 31) ["stay"]:=by
    dsimp only [L2.KOf]
    refine' D3.dX KX G ?b ?a ?l ?c ?k
    (case a=>k_is);(case l=>k_is);(case c=>k_is);(case k=>k_is)
    (case b=>exact fun _ _ _ _ _ _=>D3.cg fun _=>D3.len0 rfl)
   have d_holds:D3.Dg (L2.KOf KX) mg "holds" (K56.top 32) ["stretch", "night"]:=by
    dsimp only [L2.KOf]
    refine' D3.dX KX G ?b ?a ?l ?c ?k
    (case a=>k_is);(case l=>k_is);(case c=>k_is);(case k=>k_is)
    (case b=>exact fun _ _ _ _ _ _=>D3.cg fun _=>D3.cg fun _=>D3.len0 rfl)
   have d_count_at:D3.Dg (L2.KOf KX) mg "count_at" (K56.top 33) ["stretches", "night"]:=by
    dsimp only [L2.KOf]
    refine' D3.dX KX G ?b ?a ?l ?c ?k
    (case a=>k_is);(case l=>k_is);(case c=>k_is);(case k=>k_is)
    (case b=>exact fun _ _ _ _ _ _=>D3.cg fun _=>D3.cg fun _=>D3.len0 rfl)
   have d_is_wish_for:D3.Dg (L2.KOf KX) mg "is_wish_for" (K56.top 36) ["wish", "free"]:=by
    dsimp only [L2.KOf]
    refine' D3.dX KX G ?b ?a ?l ?c ?k
    (case a=>k_is);(case l=>k_is);(case c=>k_is);(case k=>k_is)
    (case b=>exact fun _ _ _ _ _ _=>D3.cg fun _=>D3.cg fun _=>D3.len0 rfl)
   have d_check_wishes:D3.Dg (L2.KOf KX) mg "check_wishes" (K56.top 37) ["wishes", "free"]:=by
    dsimp only [L2.KOf]
    refine' D3.dX KX G ?b ?a ?l ?c ?k
    (case a=>k_is);(case l=>k_is);(case c=>k_is);(case k=>k_is)
    (case b=>exact fun _ _ _ _ _ _=>D3.cg fun _=>D3.cg fun _=>D3.len0 rfl)
   have d_cost:D3.Dg (L2.KOf KX) mg "cost" (K56.top 38) ["prices", "first", "behind"]:=by
    dsimp only [L2.KOf]
    refine' D3.dX KX G ?b ?a ?l ?c ?k
    (case a=>k_is);(case l=>k_is);(case c=>k_is);(case k=>k_is)
    (case b=>exact fun _ _ _ _ _ _=>D3.cg fun _=>D3.cg fun _=>D3.cg fun _=>D3.len0 rfl)
   have d_worth_of:D3.Dg (L2.KOf KX) mg "worth_of" (K56.top 39) ["wishes", "choice"]:=by
    dsimp only [L2.KOf]
    refine' D3.dX KX G ?b ?a ?l ?c ?k
    (case a=>k_is);(case l=>k_is);(case c=>k_is);(case k=>k_is)
    (case b=>exact fun _ _ _ _ _ _=>D3.cg fun _=>D3.cg fun _=>D3.len0 rfl)
   have d_held_at:D3.Dg (L2.KOf KX) mg "held_at" (K56.top 40) ["wishes", "choice", "night"]:=by
    dsimp only [L2.KOf]
    refine' D3.dX KX G ?b ?a ?l ?c ?k
    (case a=>k_is);(case l=>k_is);(case c=>k_is);(case k=>k_is)
    (case b=>exact fun _ _ _ _ _ _=>D3.cg fun _=>D3.cg fun _=>D3.cg fun _=>D3.len0 rfl)
   have d_fits:D3.Dg (L2.KOf KX) mg "fits" (K56.top 41) ["wishes", "free", "choice"]:=by
    dsimp only [L2.KOf]
    refine' D3.dX KX G ?b ?a ?l ?c ?k
    (case a=>k_is);(case l=>k_is);(case c=>k_is);(case k=>k_is)
    (case b=>exact fun _ _ _ _ _ _=>D3.cg fun _=>D3.cg fun _=>D3.cg fun _=>D3.len0 rfl)
   have d_is_place_list:D3.Dg (L2.KOf KX) mg "is_place_list" (K56.top 42) ["wishes", "thing"]:=by
    dsimp only [L2.KOf]
    refine' D3.dX KX G ?b ?a ?l ?c ?k
    (case a=>k_is);(case l=>k_is);(case c=>k_is);(case k=>k_is)
    (case b=>exact fun _ _ _ _ _ _=>D3.cg fun _=>D3.cg fun _=>D3.len0 rfl)
   have d_is_choice:D3.Dg (L2.KOf KX) mg "is_choice" (K56.top 43) ["wishes", "free", "thing"]:=by
    dsimp only [L2.KOf]
    refine' D3.dX KX G ?b ?a ?l ?c ?k
    (case a=>k_is);(case l=>k_is);(case c=>k_is);(case k=>k_is)
    (case b=>exact fun _ _ _ _ _ _=>D3.cg fun _=>D3.cg fun _=>D3.cg fun _=>D3.len0 rfl)
   have d_is_price:D3.Dg (L2.KOf KX) mg "is_price" (K56.top 44) ["free", "thing"]:=by
    dsimp only [L2.KOf]
    refine' D3.dX KX G ?b ?a ?l ?c ?k
    (case a=>k_is);(case l=>k_is);(case c=>k_is);(case k=>k_is)
    (case b=>exact fun _ _ _ _ _ _=>D3.cg fun _=>D3.cg fun _=>D3.len0 rfl)
   have d_is_price_list:D3.Dg (L2.KOf KX) mg "is_price_list" (K56.top 45) ["free", "thing"]:=by
    dsimp only [L2.KOf]
    refine' D3.dX KX G ?b ?a ?l ?c ?k
    (case a=>k_is);(case l=>k_is);(case c=>k_is);(case k=>k_is)
    (case b=>exact fun _ _ _ _ _ _=>D3.cg fun _=>D3.cg fun _=>D3.len0 rfl)
   have d_gain:D3.Dg (L2.KOf KX) mg "gain" (K56.top 46) ["wish", "prices"]:=by
    dsimp only [L2.KOf]
    refine' D3.dX KX G ?b ?a ?l ?c ?k
    (case a=>k_is);(case l=>k_is);(case c=>k_is);(case k=>k_is)
    (case b=>exact fun _ _ _ _ _ _=>D3.cg fun _=>D3.cg fun _=>D3.len0 rfl)
   have d_sold_out:D3.Dg (L2.KOf KX) mg "sold_out" (K56.top 47) ["wishes", "free", "choice", "prices"]:=by
    dsimp only [L2.KOf]
    refine' D3.dX KX G ?b ?a ?l ?c ?k
    (case a=>k_is);(case l=>k_is);(case c=>k_is);(case k=>k_is)
    (case b=>exact fun _ _ _ _ _ _=>D3.cg fun _=>D3.cg fun _=>D3.cg fun _=>D3.cg fun _=>D3.len0 rfl)
   have d_is_best:D3.Dg (L2.KOf KX) mg "is_best" (K56.top 48) ["wishes", "free", "choice", "prices"]:=by
    dsimp only [L2.KOf]
    refine' D3.dX KX G ?b ?a ?l ?c ?k
    (case a=>k_is);(case l=>k_is);(case c=>k_is);(case k=>k_is)
    (case b=>exact fun _ _ _ _ _ _=>D3.cg fun _=>D3.cg fun _=>D3.cg fun _=>D3.cg fun _=>D3.len0 rfl)
   have d_bound_by:D3.Dg (L2.KOf KX) mg "bound_by" (K56.top 49) ["wishes", "free", "prices"]:=by
    dsimp only [L2.KOf]
    refine' D3.dX KX G ?b ?a ?l ?c ?k
    (case a=>k_is);(case l=>k_is);(case c=>k_is);(case k=>k_is)
    (case b=>exact fun _ _ _ _ _ _=>D3.cg fun _=>D3.cg fun _=>D3.cg fun _=>D3.len0 rfl)
   have d_has_room:D3.Dg (L2.KOf KX) mg "has_room" (K56.top 50) ["wishes", "free", "choice", "wish"]:=by
    dsimp only [L2.KOf]
    refine' D3.dX KX G ?b ?a ?l ?c ?k
    (case a=>k_is);(case l=>k_is);(case c=>k_is);(case k=>k_is)
    (case b=>exact fun _ _ _ _ _ _=>D3.cg fun _=>D3.cg fun _=>D3.cg fun _=>D3.cg fun _=>D3.len0 rfl)
   have d_by_turns:D3.Dg (L2.KOf KX) mg "by_turns" (K56.top 51) ["wishes", "free"]:=by
    dsimp only [L2.KOf]
    refine' D3.dX KX G ?b ?a ?l ?c ?k
    (case a=>k_is);(case l=>k_is);(case c=>k_is);(case k=>k_is)
    (case b=>exact fun _ _ _ _ _ _=>D3.cg fun _=>D3.cg fun _=>D3.len0 rfl)
   have d_ways_of_wish:D3.Dg (L2.KOf KX) mg "ways_of_wish" (K56.top 53) ["wish", "place", "choice"]:=by
    dsimp only [L2.KOf]
    refine' D3.dX KX G ?b ?a ?l ?c ?k
    (case a=>k_is);(case l=>k_is);(case c=>k_is);(case k=>k_is)
    (case b=>exact fun _ _ _ _ _ _=>D3.cg fun _=>D3.cg fun _=>D3.cg fun _=>D3.len0 rfl)
   have d_all_ways:D3.Dg (L2.KOf KX) mg "all_ways" (K56.top 54) ["wishes", "free", "choice"]:=by
    dsimp only [L2.KOf]
    refine' D3.dX KX G ?b ?a ?l ?c ?k
    (case a=>k_is);(case l=>k_is);(case c=>k_is);(case k=>k_is)
    (case b=>exact fun _ _ _ _ _ _=>D3.cg fun _=>D3.cg fun _=>D3.cg fun _=>D3.len0 rfl)
   have d_cheapest:D3.Dg (L2.KOf KX) mg "cheapest" (K56.top 55) ["costs", "ways"]:=by
    dsimp only [L2.KOf]
    refine' D3.dX KX G ?b ?a ?l ?c ?k
    (case a=>k_is);(case l=>k_is);(case c=>k_is);(case k=>k_is)
    (case b=>exact fun _ _ _ _ _ _=>D3.cg fun _=>D3.cg fun _=>D3.len0 rfl)
   have d_places_on_the_way:D3.Dg (L2.KOf KX) mg "places_on_the_way" (K56.top 56) ["came", "start", "goal"]:=by
    dsimp only [L2.KOf]
    refine' D3.dX KX G ?b ?a ?l ?c ?k
    (case a=>k_is);(case l=>k_is);(case c=>k_is);(case k=>k_is)
    (case b=>exact fun _ _ _ _ _ _=>D3.cg fun _=>D3.cg fun _=>D3.cg fun _=>D3.len0 rfl)
   have d_with_one_more:D3.Dg (L2.KOf KX) mg "with_one_more" (K56.top 57) ["wishes", "free", "choice", "place"]:=by
    dsimp only [L2.KOf]
    refine' D3.dX KX G ?b ?a ?l ?c ?k
    (case a=>k_is);(case l=>k_is);(case c=>k_is);(case k=>k_is)
    (case b=>exact fun _ _ _ _ _ _=>D3.cg fun _=>D3.cg fun _=>D3.cg fun _=>D3.cg fun _=>D3.len0 rfl)
   have d_prices_of:D3.Dg (L2.KOf KX) mg "prices_of" (K56.top 58) ["wishes", "free", "choice"]:=by
    dsimp only [L2.KOf]
    refine' D3.dX KX G ?b ?a ?l ?c ?k
    (case a=>k_is);(case l=>k_is);(case c=>k_is);(case k=>k_is)
    (case b=>exact fun _ _ _ _ _ _=>D3.cg fun _=>D3.cg fun _=>D3.cg fun _=>D3.len0 rfl)
   have d_best:D3.Dg (L2.KOf KX) mg "best" (K56.top 59) ["wishes", "free"]:=by
    dsimp only [L2.KOf]
    refine' D3.dX KX G ?b ?a ?l ?c ?k
    (case a=>k_is);(case l=>k_is);(case c=>k_is);(case k=>k_is)
    (case b=>exact fun _ _ _ _ _ _=>D3.cg fun _=>D3.cg fun _=>D3.len0 rfl)
   have d__law_cell:D3.Dg (L2.KOf KX) mg "_law_cell" (K56.top 61) ["_law_script", "_law_at_here"]:=by
    dsimp only [L2.KOf]
    refine' D3.dX KX G ?b ?a ?l ?c ?k
    (case a=>k_is);(case l=>k_is);(case c=>k_is);(case k=>k_is)
    (case b=>exact fun _ _ _ _ _ _=>D3.cg fun _=>D3.cg fun _=>D3.len0 rfl)
   have d__law_part:D3.Dg (L2.KOf KX) mg "_law_part" (K56.top 62) ["_law_script", "_law_at_here", "_law_k", "_law_many"]:=by
    dsimp only [L2.KOf]
    refine' D3.dX KX G ?b ?a ?l ?c ?k
    (case a=>k_is);(case l=>k_is);(case c=>k_is);(case k=>k_is)
    (case b=>exact fun _ _ _ _ _ _=>D3.cg fun _=>D3.cg fun _=>D3.cg fun _=>D3.cg fun _=>D3.len0 rfl)
   have d__law_row:D3.Dg (L2.KOf KX) mg "_law_row" (K56.top 63) ["_law_script", "_law_at_here", "_law_many"]:=by
    dsimp only [L2.KOf]
    refine' D3.dX KX G ?b ?a ?l ?c ?k
    (case a=>k_is);(case l=>k_is);(case c=>k_is);(case k=>k_is)
    (case b=>exact fun _ _ _ _ _ _=>D3.cg fun _=>D3.cg fun _=>D3.cg fun _=>D3.len0 rfl)
   have d__law_whole:D3.Dg (L2.KOf KX) mg "_law_whole" (K56.top 64) ["_law_thing"]:=by
    dsimp only [L2.KOf]
    refine' D3.dX KX G ?b ?a ?l ?c ?k
    (case a=>k_is);(case l=>k_is);(case c=>k_is);(case k=>k_is)
    (case b=>exact fun _ _ _ _ _ _=>D3.cg fun _=>D3.len0 rfl)
   have d__law_free:D3.Dg (L2.KOf KX) mg "_law_free" (K56.top 65) ["_law_script", "_law_nights"]:=by
    dsimp only [L2.KOf]
    refine' D3.dX KX G ?b ?a ?l ?c ?k
    (case a=>k_is);(case l=>k_is);(case c=>k_is);(case k=>k_is)
    (case b=>exact fun _ _ _ _ _ _=>D3.cg fun _=>D3.cg fun _=>D3.len0 rfl)
   have d__law_wishes:D3.Dg (L2.KOf KX) mg "_law_wishes" (K56.top 66) ["_law_script", "_law_nights", "_law_many"]:=by
    dsimp only [L2.KOf]
    refine' D3.dX KX G ?b ?a ?l ?c ?k
    (case a=>k_is);(case l=>k_is);(case c=>k_is);(case k=>k_is)
    (case b=>exact fun _ _ _ _ _ _=>D3.cg fun _=>D3.cg fun _=>D3.cg fun _=>D3.len0 rfl)
   have d__law_spoilt:D3.Dg (L2.KOf KX) mg "_law_spoilt" (K56.top 67) ["_law_wish", "_law_nights", "_law_xs"]:=by
    dsimp only [L2.KOf]
    refine' D3.dX KX G ?b ?a ?l ?c ?k
    (case a=>k_is);(case l=>k_is);(case c=>k_is);(case k=>k_is)
    (case b=>exact fun _ _ _ _ _ _=>D3.cg fun _=>D3.cg fun _=>D3.cg fun _=>D3.len0 rfl)
   have d__law_ask:D3.Dg (L2.KOf KX) mg "_law_ask" (K56.top 68) ["_law_which", "_law_wishes_here", "_law_free_here"]:=by
    dsimp only [L2.KOf]
    refine' D3.dX KX G ?b ?a ?l ?c ?k
    (case a=>k_is);(case l=>k_is);(case c=>k_is);(case k=>k_is)
    (case b=>exact fun _ _ _ _ _ _=>D3.cg fun _=>D3.cg fun _=>D3.cg fun _=>D3.len0 rfl)
   have d__law_strange:D3.Dg (L2.KOf KX) mg "_law_strange" (K56.top 69) ["_law_e"]:=by
    dsimp only [L2.KOf]
    refine' D3.dX KX G ?b ?a ?l ?c ?k
    (case a=>k_is);(case l=>k_is);(case c=>k_is);(case k=>k_is)
    (case b=>exact fun _ _ _ _ _ _=>D3.cg fun _=>D3.len0 rfl)
   have d__law_at:D3.Dg (L2.KOf KX) mg "_law_at" (K56.top 70) ["_law_which", "_law_wishes_here", "_law_free_here"]:=by
    dsimp only [L2.KOf]
    refine' D3.dX KX G ?b ?a ?l ?c ?k
    (case a=>k_is);(case l=>k_is);(case c=>k_is);(case k=>k_is)
    (case b=>exact fun _ _ _ _ _ _=>D3.cg fun _=>D3.cg fun _=>D3.cg fun _=>D3.len0 rfl)
   have d_law:D3.Dl (L2.KOf KX) mg "law" "_law_script" (K56.top 71):=by
    dsimp only [L2.KOf]
    refine' D3.RV KX G ?b ?a ?l ?c ?k
    (case a=>k_is);(case l=>k_is);(case c=>k_is);(case k=>k_is)
    (case b=>exact fun _ _ _ _ _ _ u=>rfl)
   have s_NoWish:XC.SuiU (L2.KOf KX) mg (fun _ => "at") "NoWish" "at" "InnError" [("Full", false),("InHouse", false),("NoBook", false),("NoChance", false),("NoExchange", false),("NoGuest", false),("NoKind", false),("NoName", false),("NoNumber", false),("NoRoom", false),("NoRow", false),("NoStay", false),("NoStretch", false),("NoText", false),("NoWish", true),("NotTaken", false),("NotTonight", false),("Stands", false),("Taken", false),("TooFull", false),("TooMany", false)]:=by
    dsimp only [L2.KOf]
    refine' XC.K8 (XC.O6 KX G ?a ?kp ?lC ?lI ?lN ?oN ?lNI ?oNI ?i1 ?i2 ?s1 ?s2 ?n1 ?n2 ?hB ?lk ?hcd ?sc ?l1 ?l2 ?hb ?ne ?nd ?nc) ?fc (PySem.W.mg_of KX G ?m) ⟨⟨?e1,?e2,?e3⟩,?k2,?k3,?k4,?k5,?k6⟩ ⟨⟨?e4,?e5,?e6⟩,?a2,?a3⟩ (XC.dO (PySem.W.mg_of KX G ?t0) ?r0 (XC.dO (PySem.W.mg_of KX G ?t1) ?r1 (XC.dO (PySem.W.mg_of KX G ?t2) ?r2 (XC.dO (PySem.W.mg_of KX G ?t3) ?r3 (XC.dO (PySem.W.mg_of KX G ?t4) ?r4 (XC.dO (PySem.W.mg_of KX G ?t5) ?r5 (XC.dO (PySem.W.mg_of KX G ?t6) ?r6 (XC.dO (PySem.W.mg_of KX G ?t7) ?r7 (XC.dO (PySem.W.mg_of KX G ?t8) ?r8 (XC.dO (PySem.W.mg_of KX G ?t9) ?r9 (XC.dO (PySem.W.mg_of KX G ?t10) ?r10 (XC.dO (PySem.W.mg_of KX G ?t11) ?r11 (XC.dO (PySem.W.mg_of KX G ?t12) ?r12 (XC.dO (PySem.W.mg_of KX G ?t13) ?r13 (XC.dO (PySem.W.mg_of KX G ?t14) ?r14 (XC.dO (PySem.W.mg_of KX G ?t15) ?r15 (XC.dO (PySem.W.mg_of KX G ?t16) ?r16 (XC.dO (PySem.W.mg_of KX G ?t17) ?r17 (XC.dO (PySem.W.mg_of KX G ?t18) ?r18 (XC.dO (PySem.W.mg_of KX G ?t19) ?r19 (XC.dO (PySem.W.mg_of KX G ?t20) ?r20 XC.K7)))))))))))))))))))))
    (case a=>k_is);(case kp=>k_is);(case lC=>k_is);(case lI=>k_is);(case lN=>k_is);(case lNI=>k_is);(case oN=>rfl);(case oNI=>rfl)
    (case i1=>k_is);(case i2=>k_is);(case s1=>k_is);(case s2=>k_is);(case n1=>k_is);(case n2=>k_is)
    (case hB=>rw [typeLookup_type,builtinLookup_eq_fast];kernel_rfl)
    (case lk=>k_is);(case hcd=>k_is);(case sc=>exact ⟨rfl,rfl,rfl,by decide +kernel,rfl,by decide +kernel,by decide +kernel⟩);(case l1=>rfl);(case l2=>rfl)
    (case hb=>exact fun _ _=>rfl);(case ne=>decide);(case nd=>decide);(case nc=>decide)
    (case m=>k_is);(case fc=>rfl)
    (case e1=>kernel_rfl);(case e2=>kernel_rfl);(case e3=>kernel_rfl);(case k2=>kernel_rfl);(case k3=>kernel_rfl);(case k4=>kernel_rfl);(case k5=>kernel_rfl);(case k6=>kernel_rfl)
    (case e4=>kernel_rfl);(case e5=>kernel_rfl);(case e6=>kernel_rfl);(case a2=>kernel_rfl);(case a3=>kernel_rfl)
    (case t0=>k_is);(case r0=>kernel_rfl);(case t1=>k_is);(case r1=>kernel_rfl);(case t2=>k_is);(case r2=>kernel_rfl);(case t3=>k_is);(case r3=>kernel_rfl);(case t4=>k_is);(case r4=>kernel_rfl);(case t5=>k_is);(case r5=>kernel_rfl);(case t6=>k_is);(case r6=>kernel_rfl);(case t7=>k_is);(case r7=>kernel_rfl);(case t8=>k_is);(case r8=>kernel_rfl);(case t9=>k_is);(case r9=>kernel_rfl);(case t10=>k_is);(case r10=>kernel_rfl);(case t11=>k_is);(case r11=>kernel_rfl);(case t12=>k_is);(case r12=>kernel_rfl);(case t13=>k_is);(case r13=>kernel_rfl);(case t14=>k_is);(case r14=>kernel_rfl);(case t15=>k_is);(case r15=>kernel_rfl);(case t16=>k_is);(case r16=>kernel_rfl);(case t17=>k_is);(case r17=>kernel_rfl);(case t18=>k_is);(case r18=>kernel_rfl);(case t19=>k_is);(case r19=>kernel_rfl);(case t20=>k_is);(case r20=>kernel_rfl)
   have z_NoWish:=XC.SuiU.up s_NoWish
   have v_ValueError:mg "ValueError" = none:=by
    refine' PySem.W.mg_none_of KX G ?z
    (case z=>k_is)
   have jc:mg "len" = none:=by
    refine' PySem.W.mg_none_of KX G ?z
    (case z=>k_is)
   have b_range:mg "range" = none:=by
    refine' PySem.W.mg_none_of KX G ?z
    (case z=>k_is)
   have b_abs:mg "abs" = none:=by
    refine' PySem.W.mg_none_of KX G ?z
    (case z=>k_is)
   have b_isinstance:mg "isinstance" = none:=by
    refine' PySem.W.mg_none_of KX G ?z
    (case z=>k_is)
   have b_int:mg "int" = none:=by
    refine' PySem.W.mg_none_of KX G ?z
    (case z=>k_is)
   have b_bool:mg "bool" = none:=by
    refine' PySem.W.mg_none_of KX G ?z
    (case z=>k_is)
   have b_tuple:mg "tuple" = none:=by
    refine' PySem.W.mg_none_of KX G ?z
    (case z=>k_is)
   have b_list:mg "list" = none:=by
    refine' PySem.W.mg_none_of KX G ?z
    (case z=>k_is)
   have b_str:mg "str" = none:=by
    refine' PySem.W.mg_none_of KX G ?z
    (case z=>k_is)
   have b_max:mg "max" = none:=by
    refine' PySem.W.mg_none_of KX G ?z
    (case z=>k_is)
   have b_min:mg "min" = none:=by
    refine' PySem.W.mg_none_of KX G ?z
    (case z=>k_is)
   have b_sorted:mg "sorted" = none:=by
    refine' PySem.W.mg_none_of KX G ?z
    (case z=>k_is)
   have uP:mg "sum" = none:=by
    refine' PySem.W.mg_none_of KX G ?z
    (case z=>k_is)
   have b_reversed:mg "reversed" = none:=by
    refine' PySem.W.mg_none_of KX G ?z
    (case z=>k_is)
   have b_enumerate:mg "enumerate" = none:=by
    refine' PySem.W.mg_none_of KX G ?z
    (case z=>k_is)
   have b_zip:mg "zip" = none:=by
    refine' PySem.W.mg_none_of KX G ?z
    (case z=>k_is)
   have b_set:mg "set" = none:=by
    refine' PySem.W.mg_none_of KX G ?z
    (case z=>k_is)
   have b_any:mg "any" = none:=by
    refine' PySem.W.mg_none_of KX G ?z
    (case z=>k_is)
   have sY:mg "all" = none:=by
    refine' PySem.W.mg_none_of KX G ?z
    (case z=>k_is)
   have b_dict:mg "dict" = none:=by
    refine' PySem.W.mg_none_of KX G ?z
    (case z=>k_is)
   have c_MOST_WORTH:∃ t,mg "MOST_WORTH" = some (.int 1000000000 t):=by
    refine' ⟨?t_MOST_WORTH,PySem.W.mg_of KX G ?z⟩
    (case z=>rfl)
   exact ⟨d_is_whole,d_all_whole,d_is_tuple_of,d_is_pair,d_is_whole_list,d_is_rising,d_nights_of,d_holds,d_count_at,d_is_wish_for,d_check_wishes,d_cost,d_worth_of,d_held_at,d_fits,d_is_place_list,d_is_choice,d_is_price,d_is_price_list,d_gain,d_sold_out,d_is_best,d_bound_by,d_has_room,d_by_turns,d_ways_of_wish,d_all_ways,d_cheapest,d_places_on_the_way,d_with_one_more,d_prices_of,d_best,d__law_cell,d__law_part,d__law_row,d__law_whole,d__law_free,d__law_wishes,d__law_spoilt,d__law_ask,d__law_strange,d__law_at,d_law,z_NoWish,s_NoWish,v_ValueError,⟨jc,b_range,b_abs,b_isinstance,b_int,b_bool,b_tuple,b_list,b_str,b_max,b_min,b_sorted,uP,b_reversed,b_enumerate,b_zip,b_set,b_any,sY,b_dict⟩,c_MOST_WORTH⟩
  obtain ⟨f,fd,F,b,m⟩:=T.d_law.ex
  have e0:=hmg.symm.trans m
  cases e0
  exact ⟨fd,b,fun base kb nb=>K56.Q_ T F⟩
 case S=>exact fun K H a ns hl hO hS=>⟨a,ns,hO,rfl,hS,hl,fun _=>rfl⟩
 case C=>exact fun _ _ _ _ z=>z
