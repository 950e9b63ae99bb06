import PyProof.Rows.All
import Wide.All
import OpenK.AllK
import Wide.FinOn
import Lean
import PyProof.EqAt
import PyProof.EqKinds
import PyProof.TupleCall
import PyProof.EqLayable
import KE.KSortTup
import PyProof.AttrMissHeap
import KE.KDictOf
import KE.KDictSum
import PyProof.Rows.SortWalk
import PyProof.NeKinds
import PyProof.DictWalks
import KE.KMinBuiltin
import Wide.Seal
import KE.KDictLaws
import KE.KLam
import KE.KNestM
import PySem.Challenge.RW_nightbook_k44_rooms_for
set_option Elab.async false
set_option linter.all false
set_option maxRecDepth 100000
set_option maxHeartbeats 4000000
set_option exponentiation.threshold 40000
open List renaming range→aG,length_map→aJ,mem_singleton→aK,mem_cons_self→aN,mem_cons_of_mem→aO,mem_append_right→aP,getElem?_map→aQ,mem_range→aR,mem_append→aV,mem_append_left→aW,length_range→aY,getElem?_eq_getElem→aZ,getElem?_eq_none→bA,map_cons→bC,getElem?_set_ne→bD,mem_filter→bF,replicate→bG,mem_cons→bH,getD_eq_getElem?_getD→bI,length_cons→bM,size_toArray→bO,length_append→bQ,getElem?_range→bU,nodup_cons→bV,length_replicate→bZ,getElem?_eq_some_iff→cD,mem_map→cG,length_filter_le→cI,replicate_succ→cO,append_nil→cP,getElem?_set_self→cV,lookup_cons→cX,getElem?_append_right→dh,length_set→dB,getElem?_append_left→dF,filterMap_cons→dH,map_map→dR,ext_getElem?→d7,map_append→eE,mem_filterMap→eU,mem_of_getElem?→fJ,getElem?_replicate→fP,flatten_cons→fQ,find?_cons→fX,length_nil→gO,toArray→gP,map_congr_left→ig,not_mem_nil→iu,filter_cons_of_pos→iw,filter_cons_of_neg→iy,nodup_range→iz,pairwise_cons→iI,take_add_one→iU,getElem?_mapIdx→iY,pairwise_append→iZ,take_length→ji,pairwise_iff_getElem→jr,any_cons→jw,pairwise_singleton→jD,append_assoc→jH,eraseIdx_eq_take_drop_succ→jT,take_append_drop→jU,all_eq_true→jW,getElem_mem→jX,getElem_of_mem→lu,map_nil→lA,getElem?_drop→lQ,filter_append→lU,mem_of_find?_eq_some→mq,drop_eq_getElem_cons→mz,getElem?_set→mG,nodup_append→mH,all_cons→mX,mem_singleton_self→nu,drop_eq_nil_of_le→nT,getElem_cons_drop→nW,find?_cons_of_pos→nY,find?_cons_of_neg→nZ,of_mem_zip→oO,nil_append→oR,length_singleton→oX,getElem?_of_mem→oY,nodup_nil→oZ,find?_eq_none→qp,pairwise_map→qW,find?_append→qY,lookup→sZ,foldl→ur
open Nat renaming reduceLeDiff→ao,reduceEqDiff→aq,reduceAdd→au,reduceLT→aA,le_refl→bf,lt_of_lt_of_le→bN,ne_of_lt→bR,le_trans→bT,zero_le→dU,le_of_lt→fZ,lt_irrefl→gw,lt_trans→jg,lt_or_ge→jh,zero_add→jK,le_succ→kE,lt_succ_self→nq,not_lt_zero→oU
open Int renaming reduceEq→aB,reduceLT→aC,reduceLE→aD,le_refl→dI,toNat_natCast→gQ,emod_lt_of_pos→iJ,emod_nonneg→jy,lt_or_le→nU,sub_zero→qQ
open Option renaming bind_some→aL,isSome_iff_exists→cH,some→cN,map_some→fW,isSome_map→jJ
open Bool renaming and_eq_true→aM,not_true→cg,not_false→cL,false_ne_true→dg,false_and→fH,true_and→iT,eq_iff_iff→oV
open Array renaming getD_eq_getD_getElem?→f9,length_toList→lq,perm_iff_toList_perm→lR
theorem dTr {p:Prop} [Decidable p] (h:p):decide p=true:=decide_eq_true h
theorem dFa {p:Prop} [Decidable p] (h:¬ p):decide p=false:=decide_eq_false h
theorem lMp {α β:Type} {f:α→β} {l:List α}:(l.map f).length=l.length:=aJ f

namespace L2
open PySem PySem.Spec PyProof.Rows
abbrev Key:=Sum Int Str
def nA:Key→Value→Bool
 | .inl k,v=>Value.isInt k v
 | .inr x,v=>Value.isStrOf x v
def Rv (w:World):Key→Int
 | .inl k=>hashInt k
 | .inr x=>hashStr w x
theorem dJ:∀ {k:Key} {v:Value},nA k v=true→(∃ i t,k=Sum.inl i∧v=Value.int i t)∨(∃ x t,k=Sum.inr x∧v=Value.str x t)
 | .inl i,v,h=>by
  obtain ⟨t,e⟩:=Value.isInt_shape (k:=i) (v:=v) h
  exact .inl ⟨i,t,rfl,e⟩
 | .inr x,v,h=>by
  obtain ⟨t,e⟩:=Value.isStrOf_shape (x:=x) (v:=v) h
  exact .inr ⟨x,t,rfl,e⟩
theorem En (i:Int) (t:Tok):nA (.inl i) (.int i t)=true:=by simp [nA,Value.isInt]
theorem Eo (x:Str) (t:Tok):nA (.inr x) (.str x t)=true:=by simp [nA,Value.isStrOf]
theorem NQ (a b:Int):decide ((Sum.inl a:Key)=Sum.inl b)=(a == b):=by
 by_cases e:a=b
 ·subst e;simp
 ·have h:¬ (Sum.inl a:Key)=Sum.inl b:=fun q=>e (Sum.inl.inj q)
  rw [dFa h]
  exact (beq_eq_false_iff_ne.mpr e).symm
theorem NT (a b:Str):decide ((Sum.inr a:Key)=Sum.inr b)=decide (a=b):=by
 by_cases e:a=b
 ·subst e;simp
 ·have h:¬ (Sum.inr a:Key)=Sum.inr b:=fun q=>e (Sum.inr.inj q)
  rw [dFa h,dFa e]
theorem NZ (a:Int) (b:Str):decide ((Sum.inl a:Key)=Sum.inr b)=false:=dFa (fun q=>nomatch q)
theorem N5 (a:Str) (b:Int):decide ((Sum.inr a:Key)=Sum.inl b)=false:=dFa (fun q=>nomatch q)
def dX (prog:Program) (w:World):PySem.KeyKind prog w Key where
 is:=nA
 hash:=Rv w
 inj:=fun v a b ha hb=>by
  rcases dJ ha with ⟨i,t,rfl,rfl⟩ | ⟨x,t,rfl,rfl⟩
  ·rcases dJ hb with ⟨j,u,rfl,e⟩ | ⟨y,u,rfl,e⟩
   ·injection e with e1 _;rw [e1]
   ·exact nomatch e
  ·rcases dJ hb with ⟨j,u,rfl,e⟩ | ⟨y,u,rfl,e⟩
   ·exact nomatch e
   ·injection e with e1 _;rw [e1]
 byValue:=fun k v h=>by
  rcases dJ h with ⟨i,t,rfl,rfl⟩ | ⟨x,t,rfl,rfl⟩ <;> rfl
 pyHash:=fun hv h=>by
  rcases dJ hv with ⟨i,t,rfl,rfl⟩ | ⟨x,t,rfl,rfl⟩
  ·exact wpAny_pyHash_int h
  ·exact wpAny_pyHash_str h
 eqBool:=fun hu hv h=>by
  rcases dJ hu with ⟨i,t,rfl,rfl⟩ | ⟨x,t,rfl,rfl⟩
  ·rcases dJ hv with ⟨j,u,rfl,rfl⟩ | ⟨y,u,rfl,rfl⟩
   ·rw [NQ] at h;exact wpAny_eqBool_int h
   ·rw [NZ] at h;exact SeqAt.EqAt.int_str i t y u _ _ _ _ h
  ·rcases dJ hv with ⟨j,u,rfl,rfl⟩ | ⟨y,u,rfl,rfl⟩
   ·rw [N5] at h;exact SeqAt.EqAt.str_int x t j u _ _ _ _ h
   ·rw [NT] at h;exact wpAny_eqBool_str h
 «strs»:=fun k x t v h=>by
  rcases dJ h with ⟨i,u,rfl,e⟩ | ⟨y,u,rfl,e⟩
  ·exact nomatch e
  ·injection e with e1 _
   subst e1
   cases v <;> rfl
theorem Aw (prog:Program) (w:World) (k:Key) (v:Value):(dX prog w).is k v=nA k v:=rfl
theorem zm (prog:Program) (w:World) (i:Int) (t:Tok):(dX prog w).is (.inl i) (.int i t)=true:=En i t
theorem zp (prog:Program) (w:World) (x:Str) (t:Tok):(dX prog w).is (.inr x) (.str x t)=true:=Eo x t
end L2
namespace L2
open PySem PySem.Spec PyProof.Rows
inductive V where
 | non | bl (b:Bool) | int (i:Int) | str (x:Str) | byt (b:Array UInt8) | flt (b:UInt64) | ref (a:Addr) | ty (n:String)
 deriving DecidableEq
def RelV:V→Value→Prop
 | .non,u=>u=Value.none
 | .bl b,u=>u=Value.bool b
 | .int i,u=>∃ t,u=Value.int i t
 | .str x,u=>∃ t,u=Value.str x t
 | .byt b,u=>∃ t,u=Value.bytes b t
 | .flt b,u=>∃ t,u=Value.float b t
 | .ref a,u=>u=Value.ref a
 | .ty n,u=>u=Value.type n
abbrev Vals:List V→List Value→Prop:=Paired RelV
theorem Vals.length {xs:List V} {us:List Value} (r:Vals xs us):xs.length=us.length:=Paired.length r
theorem Vals.get:∀ {xs:List V} {us:List Value} {i:Nat} {x:V},Vals xs us→xs[i]? = some x→∃ u,us[i]? = some u∧RelV x u
 | _,_,_,_,.nil,e=>by simp at e
 | _,_,0,_,.cons r _,e=>by simp at e;subst e;exact ⟨_,rfl,r⟩
 | _,_,i + 1,x,.cons _ t,e=>by
  obtain ⟨u,h1,h2⟩:=Vals.get (i:=i) (x:=x) t (by simpa using e)
  exact ⟨u,by simpa using h1,h2⟩
theorem Vals.set {x:V} {u:Value} (r:RelV x u):∀ {xs:List V} {us:List Value} (i:Nat),Vals xs us→Vals (xs.set i x) (us.set i u)
 | _,_,_,.nil=>.nil
 | _,_,0,.cons _ t=>.cons r t
 | _,_,i + 1,.cons q t=>.cons q (Vals.set r i t)
theorem Vals.append:∀ {xs ys:List V} {us ws:List Value},Vals xs us→Vals ys ws→Vals (xs++ys) (us++ws)
 | _,_,_,_,.nil,s=>s
 | _,_,_,_,.cons r t,s=>.cons r (Vals.append t s)
theorem Vals.take:∀ {xs:List V} {us:List Value} (n:Nat),Vals xs us→Vals (xs.take n) (us.take n)
 | _,_,0,_=>.nil
 | _,_,_ + 1,.nil=>.nil
 | _,_,n + 1,.cons r t=>.cons r (Vals.take n t)
theorem Vals.drop:∀ {xs:List V} {us:List Value} (n:Nat),Vals xs us→Vals (xs.drop n) (us.drop n)
 | _,_,0,r=>r
 | _,_,_ + 1,.nil=>.nil
 | _,_,n + 1,.cons _ t=>Vals.drop n t
def rU:Option V→Option Value→Prop
 | some v,some u=>RelV v u
 | none,none=>True
 | _,_=>False
def KV {κ:Type}:List (κ × V)→List (κ × Value)→Prop:=Paired fun (p:κ × V) (q:κ × Value)=>p.1=q.1∧RelV p.2 q.2
def kV:Key→V
 | .inl i=>.int i
 | .inr x=>.str x
inductive HO where
 /-- a list -/
 | lst (xs:List V)
 /-- a tuple (never changes) -/
 | tup (xs:List V)
 /-- a dict whose keys are ints and texts;one whose keys are tuples of ints and texts (the empty one is both) -/
 | dK (kvs:List (Key × V)) | dT (kvs:List (List Key × V))
 /-- a set of ints: its members,its size -/
 | set (S:Int→Bool) (n:Nat)
 /-- an instance of the class at C,its dict at dx,its attributes -/
 | ins (C dx:Addr) (fs:List (Str × V))
 /-- the dict of the instance at x -/
 | own (x:Addr)
 /-- the dict of an exception -/
 | xd (fs:List (Str × V))
 /-- a bound method,f of x -/
 | met (f x:Addr)
 /-- a range object lo,lo + 1,.. below hi -/
 | rng (lo hi:Int)
 /-- a thing that is known to the object (the script;a dict while a loop walks it): read,never written while it is so -/
 | frz (o:Obj) (u:HO)
 /-- a code object's table -/
 | tbl (q:Str) (p:Pos)
 /-- any other thing,by what is true of its one object (a def of one's own: SetO a S n:=HO.ext fun h=>..) -/
 | ext (φ:Heap→Prop)
abbrev Hp:=Addr→Option HO
def upd (H:Hp) (a:Addr) (o:HO):Hp:=fun b=>if b=a then some o else H b
theorem cQ {H:Hp} {a:Addr} {o:HO}:upd H a o a=some o:=by unfold upd;rw [if_pos rfl]
theorem cC {H:Hp} {a b:Addr} {o:HO} (h:b ≠ a):upd H a o b=H b:=by unfold upd;rw [if_neg h]
theorem CV {H:Hp} {a b:Addr} {o u:HO} (h:H a=some o) (h':H b=some u) (d:o ≠ u):a ≠ b:=by
 intro e;subst e;rw [h] at h';exact d (cN.inj h')
theorem gZ {H:Hp} {a b:Addr} {o:HO} (h:H a=some o) (h':H b=none):a ≠ b:=by
 intro e;subst e;rw [h] at h';cases h'
section
variable (P:Program) (w:World)
def gB (H:Hp) (h:Heap) (a:Addr):HO→Prop
 | .lst xs=>xs.length ≤ sizeLine∧∃ (its:List Value) (n:Nat),Vals xs its∧h.get? a=some { cls:=.type "list", data:=.seq its.toArray n }
 | .tup xs=>xs.length ≤ sizeLine∧∃ its:List Value,Vals xs its∧IsTup h a its.toArray
 | .dK kvs=>kvs.length ≤ sizeLine∧(a == sysModules)=false∧∃ vs,KV kvs vs∧h.DictOf (dX P w) a vs
 | .dT kvs=>kvs.length ≤ sizeLine∧(a == sysModules)=false∧∃ xs:List (List Key × Addr × Value),
  Paired (fun (p:List Key × V) (q:List Key × Addr × Value)=>p.1=q.1∧H q.2.1=some (.tup (p.1.map kV))∧RelV p.2 q.2.2) kvs xs ∧
  ∃ o es ep,h.get? a=some o∧o.ExactDict∧o.data = .dict es ep∧es.toList=xs.map (entryOfKey (tupleKind (dX P w)))∧(xs.map (·.1)).Nodup
 | .set S n=>h.SetOf (intKind P w) a S n
 | .ins C dx fs=>H dx=some (.own a)∧fs.length ≤ 1000∧dx ≠ a∧h.get? a=some (PySem.W.instObj C dx) ∧
  ∃ mA,h.Ns1 dx mA∧(∀ f,rU (fs.lookup f) (mA f))∧PySem.Within mA (fs.map (·.1))
 | .own _=>∃ o,h.get? a=some o
 | .xd fs=>∃ mA,h.Ns1 a mA∧∀ f,rU (fs.lookup f) (mA f)
 | .rng lo hi=>∃ t u v,h.get? a=some { cls:=.type "range", data:=.fields #[.int lo t,.int hi u,.int 1 v] }
 | .frz o u=>h.get? a=some o∧gB H h a u
 | .tbl q p=>∃ ps,h.get? a=some { cls:=.none,data:=.fields ps }∧(ps = #[]∨∃ c',ps = #[rawInt p.line,rawInt p.col,.ref c']∧H c'=some (.own a)∧h.CodeRec (.ref c') q)
 | .met f x=>h.get? a=some (PySem.W.methodObj (.ref f) (.ref x))
 | .ext φ=>φ h∧(∃ o,h.get? a=some o)∧∀ h1 h2:Heap,φ h1→(∀ o,h1.get? a=some o→h2.get? a=some o)→φ h2
def HOk (H:Hp) (h:Heap):Prop:=∀ a o,H a=some o→gB P w H h a o
end
section
variable {P:Program} {w:World} {H H':Hp} {h h':Heap} {a:Addr} {o:HO}
theorem gB.lt (x:gB P w H h a o):a < h.objs.size:=by
 cases o with
 | lst xs=>obtain ⟨_,_,_,_,e⟩:=x;exact Heap.lt_size e
 | tup xs=>obtain ⟨_,_,_,p⟩:=x;exact p.lt
 | dK kvs=>obtain ⟨_,_,_,_,o,_,_,e,_⟩:=x;exact Heap.lt_size e
 | dT kvs=>obtain ⟨_,_,_,_,o,_,_,e,_⟩:=x;exact Heap.lt_size e
 | set S n=>obtain ⟨o,_,_,_,e,_⟩:=x;exact Heap.lt_size e
 | ins C dx fs=>obtain ⟨_,_,_,e,_⟩:=x;exact Heap.lt_size e
 | own y=>obtain ⟨_,e⟩:=x;exact Heap.lt_size e
 | xd fs=>obtain ⟨_,⟨_,_,_,e,_⟩,_⟩:=x;exact Heap.lt_size e
 | rng lo hi=>obtain ⟨_,_,_,e⟩:=x;exact Heap.lt_size e
 | frz ob u=>obtain ⟨e,_⟩:=x;exact Heap.lt_size e
 | tbl q p=>obtain ⟨_,e,_⟩:=x;exact Heap.lt_size e
 | met f y=>exact Heap.lt_size (show h.get? a=some _ from x)
 | ext φ=>obtain ⟨_,⟨_,e⟩,_⟩:=x;exact Heap.lt_size e
theorem Paired.mapP {α β:Type} {F G:α→β→Prop}:∀ {l₁:List α} {l₂:List β},Paired F l₁ l₂→(∀ a b,F a b→G a b)→Paired G l₁ l₂
 | _,_,.nil,_=>.nil
 | _,_,.cons r t,f=>.cons (f _ _ r) (Paired.mapP t f)
theorem gB.stay (x:gB P w H h a o) (k:∀ b u,(b=a∨H b=some (.own a))→h.get? b=some u→h'.get? b=some u)
 (ho:∀ b,H b=some (.own a)→H' b=some (.own a)) (ht:∀ b xs,H b=some (.tup xs)→H' b=some (.tup xs)):gB P w H' h' a o:=by
 induction o with
 | lst xs=>obtain ⟨z,its,n,r,e⟩:=x;exact ⟨z,its,n,r,k _ _ (.inl rfl) e⟩
 | tup xs=>obtain ⟨z,its,r,ob,e,c⟩:=x;exact ⟨z,its,r,ob,k _ _ (.inl rfl) e,c⟩
 | dK kvs=>obtain ⟨z,y,vs,r,ob,es,ep,e,c⟩:=x;exact ⟨z,y,vs,r,ob,es,ep,k _ _ (.inl rfl) e,c⟩
 | dT kvs =>
  obtain ⟨z,y,xs,r,ob,es,ep,e,c⟩:=x
  exact ⟨z,y,xs,Paired.mapP r fun p q z=>⟨z.1,ht _ _ z.2.1,z.2.2⟩,ob,es,ep,k _ _ (.inl rfl) e,c⟩
 | set S n=>obtain ⟨ob,es,ep,t,e,c⟩:=x;exact ⟨ob,es,ep,t,k _ _ (.inl rfl) e,c⟩
 | ins C dx fs =>
  obtain ⟨d,z,ne,e,mA,⟨od,es,ep,e2,c⟩,r⟩:=x
  exact ⟨ho _ d,z,ne,k _ _ (.inl rfl) e,mA,⟨od,es,ep,k _ _ (.inr d) e2,c⟩,r⟩
 | own y=>obtain ⟨ob,e⟩:=x;exact ⟨ob,k _ _ (.inl rfl) e⟩
 | xd fs=>obtain ⟨mA,⟨od,es,ep,e,c⟩,r⟩:=x;exact ⟨mA,⟨od,es,ep,k _ _ (.inl rfl) e,c⟩,r⟩
 | rng lo hi=>obtain ⟨t,u,v,e⟩:=x;exact ⟨t,u,v,k _ _ (.inl rfl) e⟩
 | frz ob u ih=>obtain ⟨e,q⟩:=x;exact ⟨k _ _ (.inl rfl) e,ih q⟩
 | tbl q p =>
  obtain ⟨ps,e,z⟩:=x
  refine ⟨ps,k a _ (.inl rfl) e,?_⟩
  rcases z with z | ⟨c',z1,z2,z3⟩
  ·exact .inl z
  ·obtain ⟨c,oc,vs,tq,hc,hoc,hdc,hq⟩:=z3
   have hc':c'=c:=by injection hc
   exact .inr ⟨c',z1,ho _ z2,c,oc,vs,tq,hc,k _ _ (.inr (hc' ▸ z2)) hoc,hdc,hq⟩
 | met f y =>
  have e:h.get? a=some (PySem.W.methodObj (.ref f) (.ref y)):=x
  show h'.get? a=some (PySem.W.methodObj (.ref f) (.ref y))
  exact k a _ (.inl rfl) e
 | ext φ=>obtain ⟨p,⟨o,e⟩,st⟩:=x;exact ⟨st _ _ p fun o q=>k _ _ (.inl rfl) q,⟨o,k _ _ (.inl rfl) e⟩,st⟩
theorem HOk.lt (x:HOk P w H h) (e:H a=some o):a < h.objs.size:=(x a o e).lt
theorem HOk.fresh (x:HOk P w H h) (e:h.objs.size ≤ a):H a=none:=by
 cases q:H a with
 | none=>rfl
 | some u=>exact absurd (bN (x.lt q) e) (gw _)
theorem HOk.kept (x:HOk P w H h) (k:∀ b u,h.get? b=some u→h'.get? b=some u):HOk P w H h':=fun a o e =>
 (x a o e).stay (fun b u _ q=>k b u q) (fun _ q=>q) fun _ _ q=>q
theorem HOk.laid (x:HOk P w H h) (k:∀ b u,h.get? b=some u→h'.get? b=some u) (hp:h.objs.size ≤ a) (new:gB P w (upd H a o) h' a o):HOk P w (upd H a o) h':=fun b u e=>by
 have hn:=x.fresh hp
 by_cases hb:b=a
 ·subst hb;rw [cQ] at e;cases e;exact new
 ·rw [cC hb] at e
  exact (x b u e).stay (fun c v _ q=>k c v q) (fun c q=>by rw [cC (gZ q hn)];exact q) fun c xs q=>by rw [cC (gZ q hn)];exact q
end
def Rd (H:Hp) (a:Addr) (u:HO):Prop:=H a=some u∨∃ o,H a=some (.frz o u)
theorem Rd.ok {P:Program} {w:World} {H:Hp} {h:Heap} {a:Addr} {u:HO} (r:Rd H a u) (x:HOk P w H h):gB P w H h a u:=by
 rcases r with r | ⟨o,r⟩
 ·exact x a u r
 ·obtain ⟨_,q⟩:=x a _ r
  exact q
def Mut:Option HO→Prop
 | some (.lst _)=>True
 | some (.dK _)=>True
 | some (.dT _)=>True
 | some (.set _ _)=>True
 | some (.ins _ _ _)=>True
 | some (.ext _)=>True
 | _=>False
section
variable {P:Program} {w:World} {H:Hp} {h h':Heap} {x e:Addr} {o':HO}
theorem HOk.write (ok:HOk P w H h) (mu:Mut (H x)) (he:e=x∨H e=some (.own x)) (k:∀ b u,b ≠ e→h.get? b=some u→h'.get? b=some u) (heo:∃ u,h'.get? e=some u)
 (new:gB P w (upd H x o') h' x o'):HOk P w (upd H x o') h':=fun b u q=>by
 have nown:∀ c y,H c=some (.own y)→c ≠ x:=fun c y r z=>by subst z;rw [r] at mu;exact mu
 have ntup:∀ c xs,H c=some (.tup xs)→c ≠ x:=fun c xs r z=>by subst z;rw [r] at mu;exact mu
 by_cases hb:b=x
 ·subst hb;rw [cQ] at q;cases q;exact new
 ·rw [cC hb] at q
  by_cases hbe:b=e
  ·have q':H b=some (.own x):=by
    rcases he with z | z
    ·exact absurd (hbe.trans z) hb
    ·rw [hbe];exact z
   rw [q] at q';cases q'
   obtain ⟨v,hv⟩:=heo
   exact ⟨v,by rw [hbe];exact hv⟩
  ·refine (ok b u q).stay (fun c v hc r=>k c v ?_ r) (fun c r=>by rw [cC (nown c b r)];exact r) fun c xs r=>by rw [cC (ntup c xs r)];exact r
   rcases hc with rfl | hc
   ·exact hbe
   ·rintro rfl
    rcases he with z | z
    ·exact nown c b hc z
    ·rw [hc] at z;cases z;exact hb rfl
end
structure Un (fs ex:List Addr) (H H':Hp) (h h':Heap):Prop where
 keep:∀ b o,h.get? b=some o→H b=none→b ∉ fs→b ∉ ex→h'.get? b=some o
 slot:∀ b o,h.get? b=some o→H b=none→b ∈ fs→b ∉ ex→∃ sl,h'.get? b=some { o with slots:=sl }
 free:∀ b o,h.get? b=some o→H b=none→b ∉ ex→H' b=none
 there:∀ b o,h.get? b=some o→b ∉ ex→∃ o',h'.get? b=some o'
 tups:∀ b xs,H b=some (.tup xs)→H' b=some (.tup xs)
 frzs:∀ b o u,H b=some (.frz o u)→H' b=some (.frz o u)
 tbls:∀ b q p,H b=some (.tbl q p)→H' b=some (.tbl q p)
section
variable {fs fs' ex ex':List Addr} {H H1 H2:Hp} {h h1 h2 h':Heap} {a x e:Addr} {o:HO}
theorem Un.any (u:Un fs ex H H1 h h1) {b:Addr} {ob:Obj} (q:h.get? b=some ob) (n:H b=none) (hx:b ∉ ex):∃ sl,h1.get? b=some { ob with slots:=sl }:=by
 by_cases hb:b ∈ fs
 ·exact u.slot b ob q n hb hx
 ·exact ⟨ob.slots,u.keep b ob q n hb hx⟩
theorem Un.kept (k:∀ b u,h.get? b=some u→h'.get? b=some u):Un fs ex H H h h' :=
 ⟨fun b ob q _ _ _=>k b ob q,fun b ob q _ _ _=>⟨ob.slots,k b ob q⟩,fun _ _ _ n _=>n,fun b ob q _=>⟨ob,k b ob q⟩,fun _ _ q=>q,fun _ _ _ q=>q,fun _ _ _ q=>q⟩
theorem Un.refl:Un fs ex H H h h:=Un.kept fun _ _ q=>q
theorem Un.laid (k:∀ b u,h.get? b=some u→h'.get? b=some u) (hp:h.objs.size ≤ a) (hn:H a=none):Un fs ex H (upd H a o) h h' where
 keep:=fun b u q _ _ _=>k b u q
 slot:=fun b u q _ _ _=>⟨u.slots,k b u q⟩
 free:=fun b u q n _=>by rw [cC (bR (bN (Heap.lt_size q) hp))];exact n
 there:=fun b u q _=>⟨u,k b u q⟩
 tups:=fun b xs q=>by rw [cC (gZ q hn)];exact q
 frzs:=fun b u xs q=>by rw [cC (gZ q hn)];exact q
 tbls:=fun b q p e=>by rw [cC (gZ e hn)];exact e
theorem Un.write (mu:Mut (H x)) (he:e=x∨H e=some (.own x)) (k:∀ b u,b ≠ e→h.get? b=some u→h'.get? b=some u) (heo:∃ u,h'.get? e=some u):Un fs ex H (upd H x o) h h':=by
 have hx:∀ b,H b=none→b ≠ x:=fun b n z=>by subst z;rw [n] at mu;exact mu
 have hb:∀ b,H b=none→b ≠ e:=fun b n z=>by
  subst z
  rcases he with r | r
  ·exact hx b n r
  ·rw [n] at r;cases r
 have hm:∀ b u,H b=some u→¬ Mut (some u)→b ≠ x:=fun b u q nm z=>by subst z;rw [q] at mu;exact nm mu
 refine ⟨fun b u q n _ _=>k b u (hb b n) q,fun b u q n _ _=>⟨u.slots,k b u (hb b n) q⟩,fun b u q n _=>by rw [cC (hx b n)];exact n,fun b u q _=>?_,
  fun b xs q=>by rw [cC (hm b _ q fun z=>z)];exact q,fun b u xs q=>by rw [cC (hm b _ q fun z=>z)];exact q,fun b q p e=>by rw [cC (hm b _ e fun z=>z)];exact e⟩
 by_cases hbe:b=e
 ·subst hbe;exact heo
 ·exact ⟨u,k b u hbe q⟩
end
def trk (h:Heap) (H:Hp):List Addr:=(aG h.objs.size).filter fun a=>(H a).isSome
def xH (h:Heap) (H:Hp):Heap:=PySem.W.hideAll h (trk h H)
theorem Ep (h:Heap) (H:Hp):(xH h H).objs.size=h.objs.size:=PySem.W.hideAll_size _ _
theorem Gy {h:Heap} {H:Hp} {b:Addr} {o:Obj} (e:h.get? b=some o) (n:H b=none):(xH h H).get? b=some o :=
 PySem.W.hideAll_get _ e fun hm=>by
  have q:(H b).isSome=true:=(bF.mp hm).2
  rw [n] at q;simp at q
theorem JV {h:Heap} {H:Hp} {b:Addr} {o:Obj} (e:(xH h H).get? b=some o):h.get? b=some o∧H b=none:=by
 have e':h.get? b=some o:=PySem.W.of_hideAll (trk h H) e
 refine ⟨e',?_⟩
 cases q:H b with
 | none=>rfl
 | some x =>
  have hm:b ∈ trk h H:=bF.mpr ⟨aR.mpr (Heap.lt_size e'),by simp [q]⟩
  have z:(xH h H).get? b=none:=PySem.W.hideAll_none (trk h H) hm
  rw [z] at e;cases e
def lB (g h:Heap) (L:Addr):List (Addr × Obj):=(aG h.objs.size).filterMap fun a=>if a=L∨(g.get? a).isSome=true then none else (h.get? a).map fun o=>(a,o)
theorem o7 {g h:Heap} {L a:Addr} {o:Obj} (h1:a ≠ L) (h2:g.get? a=none) (h3:h.get? a=some o):(a,o) ∈ lB g h L :=
 eU.mpr ⟨a,aR.mpr (Heap.lt_size h3),by simp [h1,h2,h3]⟩
theorem uw {g h:Heap} {L:Addr} {p:Addr × Obj} (hp:p ∈ lB g h L):p.1 ≠ L∧g.get? p.1=none∧h.get? p.1=some p.2:=by
 obtain ⟨b,_,e⟩:=eU.mp hp
 split at e
 ·cases e
 ·rename_i hn
  cases q:h.get? b with
  | none=>rw [q] at e;simp at e
  | some u =>
   rw [q] at e
   simp only [fW,cN.injEq] at e
   subst e
   refine ⟨fun z=>hn (.inl z),?_,q⟩
   show g.get? b=none
   cases r:g.get? b with
   | none=>rfl
   | some v=>exact (hn (.inr (by simp [r]))).elim
theorem ux {g h:Heap} {L:Addr}:News g L h (lB g h L):=fun p hp=>let ⟨a,b,c⟩:=uw hp;⟨c,a,b⟩
end L2
namespace L2
open PySem PySem.Spec PyProof.Rows
structure Mod (K:PySem.W.Frag) (mg:Str→Option Value) (base:Heap):Prop where
 kin:K.In base
 glob:base.Ns mainGlobals mg
 blt:∃ mb,base.Ns builtinsNs mb∧∀ x:Str,x ≠ "__name__" → mb x=bootBuiltins x
 nolimit:base.NoLimit
 bm:∃ bm ob,mg "__builtins__" = some (.ref bm)∧bm ≠ builtinsNs∧base.get? bm=some ob∧ob.cls = .type "module" ∧ ob.dict=some builtinsNs∧ob.data = .plain
structure Cx where
 prog:Program
 w:World
 K:PySem.W.Frag
 mg:Str→Option Value
 base:Heap
 A:Around
 N:List Str
 s₀:Shared
 H₀:Hp
 env:Env
 outer:List Env
 stack:List Env
 ex:List Addr
 fn:Str→Bool
 calm:Bool
 pn:List (Addr × Obj)
 xe:Value→Shared→Prop
def frs (l:List Env):List Addr:=l.filterMap (·.frame)
abbrev Cx.fs (X:Cx):List Addr:=frs X.outer
def Vis (sc:Scope) (x:Str):Prop:=sc.names.lookup x=some .local∨sc.names.lookup x=some .cell∨sc.names.lookup x=some .free
def Loc (sc:Scope) (x:Str):Prop:=sc.names.lookup x=some .local∨sc.names.lookup x=some .cell
def Look (env:Env) (h:Heap) (m:Str→Option Value) (x:Str) (u:Value):Prop :=
 (env.kindOf x=some .local∧m x=some u)∨((env.kindOf x=some .cell∨env.kindOf x=some .free)∧∃ c,env.cells.lookup x=some c∧h.IsCell c (some u))
structure Cx.Ok (X:Cx):Prop where
 mod:Mod X.K X.mg X.base
 kind:X.env.scope.kind = .function
 glob:X.env.globals=mainGlobals
 blt:X.env.builtins=builtinsNs
 above:X.s₀.heap.objs.size ≤ X.env.locals
 inj:∀ x y c,X.env.cells.lookup x=some c→X.env.cells.lookup y=some c→x=y
 has:∀ x,(X.env.kindOf x=some .cell∨X.env.kindOf x=some .free)→∃ c,X.env.cells.lookup x=some c
 cab:∀ x c,X.fn x=true→X.env.cells.lookup x=some c→X.s₀.heap.objs.size ≤ c
 hd:X.calm=true→X.A.handled=none
 frames:X.A.frames=some X.stack
 stk:X.stack=X.outer∨(X.stack=X.env :: X.outer∧X.env.frame=some X.env.locals)
 exf:∀ b ∈ X.ex,b ≠ X.env.locals∧∀ x c,X.env.cells.lookup x=some c→c ≠ b
 bs:∀ b o,X.base.get? b=some o→X.s₀.heap.get? b=some o∧X.H₀ b=none
 bsz:X.base.objs.size ≤ X.s₀.heap.objs.size
 noex:∀ b o,X.base.get? b=some o→b ∉ X.ex
 exfs:∀ b ∈ X.ex,b ∉ X.fs
 funs:X.s₀.heap.FunFrames X.base X.outer
 frf:∀ b ∈ X.fs,X.H₀ b=none
structure Inv (X:Cx) (pins:List (Addr × Obj)) (σ:List (Option V)) (H:Hp) (s:Shared):Prop where
 ok:X.Ok
 os:s.os=X.s₀.os
 bare:AllBare s.gens
 base:Un X.fs X.ex X.H₀ H X.s₀.heap s.heap
 loc:∃ m,s.heap.Ns X.env.locals m∧∀ (i:Nat) (x:Str) (v:V),X.N[i]? = some x→σ[i]? = some (some v)→Vis X.env.scope x→∃ u,RelV v u∧Look X.env s.heap m x u
 cell:∀ x c,X.env.cells.lookup x=some c→∃ v,s.heap.IsCell c v
 free:H X.env.locals=none
 freeC:∀ x c,X.env.cells.lookup x=some c→H c=none
 pin:∀ p ∈ X.pn++pins,s.heap.get? p.1=some p.2∧H p.1=none∧p.1 ≠ X.env.locals∧p.1 ∉ X.fs∧∀ v,p.2.data ≠ .cell v
 hok:HOk X.prog X.w H s.heap
 len:σ.length=X.N.length
section
variable {X:Cx} {pins:List (Addr × Obj)} {σ:List (Option V)} {H H':Hp} {s:Shared} {h':Heap}
theorem Cx.Ok.nofr (ok:X.Ok) {b:Addr} {o:Obj} (e:X.base.get? b=some o):b ∉ X.fs:=fun hb=>by
 have:=(ok.funs.mem hb).1
 rw [e] at this;cases this
theorem Inv.bs (I:Inv X pins σ H s):∀ b o,X.base.get? b=some o→s.heap.get? b=some o∧H b=none:=fun b o e =>
 ⟨I.base.keep b o (I.ok.bs b o e).1 (I.ok.bs b o e).2 (I.ok.nofr e) (I.ok.noex b o e),I.base.free b o (I.ok.bs b o e).1 (I.ok.bs b o e).2 (I.ok.noex b o e)⟩
theorem Inv.bk (I:Inv X pins σ H s):∀ b o,X.base.get? b=some o→s.heap.get? b=some o:=fun b o e=>(I.bs b o e).1
theorem Inv.mod (I:Inv X pins σ H s):Mod X.K X.mg X.base:=I.ok.mod
theorem Inv.kIn (I:Inv X pins σ H s):X.K.In s.heap:=I.ok.mod.kin.keeps I.bk
theorem Inv.lt (I:Inv X pins σ H s):X.env.locals < s.heap.objs.size:=let ⟨_,hn,_⟩:=I.loc;hn.lt
theorem Inv.sz (I:Inv X pins σ H s):X.s₀.heap.objs.size ≤ s.heap.objs.size:=bT I.ok.above (fZ I.lt)
theorem Inv.nofs (I:Inv X pins σ H s) {a:Addr} (h:s.heap.objs.size ≤ a):a ∉ X.fs:=fun hb=>by
 obtain ⟨_,o,ho,_⟩:=I.ok.funs.mem hb
 exact absurd (bN (Heap.lt_size ho) (bT I.sz h)) (gw _)
theorem Inv.cne (I:Inv X pins σ H s):∀ x c,X.env.cells.lookup x=some c→c ≠ X.env.locals:=fun x c e z=>by
 obtain ⟨v,o,ho,hd⟩:=I.cell x c e
 obtain ⟨m,⟨o',es,ep,ho',hd',_⟩,_⟩:=I.loc
 rw [z,ho'] at ho;cases ho;rw [hd'] at hd;cases hd
theorem Inv.funs (I:Inv X pins σ H s):s.heap.FunFrames X.base X.outer:=by
 have all:∀ (l:List Env),(∀ b ∈ frs l,b ∈ X.fs)→X.s₀.heap.FunFrames X.base l→s.heap.FunFrames X.base l:=by
  intro l
  induction l with
  | nil=>intro _ _;trivial
  | cons env r ih =>
   intro hs hl
   obtain ⟨hk,⟨L,o,hf,hn,ho,hd⟩,hr⟩:=hl
   have hL:L ∈ X.fs:=hs L (by unfold frs;rw [dH,hf];exact aN)
   obtain ⟨sl,e⟩:=I.base.slot L o ho (I.ok.frf L hL) hL fun z=>I.ok.exfs L z hL
   exact ⟨hk,⟨L,_,hf,hn,e,hd⟩,ih (fun b hb=>hs b (by unfold frs;rw [dH,hf];exact aO _ hb)) hr⟩
 exact all X.outer (fun _ hb=>hb) I.ok.funs
theorem Inv.stack (I:Inv X pins σ H s):s.heap.FunFrames X.base X.stack:=by
 rcases I.ok.stk with e | ⟨e,hf⟩
 ·rw [e];exact I.funs
 ·rw [e]
  obtain ⟨m,hn,_⟩:=I.loc
  refine .cons (by rw [I.ok.kind];decide) hf hn ?_ I.funs
  exact Heap.get?_none_of_le (bT I.ok.bsz I.ok.above)
theorem Inv.stkSub (I:Inv X pins σ H s):∀ b ∈ frs X.stack,b ∈ X.env.locals :: X.fs:=fun b hb=>by
 rcases I.ok.stk with e | ⟨e,hf⟩
 ·rw [e] at hb;exact aO _ hb
 ·rw [e] at hb
  unfold frs at hb
  rw [dH,hf] at hb
  exact hb
theorem Inv.stkFree (I:Inv X pins σ H s):∀ b ∈ frs X.stack,H b=none:=fun b hb=>by
 rcases bH.mp (I.stkSub b hb) with e | hb
 ·rw [e];exact I.free
 ·obtain ⟨_,o,ho,_⟩:=I.ok.funs.mem hb
  exact I.base.free b o ho (I.ok.frf b hb) fun z=>I.ok.exfs b z hb
theorem Inv.step {g':Array GenState} {t':Nat} {d':Drawn} {ch:List Addr} (I:Inv X pins σ H s)
 (hch:∀ b ∈ ch,(b ∈ X.ex∨X.s₀.heap.objs.size ≤ b)∧b ≠ X.env.locals∧(∀ x c,X.env.cells.lookup x=some c→c ≠ b)∧∀ p ∈ X.pn++pins,p.1 ≠ b)
 (keep:∀ b o,b ≠ X.env.locals→b ∉ X.fs→b ∉ ch→s.heap.get? b=some o→H b=none→h'.get? b=some o)
 (slot:∀ b o,b ≠ X.env.locals→b ∈ X.fs→b ∉ ch→s.heap.get? b=some o→H b=none→∃ sl,h'.get? b=some { o with slots:=sl }) (free:∀ b o,b ∉ ch→s.heap.get? b=some o→H b=none→H' b=none)
 (there:∀ b o,b ∉ ch→s.heap.get? b=some o→∃ o',h'.get? b=some o')
 (tups:∀ b xs,H b=some (.tup xs)→H' b=some (.tup xs)) (frzs:∀ b o u,H b=some (.frz o u)→H' b=some (.frz o u)) (tbls:∀ b q p,H b=some (.tbl q p)→H' b=some (.tbl q p))
 (ns:∀ m,s.heap.Ns X.env.locals m→h'.Ns X.env.locals m) (hok:HOk X.prog X.w H' h') (hg:AllBare g') :
 Inv X pins σ H' { s with heap:=h',gens:=g',drawn:=d',toks:=t' }:=by
 have neL:∀ b o,X.s₀.heap.get? b=some o→b ≠ X.env.locals:=fun b o e=>bR (bN (Heap.lt_size e) I.ok.above)
 have neC:∀ b o,X.s₀.heap.get? b=some o→b ∉ X.ex→b ∉ ch:=fun b o e hx hb=>by
  rcases (hch b hb).1 with z | z
  ·exact hx z
  ·exact absurd (bN (Heap.lt_size e) z) (gw _)
 have cellK:∀ x c,X.env.cells.lookup x=some c→∀ v,s.heap.IsCell c v→h'.IsCell c v:=fun x c e v ⟨o,ho,hd⟩=>by
  have nch:c ∉ ch:=fun z=>(hch c z).2.2.1 x c e rfl
  by_cases hc:c ∈ X.fs
  ·obtain ⟨sl,q⟩:=slot c o (I.cne x c e) hc nch ho (I.freeC x c e)
   exact ⟨_,q,hd⟩
  ·exact ⟨o,keep c o (I.cne x c e) hc nch ho (I.freeC x c e),hd⟩
 refine ⟨I.ok,I.os,hg,⟨fun b o e n hb hx=>?_,fun b o e n hb hx=>?_,fun b o e n hx=>?_,fun b o e hx=>?_,fun b xs e=>tups b xs (I.base.tups b xs e),fun b o xs e=>frzs b o xs (I.base.frzs b o xs e),fun b q p e=>tbls b q p (I.base.tbls b q p e)⟩,?_,fun x c e=>?_,?_,fun x c e=>?_,fun p hp=>?_,hok,I.len⟩
 ·exact keep b o (neL b o e) hb (neC b o e hx) (I.base.keep b o e n hb hx) (I.base.free b o e n hx)
 ·obtain ⟨sl,e1⟩:=I.base.slot b o e n hb hx
  obtain ⟨sl',e2⟩:=slot b _ (neL b o e) hb (neC b o e hx) e1 (I.base.free b o e n hx)
  exact ⟨sl',e2⟩
 ·obtain ⟨o',e1⟩:=I.base.there b o e hx
  exact free b o' (neC b o e hx) e1 (I.base.free b o e n hx)
 ·obtain ⟨o',e1⟩:=I.base.there b o e hx
  exact there b o' (neC b o e hx) e1
 ·obtain ⟨m,hn,hl⟩:=I.loc
  refine ⟨m,ns m hn,fun i x v e1 e2 e3=>?_⟩
  obtain ⟨u,r,l⟩:=hl i x v e1 e2 e3
  refine ⟨u,r,?_⟩
  rcases l with l | ⟨k,c,e,z⟩
  ·exact .inl l
  ·exact .inr ⟨k,c,e,cellK x c e _ z⟩
 ·obtain ⟨v,z⟩:=I.cell x c e
  exact ⟨v,cellK x c e v z⟩
 ·obtain ⟨m,⟨o,_,_,ho,_⟩,_⟩:=I.loc
  exact free _ o (fun z=>(hch _ z).2.1 rfl) ho I.free
 ·obtain ⟨v,o,ho,hd⟩:=I.cell x c e
  exact free c o (fun z=>(hch c z).2.2.1 x c e rfl) ho (I.freeC x c e)
 ·obtain ⟨e,n,ne,nf,d⟩:=I.pin p hp
  have nch:p.1 ∉ ch:=fun z=>(hch p.1 z).2.2.2 p hp rfl
  exact ⟨keep p.1 p.2 ne nf nch e n,free p.1 p.2 nch e n,ne,nf,d⟩
theorem Inv.un {t':Nat} (I:Inv X pins σ H s) (u:Un X.fs [] H H' s.heap h') (hok:HOk X.prog X.w H' h'):Inv X pins σ H' { s with heap:=h',toks:=t' }:=by
 obtain ⟨m,⟨o,es,ep,ho,r⟩,_⟩:=id I.loc
 obtain ⟨sl,hL⟩:=u.any ho I.free (by simp)
 exact I.step (g':=s.gens) (d':=s.drawn) (ch:=[]) (fun _ z=>nomatch z) (fun b o _ hb _ e n=>u.keep b o e n hb (by simp)) (fun b o _ hb _ e n=>u.slot b o e n hb (by simp)) (fun b o _ e n=>u.free b o e n (by simp)) (fun b o _ e=>u.there b o e (by simp)) u.tups u.frzs u.tbls (fun m' hm=>by
  obtain ⟨o',es',ep',ho',r'⟩:=hm
  rw [ho] at ho';cases ho'
  exact ⟨_,es',ep',hL,r'⟩) hok I.bare
theorem Inv.call {g':Array GenState} {t':Nat} {d':Drawn} {ch:List Addr} (I:Inv X pins σ H s) (u:Un (frs X.stack) ch H H' s.heap h') (hok:HOk X.prog X.w H' h') (hg:AllBare g')
 (hch:∀ b ∈ ch,(b ∈ X.ex∨X.s₀.heap.objs.size ≤ b)∧b ≠ X.env.locals∧(∀ x c,X.env.cells.lookup x=some c→c ≠ b)∧∀ p ∈ X.pn++pins,p.1 ≠ b) :
 Inv X pins σ H' { s with heap:=h',gens:=g',drawn:=d',toks:=t' }:=by
 obtain ⟨m,⟨o,es,ep,ho,r⟩,_⟩:=id I.loc
 obtain ⟨sl,hL⟩:=u.any ho I.free fun z=>(hch _ z).2.1 rfl
 exact I.step (ch:=ch) hch (fun b o hL hb hc e n=>u.keep b o e n (fun z=>(bH.mp (I.stkSub b z)).elim hL hb) hc) (fun b o _ _ hc e n=>u.any e n hc) (fun b o hc e n=>u.free b o e n hc) (fun b o hc e=>u.there b o e hc) u.tups u.frzs u.tbls (fun m' hm=>by
  obtain ⟨o',es',ep',ho',r'⟩:=hm
  rw [ho] at ho';cases ho'
  exact ⟨_,es',ep',hL,r'⟩) hok hg
theorem Inv.turned {t':Nat} {it:Addr} (I:Inv X pins σ H s) (k:∀ b o,b ≠ it→s.heap.get? b=some o→h'.get? b=some o) (hn:H it=none) (hL:it ≠ X.env.locals)
 (h1:it ∈ X.ex∨X.s₀.heap.objs.size ≤ it) (h2:∀ x c,X.env.cells.lookup x=some c→c ≠ it) (h3:∀ p ∈ X.pn++pins,p.1 ≠ it):Inv X pins σ H { s with heap:=h',toks:=t' }:=by
 have nit:∀ b u,H b=some u→b ≠ it:=fun b u e z=>by rw [z,hn] at e;cases e
 refine I.step (g':=s.gens) (d':=s.drawn) (ch:=[it]) (fun b hb=>?_) (fun b o _ _ hc e _=>k b o (fun z=>hc (by simp [z])) e) (fun b o _ _ hc e _=>⟨o.slots,k b o (fun z=>hc (by simp [z])) e⟩) (fun _ _ _ _ n=>n)
  (fun b o hc e=>⟨o,k b o (fun z=>hc (by simp [z])) e⟩) (fun _ _ e=>e) (fun _ _ _ e=>e) (fun _ _ _ e=>e) (fun m hm=>?_) (fun b u e=>?_) I.bare
 ·have e:b=it:=by simpa using hb
  subst e
  exact ⟨h1,hL,h2,h3⟩
 ·obtain ⟨o,es,ep,ho,r⟩:=hm
  exact ⟨o,es,ep,k _ o (Ne.symm hL) ho,r⟩
 ·refine (I.hok b u e).stay (fun c v hc q=>k c v ?_ q) (fun _ q=>q) fun _ _ q=>q
  rcases hc with z | z
  ·rw [z];exact nit b u e
  ·exact nit c _ z
theorem Inv.tok (I:Inv X pins σ H s) (t:Nat):Inv X pins σ H { s with toks:=t }:=I.un (h':=s.heap) (t':=t) Un.refl I.hok
theorem Inv.kept {t':Nat} (I:Inv X pins σ H s) (k:∀ b u,s.heap.get? b=some u→h'.get? b=some u):Inv X pins σ H { s with heap:=h',toks:=t' }:=I.un (Un.kept k) (I.hok.kept k)
theorem Inv.laid {a:Addr} {o:HO} {t':Nat} (I:Inv X pins σ H s) (k:∀ b u,s.heap.get? b=some u→h'.get? b=some u) (hp:s.heap.objs.size ≤ a) (new:gB X.prog X.w (upd H a o) h' a o) :
 Inv X pins σ (upd H a o) { s with heap:=h',toks:=t' }:=I.un (Un.laid k hp (I.hok.fresh hp)) (I.hok.laid k hp new)
theorem Inv.write {x e:Addr} {o:HO} {t':Nat} (I:Inv X pins σ H s) (mu:Mut (H x)) (he:e=x∨H e=some (.own x)) (k:∀ b u,b ≠ e→s.heap.get? b=some u→h'.get? b=some u) (heo:∃ u,h'.get? e=some u)
 (new:gB X.prog X.w (upd H x o) h' x o):Inv X pins σ (upd H x o) { s with heap:=h',toks:=t' }:=I.un (Un.write mu he k heo) (I.hok.write mu he k heo new)
theorem Inv.pins_of {pins':List (Addr × Obj)} (I:Inv X pins σ H s) (h:∀ p ∈ pins',s.heap.get? p.1=some p.2∧H p.1=none∧p.1 ≠ X.env.locals∧p.1 ∉ X.fs∧∀ v,p.2.data ≠ .cell v):Inv X pins' σ H s :=
 ⟨I.ok,I.os,I.bare,I.base,I.loc,I.cell,I.free,I.freeC,fun p hp=>(aV.mp hp).elim (fun z=>I.pin p (aW _ z)) (h p),I.hok,I.len⟩
theorem zq {N:List Str} (hN:N.Nodup) {i j:Nat} {x:Str} (a:N[i]? = some x) (b:N[j]? = some x):i=j:=by
 obtain ⟨h1,e1⟩:=cD.mp a
 obtain ⟨h2,e2⟩:=cD.mp b
 exact (List.getElem_inj hN).mp (e1.trans e2.symm)
theorem wj {M:Model} {A:Around} {E:Value→Shared→Prop} {i:Nat} {x:Str} {v:V} {u:Value} {Q:Unit→Shared→Prop} (I:Inv X pins σ H s) (hN:X.N.Nodup) (hi:X.N[i]? = some x) (hx:Loc X.env.scope x) (r:RelV v u)
 (h:∀ s',Inv X pins (σ.set i (some v)) H s'→(∃ a,Heap.SameBut a s.heap s'.heap∧(a=X.env.locals∨X.env.cells.lookup x=some a))→Q () s') (hf:X.fn x=true∨X.env.scope.names.lookup x=some .local:=by first | exact .inl rfl | exact .inr rfl | assumption):wpAny M A (storeName X.env x u) Q E s:=by
 obtain ⟨m,hn,hl⟩:=id I.loc
 have hcls:(X.env.scope.kind == .class || (X.env.scope.kind == .module && X.env.locals != X.env.globals))=false:=by rw [I.ok.kind];rfl
 have hiσ:i < σ.length:=by rw [I.len];exact (cD.mp hi).1
 have cne:=I.cne
 have tracked:∀ {a:Addr} {h':Heap},(∃ o,s.heap.get? a=some o∧H a=none)→Heap.SameBut a s.heap h'→HOk X.prog X.w H h':=fun {a h'} ha hs b ob e=>by
  obtain ⟨_,_,hfree⟩:=ha
  refine (I.hok b ob e).stay (fun c w' hc q=>(hs.2 c ?_).trans q) (fun _ q=>q) fun _ _ q=>q
  rintro rfl
  rcases hc with rfl | hc
  ·rw [hfree] at e;cases e
  ·rw [hfree] at hc;cases hc
 rcases hx with hk | hk
 ·refine wpAny_storeName_local hk hn (fun h' hn' hs=>?_) hcls
  obtain ⟨oL,_,_,hoL,_⟩:=id hn
  refine h _ ⟨I.ok,I.os,I.bare,⟨fun b o e n hb hx=>?_,fun b o e n hb hx=>?_,I.base.free,fun b o e hx=>?_,I.base.tups,I.base.frzs,I.base.tbls⟩,⟨_,hn',fun j y v' e1 e2 e3=>?_⟩,fun y c e=>?_,I.free,I.freeC,fun p hp=>?_,tracked ⟨oL,hoL,I.free⟩ hs,by simpa using I.len⟩ ⟨_,hs,.inl rfl⟩
  ·exact (hs.2 b (bR (bN (Heap.lt_size e) I.ok.above))).trans (I.base.keep b o e n hb hx)
  ·obtain ⟨sl,e1⟩:=I.base.slot b o e n hb hx
   exact ⟨sl,(hs.2 b (bR (bN (Heap.lt_size e) I.ok.above))).trans e1⟩
  ·obtain ⟨o',e1⟩:=I.base.there b o e hx
   exact ⟨o',(hs.2 b (bR (bN (Heap.lt_size e) I.ok.above))).trans e1⟩
  ·by_cases hj:j=i
   ·subst hj
    rw [hi] at e1;cases e1
    rw [cV hiσ] at e2
    cases e2
    exact ⟨u,r,.inl ⟨hk,by simp⟩⟩
   ·rw [bD (Ne.symm hj)] at e2
    obtain ⟨u',r',q⟩:=hl j y v' e1 e2 e3
    refine ⟨u',r',?_⟩
    rcases q with ⟨k,e⟩ | ⟨k,c,e,z⟩
    ·refine .inl ⟨k,?_⟩
     have:y ≠ x:=fun e=>hj (zq hN e1 (e ▸ hi))
     simp [this,e]
    ·exact .inr ⟨k,c,e,z.sameBut hs (cne y c e)⟩
  ·obtain ⟨w',z⟩:=I.cell y c e
   exact ⟨w',z.sameBut hs (cne y c e)⟩
  ·obtain ⟨e,n,ne,nf,d⟩:=I.pin p hp
   exact ⟨(hs.2 p.1 ne).trans e,n,ne,nf,d⟩
 ·have hfn:X.fn x=true:=by
   rcases hf with z | z
   ·exact z
   ·rw [z] at hk;cases hk
  obtain ⟨c,hc⟩:=I.ok.has x (.inl hk)
  obtain ⟨w',z⟩:=I.cell x c hc
  refine wpAny_storeName_cell I.ok.kind hk hc z (fun h' hc' hs=>?_)
  obtain ⟨oc,hoc,hocd⟩:=id z
  refine h { s with heap:=h' } ⟨I.ok,I.os,I.bare,⟨fun b o e n hb hx=>?_,fun b o e n hb hx=>?_,I.base.free,fun b o e hx=>?_,I.base.tups,I.base.frzs,I.base.tbls⟩,⟨m,hn.sameBut hs (Ne.symm (cne x c hc)),fun j y v' e1 e2 e3=>?_⟩,fun y c' e=>?_,I.free,I.freeC,fun p hp=>?_,tracked ⟨oc,hoc,I.freeC x c hc⟩ hs,by simpa using I.len⟩ ⟨c,hs,.inr hc⟩
  ·exact (hs.2 b (bR (bN (Heap.lt_size e) (I.ok.cab x c hfn hc)))).trans (I.base.keep b o e n hb hx)
  ·obtain ⟨sl,e1⟩:=I.base.slot b o e n hb hx
   exact ⟨sl,(hs.2 b (bR (bN (Heap.lt_size e) (I.ok.cab x c hfn hc)))).trans e1⟩
  ·obtain ⟨o',e1⟩:=I.base.there b o e hx
   exact ⟨o',(hs.2 b (bR (bN (Heap.lt_size e) (I.ok.cab x c hfn hc)))).trans e1⟩
  ·by_cases hj:j=i
   ·subst hj
    rw [hi] at e1;cases e1
    rw [cV hiσ] at e2
    cases e2
    exact ⟨u,r,.inr ⟨.inl hk,c,hc,hc'⟩⟩
   ·rw [bD (Ne.symm hj)] at e2
    obtain ⟨u',r',q⟩:=hl j y v' e1 e2 e3
    refine ⟨u',r',?_⟩
    rcases q with q | ⟨k,c',e,z'⟩
    ·exact .inl q
    ·refine .inr ⟨k,c',e,z'.sameBut hs ?_⟩
     rintro rfl
     exact hj (zq hN e1 (I.ok.inj _ _ _ e hc ▸ hi))
  ·by_cases hcc:c'=c
   ·subst hcc;exact ⟨_,hc'⟩
   ·obtain ⟨w2,z2⟩:=I.cell y c' e
    exact ⟨w2,z2.sameBut hs hcc⟩
  ·obtain ⟨e,n,ne,nf,d⟩:=I.pin p hp
   refine ⟨(hs.2 p.1 ?_).trans e,n,ne,nf,d⟩
   intro q
   rw [q,hoc] at e
   have q':oc=p.2:=cN.inj e
   exact d w' (by rw [← q'];exact hocd)
theorem zu {M:Model} {A:Around} {E:Value→Shared→Prop} {i:Nat} {x:Str} {v:V} {u:Value} {Q:Unit→Shared→Prop} (I:Inv X pins σ H s) (hN:X.N.Nodup) (hi:X.N[i]? = some x) (hx:Loc X.env.scope x) (r:RelV v u)
 (h:∀ s',Inv X pins (σ.set i (some v)) H s'→Q () s') (hf:X.fn x=true∨X.env.scope.names.lookup x=some .local:=by first | exact .inl rfl | exact .inr rfl | assumption):wpAny M A (storeName X.env x u) Q E s :=
 wj I hN hi hx r (fun s' I' _=>h s' I') hf
end
abbrev XK:=Value→Option Addr→Hp→Prop
abbrev St:=List (Option V)
abbrev VK:=V→Hp→Prop
abbrev TE:=St→Hp→VK→Prop
abbrev TT:=St→Hp→(Bool→Hp→Prop)→Prop
abbrev TA:=St→Hp→(List V→Hp→Prop)→Prop
structure Ends where
 nx:St→Hp→Prop
 rt:VK
 bk:St→Hp→Prop:=fun _ _=>False
 ct:St→Hp→Prop:=fun _ _=>False
abbrev TS:=Ends→St→Hp→Prop
def EP (X:Cx) (pins:List (Addr × Obj)) (σ:St) (Q:VK) (u:Value) (s':Shared):Prop:=∃ v H',Inv X pins σ H' s'∧RelV v u∧Q v H'
def TP (X:Cx) (pins:List (Addr × Obj)) (σ:St) (Q:Bool→Hp→Prop) (b:Bool) (s':Shared):Prop:=∃ H',Inv X pins σ H' s'∧Q b H'
def AP (X:Cx) (pins:List (Addr × Obj)) (σ:St) (Q:List V→Hp→Prop) (us:List Value) (s':Shared):Prop:=∃ vs H',Inv X pins σ H' s'∧Vals vs us∧Q vs H'
def SP (X:Cx) (pins:List (Addr × Obj)) (D:Ends) (f:Flow) (s':Shared):Prop :=
 match f with
 | .next=>∃ σ' H',Inv X pins σ' H' s'∧D.nx σ' H'
 | .brk=>∃ σ' H',Inv X pins σ' H' s'∧D.bk σ' H'
 | .cont=>∃ σ' H',Inv X pins σ' H' s'∧D.ct σ' H'
 | .ret u=>∃ v σ' H',Inv X pins σ' H' s'∧RelV v u∧D.rt v H'
def PE (X:Cx) (e:Expr) (t:TE):Prop :=
 ∀ (pins:List (Addr × Obj)) (s:Shared) (σ:St) (H:Hp) (Q:VK),Inv X pins σ H s→t σ H Q→wpAny (model X.prog X.w) X.A (eval e X.env) (EP X pins σ Q) X.xe s
def PT (X:Cx) (e:Expr) (t:TT):Prop :=
 ∀ (pins:List (Addr × Obj)) (s:Shared) (σ:St) (H:Hp) (Q:Bool→Hp→Prop),Inv X pins σ H s→t σ H Q→wpAny (model X.prog X.w) X.A (isTrue e X.env (eval e X.env)) (TP X pins σ Q) X.xe s
def PW (X:Cx) (e:Expr) (t:TT):Prop :=
 ∀ (whole:Sem Value) (pins:List (Addr × Obj)) (s:Shared) (σ:St) (H:Hp) (Q:Bool→Hp→Prop),Inv X pins σ H s→t σ H Q→wpAny (model X.prog X.w) X.A (isTrue e X.env whole) (TP X pins σ Q) X.xe s
theorem PW.pt {X:Cx} {e:Expr} {t:TT} (h:PW X e t):PT X e t:=h _
def PA (X:Cx) (es:List Expr) (t:TA):Prop :=
 ∀ (pos:Pos) (pins:List (Addr × Obj)) (s:Shared) (σ:St) (H:Hp) (Q:List V→Hp→Prop),Inv X pins σ H s→t σ H Q→wpAny (model X.prog X.w) X.A (spliced (backTo pos (starEach es X.env))) (AP X pins σ Q) X.xe s
def PS (X:Cx) (st:Stmt) (t:TS):Prop :=
 ∀ (pins:List (Addr × Obj)) (s:Shared) (σ:St) (H:Hp) (D:Ends),Inv X pins σ H s→t D σ H→wpAny (model X.prog X.w) X.A (exec st X.env) (SP X pins D) X.xe s
def PSs (X:Cx) (st:List Stmt) (t:TS):Prop :=
 ∀ (pins:List (Addr × Obj)) (s:Shared) (σ:St) (H:Hp) (D:Ends),Inv X pins σ H s→t D σ H→wpAny (model X.prog X.w) X.A (execs st X.env) (SP X pins D) X.xe s
theorem thn {α:Type} {t:Sem α} {Q Q':α→Shared→Prop} {M:Model} {A:Around} {E:Value→Shared→Prop} {s:Shared} (h:wpAny M A t Q E s) (hQ:∀ a s,Q a s→Q' a s):wpAny M A t Q' E s:=wpAny_mono h hQ fun _ _ x=>x
end L2
namespace L2
open PySem PySem.Spec PyProof.Rows
section
variable {X:Cx}
def UW (i:Nat):TE:=fun σ H Q=>∃ v,σ[i]? = some (some v)∧Q v H
def tC (v:V):TE:=fun _ H Q=>Q v H
theorem mY {i:Nat} {x:Str} {pos:Pos} (hN:X.N[i]? = some x) (hv:Vis X.env.scope x) (hd:(x == ("__debug__" : Str))=false:=by decide) (hcd:(x == ("__classdict__" : Str))=false:=by decide):PE X (.Name x pos) (UW i):=by
 intro pins s σ H Q I h
 obtain ⟨v,e,h⟩:=h
 obtain ⟨m,hn,hl⟩:=I.loc
 obtain ⟨u,r,l⟩:=hl i x v hN e hv
 have fin:EP X pins σ Q u s:=⟨v,H,I,r,h⟩
 rcases l with ⟨hk,hm⟩ | ⟨hk,c,hc,hcell⟩
 ·exact wpAny_Name (wpAny_loadName_local I.ok.kind hk hn hm fin) hd
 ·rcases hk with hk | hk
  ·exact wpAny_Name (wpAny_loadName_cell I.ok.kind hk hc hcell fin) hd
  ·exact wpAny_Name (wpAny_loadName_free I.ok.kind hk hc hcell fin hcd) hd
theorem N6 {i j pos}:PE X (.Constant (.int i) j pos) (tC (.int i)):=fun _ _ _ H _ I h=>wpAny_Constant_int ⟨.int i,H,I.tok _,⟨_,rfl⟩,h⟩
theorem CW {b j pos}:PE X (.Constant (.bool b) j pos) (tC (.bl b)):=fun _ _ _ H _ I h=>Constant_bool ⟨.bl b,H,I,rfl,h⟩
theorem Gz {j pos}:PE X (.Constant .none j pos) (tC .non):=fun _ _ _ H _ I h=>Constant_none ⟨.non,H,I,rfl,h⟩
theorem N7 {x j pos}:PE X (.Constant (.str x) j pos) (tC (.str x)):=fun _ _ _ H _ I h=>Calls.Constant_str ⟨.str x,H,I.tok _,⟨_,rfl⟩,h⟩
def Gl (X:Cx) (x:Str):Prop:=X.env.kindOf x=some .globalImplicit
theorem CZ {E:Value→Shared→Prop} {pins:List (Addr × Obj)} {s:Shared} {σ:St} {H:Hp} {x:Str} {u:Value} {pos:Pos} {Q:Value→Shared→Prop} (I:Inv X pins σ H s) (hg:Gl X x) (hm:X.mg x=some u) (h:Q u s)
 (hd:(x == ("__debug__" : Str))=false:=by decide):wpAny (model X.prog X.w) X.A (eval (.Name x pos) X.env) Q E s :=
 Calls.Name_function_global I.ok.kind hg (Calls.loadGlobal_global (by rw [I.ok.glob];exact I.mod.glob.keeps I.bk) hm h) hd
theorem qt {E:Value→Shared→Prop} {pins:List (Addr × Obj)} {s:Shared} {σ:St} {H:Hp} {x:Str} {u:Value} {pos:Pos} {Q:Value→Shared→Prop} (I:Inv X pins σ H s) (hg:Gl X x) (hm:X.mg x=none) (hv:bootBuiltins x=some u) (h:Q u s)
 (hn:x ≠ "__name__" := by decide) (hd:(x == ("__debug__" : Str))=false:=by decide):wpAny (model X.prog X.w) X.A (eval (.Name x pos) X.env) Q E s:=by
 obtain ⟨mb,h1,h2⟩:=I.mod.blt
 exact Calls.Name_function_global I.ok.kind hg (Calls.loadGlobal_builtin (by rw [I.ok.glob];exact I.mod.glob.keeps I.bk) hm (by rw [I.ok.blt];exact h1.keeps I.bk) ((h2 x hn).trans hv) h) hd
theorem JW {x:Str} {v:V} {u:Value} {pos:Pos} (hg:Gl X x) (hm:X.mg x=some u) (r:RelV v u) (hd:(x == ("__debug__" : Str))=false:=by decide):PE X (.Name x pos) (tC v) :=
 fun _ _ _ H _ I h=>CZ I hg hm ⟨v,H,I,r,h⟩ hd
theorem JX {x:Str} {v:V} {u:Value} {pos:Pos} (hg:Gl X x) (hm:X.mg x=none) (hv:bootBuiltins x=some u) (r:RelV v u) (hn:x ≠ "__name__" := by decide) (hd:(x == ("__debug__" : Str))=false:=by decide):PE X (.Name x pos) (tC v) :=
 fun _ _ _ H _ I h=>qt I hg hm hv ⟨v,H,I,r,h⟩ hn hd
variable {a b:Expr} {ta tb:TE} {pos:Pos}
def PC (X:Cx) (op:CmpOp) (a b:Expr) (t:TE):Prop :=
 ∀ (pins:List (Addr × Obj)) (s:Shared) (σ:St) (H:Hp) (Q:VK),Inv X pins σ H s→t σ H Q →
  wpAny (model X.prog X.w) X.A (eval a X.env) (fun v s₁=>wpAny (model X.prog X.w) X.A (eval b X.env) (fun u s₂=>wpAny (model X.prog X.w) X.A (compareOp op v u) (EP X pins σ Q) X.xe s₂) X.xe s₁) X.xe s
theorem zy (b:Expr) {op:CmpOp} (h:op ≠ .In) (h2:op ≠ .NotIn):behindInMarks op b=false:=by
 have e1:(op == CmpOp.In)=false:=by cases op <;> first | rfl | exact absurd rfl h
 have e2:(op == CmpOp.NotIn)=false:=by cases op <;> first | rfl | exact absurd rfl h2
 cases b <;> simp [behindInMarks,e1,e2]
def U0 (ta:TE):TE:=fun σ H Q=>ta σ H fun x H1=>Q (.bl (decide (x = .non))) H1
def Rw (ta:TE):TE:=fun σ H Q=>ta σ H fun x H1=>Q (.bl (!decide (x = .non))) H1
theorem RelV.none_iff {x:V} {v:Value} (r:RelV x v):(v == Value.none)=decide (x = .non):=by
 cases x with
 | non=>cases r;rfl
 | bl _=>cases r;rfl
 | int _=>obtain ⟨t,rfl⟩:=r;rfl
 | str _=>obtain ⟨t,rfl⟩:=r;rfl
 | byt _=>obtain ⟨t,rfl⟩:=r;rfl
 | flt _=>obtain ⟨t,rfl⟩:=r;rfl
 | ref _=>cases r;rfl
 | ty _=>cases r;rfl
theorem GC {j pos'} (ha:PE X a ta):PC X .Is a (.Constant .none j pos') (U0 ta):=by
 intro pins s σ H Q I h
 refine thn (ha pins s σ H _ I h) fun v s1 ⟨x,H1,I1,r1,q1⟩=>?_
 exact Constant_none (is_none_gen ⟨.bl _,H1,I1,by rw [r1.none_iff];rfl,q1⟩)
theorem JZ {j pos'} (ha:PE X a ta):PC X .IsNot a (.Constant .none j pos') (Rw ta):=by
 intro pins s σ H Q I h
 refine thn (ha pins s σ H _ I h) fun v s1 ⟨x,H1,I1,r1,q1⟩=>?_
 exact Constant_none (isnot_none_gen ⟨.bl _,H1,I1,by rw [r1.none_iff];rfl,q1⟩)
def tB (t:TE):TT:=fun σ H Q=>t σ H fun x H1=>∃ c,x = .bl c∧Q c H1
theorem N8 {op:CmpOp} {t:TE} (h:PC X op a b t) (h1:behindInMarks op b=false:=by first | exact zy _ (by decide) (by decide) | rfl):PE X (.Compare a [op] [b] pos) t:=fun pins s σ H Q I hw=>wpAny_Compare1 (h pins s σ H Q I hw) h1
theorem GD {op:CmpOp} {t:TE} (h:PC X op a b t) (h1:behindInMarks op b=false:=by first | exact zy _ (by decide) (by decide) | rfl):PT X (.Compare a [op] [b] pos) (tB t):=by
 intro pins s σ H Q I hw
 refine wpAny_isTrue_Compare1 (thn (h pins s σ H _ I hw) fun v s1 h1=>thn h1 fun u s2 h2=>thn h2 fun c s3 ⟨x,H1,I1,r1,q1⟩=>?_) h1
 obtain ⟨d,rfl,q⟩:=q1
 cases r1
 exact wpAny_truthy_bool ⟨H1,I1,q⟩
theorem N_ {e:Expr} {t:TE} (h:PE X e t) (he:∀ whole,isTrue e X.env whole=(do let v ← whole;standAt e.pos;holding [v] (truthy v)):=by intro _;rfl):PT X e (tB t):=by
 intro pins s σ H Q I hw
 refine isTrue_plain (thn (h pins s σ H _ I hw) fun v s1 ⟨x,H1,I1,r1,q1⟩=>?_) (he _)
 obtain ⟨d,rfl,q⟩:=q1
 cases r1
 exact wpAny_truthy_bool ⟨H1,I1,q⟩
variable {tA tB':TT} {rest:List Expr}
def jA (t u:TT):TT:=fun σ H Q=>t σ H fun c H1=>if c=true then u σ H1 Q else Q false H1
def tOr (t u:TT):TT:=fun σ H Q=>t σ H fun c H1=>if c=true then Q true H1 else u σ H1 Q
def n6 (t:TT):TT:=fun σ H Q=>t σ H fun c H1=>Q (!c) H1
theorem J0 (ha:PT X a tA):PW X (.BoolOp .And [a] pos) tA:=by
 intro wh pins s σ H Q I h
 refine isTrue_and (thn (ha pins s σ H Q I h) fun c s1 e=>?_)
 cases c with
 | true=>exact isTrue_and_nil e
 | false=>exact e
theorem Oa (ha:PT X a tA):PW X (.BoolOp .Or [a] pos) tA:=by
 intro wh pins s σ H Q I h
 refine isTrue_or (thn (ha pins s σ H Q I h) fun c s1 e=>?_)
 cases c with
 | false=>exact isTrue_or_nil e
 | true=>exact e
theorem Ob (ha:PT X a tA) (hb:PW X (.BoolOp .And (b :: rest) pos) tB'):PW X (.BoolOp .And (a :: b :: rest) pos) (jA tA tB'):=by
 intro wh pins s σ H Q I h
 refine isTrue_and (thn (ha pins s σ H _ I h) fun c s1 ⟨H1,I1,q1⟩=>?_)
 cases c with
 | true=>exact hb wh pins s1 σ H1 Q I1 q1
 | false=>exact ⟨H1,I1,q1⟩
theorem Rx (ha:PT X a tA) (hb:PW X (.BoolOp .Or (b :: rest) pos) tB'):PW X (.BoolOp .Or (a :: b :: rest) pos) (tOr tA tB'):=by
 intro wh pins s σ H Q I h
 refine isTrue_or (thn (ha pins s σ H _ I h) fun c s1 ⟨H1,I1,q1⟩=>?_)
 cases c with
 | true=>exact ⟨H1,I1,q1⟩
 | false=>exact hb wh pins s1 σ H1 Q I1 q1
theorem Od (ha:PT X a tA):PT X (.UnaryOp .Not a pos) (n6 tA):=by
 intro pins s σ H Q I h
 exact isTrue_not (ha pins s σ H (fun c H1=>Q (!c) H1) I h)
def Ry (ta tb:TE):TE:=fun σ H Q=>ta σ H fun x H1=>∃ c,x = .bl c∧if c=true then tb σ H1 Q else Q (.bl false) H1
def Rz (ta:TE):TE:=fun σ H Q=>ta σ H fun x H1=>∃ c,x = .bl c∧Q (.bl (!c)) H1
theorem Oe {op} {t:TE} (h:PE X a t):PE X (.BoolOp op [a] pos) t:=fun pins s σ H Q I hw=>BoolOp_one (h pins s σ H Q I hw)
theorem Og (ha:PE X a ta) (hb:PE X (.BoolOp .And (b :: rest) pos) tb):PE X (.BoolOp .And (a :: b :: rest) pos) (Ry ta tb):=by
 intro pins s σ H Q I h
 refine BoolOp_and (thn (ha pins s σ H _ I h) fun v s1 ⟨x,H1,I1,r1,q1⟩=>?_)
 obtain ⟨c,rfl,q1⟩:=q1
 cases r1
 refine wpAny_truthy_bool ?_
 cases c with
 | true=>exact hb pins s1 σ H1 Q I1 q1
 | false=>exact ⟨.bl false,H1,I1,rfl,q1⟩
theorem Oh (ha:PE X a ta):PE X (.UnaryOp .Not a pos) (Rz ta):=by
 intro pins s σ H Q I h
 refine UnaryOp_ (thn (ha pins s σ H _ I h) fun v s1 ⟨x,H1,I1,r1,q1⟩=>?_)
 obtain ⟨c,rfl,q1⟩:=q1
 cases r1
 exact not_of (wpAny_truthy_bool ⟨.bl (!c),H1,I1,rfl,q1⟩)
end
end L2
namespace L2
open PySem PySem.Spec PyProof.Rows
def SqL (K:PySem.W.Frag) (H:Hp) (a:Addr) (xs:List V):Prop :=
 Rd H a (.lst xs) ∨
  ∃ (o:Obj) (its:Array Value) (n:Nat),K.lookup a=some o∧o.cls = .type "list" ∧ o.dict=none∧o.data = .seq its n∧its.size ≤ sizeLine∧Vals xs its.toList
def SqT (K:PySem.W.Frag) (H:Hp) (a:Addr) (xs:List V):Prop :=
 Rd H a (.tup xs) ∨
  ∃ (o:Obj) (its:Array Value) (n:Nat),K.lookup a=some o∧o.cls = .type "tuple" ∧ o.data = .seq its n∧its.size ≤ sizeLine∧Vals xs its.toList
def U3:Value→Option V
 | .none=>some .non
 | .bool b=>some (.bl b)
 | .int i _=>some (.int i)
 | .str x _=>some (.str x)
 | .bytes b _=>some (.byt b)
 | .float b _=>some (.flt b)
 | .ref a=>some (.ref a)
 | .type n=>some (.ty n)
 | _=>none
theorem RelV.abs {x:V} {u:Value} (r:RelV x u):U3 u=some x:=by
 cases x with
 | non=>cases r;rfl
 | bl _=>cases r;rfl
 | int _=>obtain ⟨t,rfl⟩:=r;rfl
 | str _=>obtain ⟨t,rfl⟩:=r;rfl
 | byt _=>obtain ⟨t,rfl⟩:=r;rfl
 | flt _=>obtain ⟨t,rfl⟩:=r;rfl
 | ref _=>cases r;rfl
 | ty _=>cases r;rfl
theorem RelV.inj {x y:V} {u:Value} (r:RelV x u) (q:RelV y u):x=y:=cN.inj (r.abs.symm.trans q.abs)
theorem Vals.inj:∀ {xs ys:List V} {us:List Value},Vals xs us→Vals ys us→xs=ys
 | _,_,_,.nil,.nil=>rfl
 | _,_,_,.cons r t,.cons r' t'=>by rw [r.inj r',Vals.inj t t']
section
variable {X:Cx} {pins:List (Addr × Obj)} {σ:St} {H:Hp} {s:Shared} {a:Addr} {xs ys:List V}
theorem SqL.of {K:PySem.W.Frag} (h:H a=some (.lst xs)):SqL K H a xs:=.inl (.inl h)
theorem Inv.list (I:Inv X pins σ H s) (h:SqL X.K H a xs):∃ its:List Value,Vals xs its∧PlainL s.heap a its.toArray∧xs.length ≤ sizeLine:=by
 rcases h with h | ⟨o,its,n,hk,hc,hd,hs,hz,r⟩
 ·obtain ⟨z,its,n,r,e⟩:=h.ok I.hok
  exact ⟨its,r,⟨_,n,e,rfl,rfl,rfl⟩,z⟩
 ·refine ⟨its.toList,r,⟨o,n,I.kIn a o hk,hc,hd,by simpa using hs⟩,?_⟩
  have e:=r.length
  simp only [lq] at e
  omega
theorem Inv.tuple (I:Inv X pins σ H s) (h:SqT X.K H a xs):∃ its:List Value,Vals xs its∧IsTup s.heap a its.toArray∧xs.length ≤ sizeLine:=by
 rcases h with h | ⟨o,its,n,hk,hc,hs,hz,r⟩
 ·obtain ⟨z,its,r,p⟩:=h.ok I.hok
  exact ⟨its,r,p,z⟩
 ·refine ⟨its.toList,r,⟨o,I.kIn a o hk,hc,n,by simpa using hs⟩,?_⟩
  have e:=r.length
  simp only [lq] at e
  omega
theorem Inv.list_inj (I:Inv X pins σ H s) (h:SqL X.K H a xs) (h':SqL X.K H a ys):xs=ys:=by
 obtain ⟨its,r,⟨o,n,e,_,_,d⟩,_⟩:=I.list h
 obtain ⟨its',r',⟨o',n',e',_,_,d'⟩,_⟩:=I.list h'
 rw [e] at e';cases e'
 rw [d] at d'
 injection d' with d1 _
 have:its=its':=by simpa using congrArg Array.toList d1
 subst this
 exact r.inj r'
theorem Inv.tuple_inj (I:Inv X pins σ H s) (h:SqT X.K H a xs) (h':SqT X.K H a ys):xs=ys:=by
 obtain ⟨its,r,⟨o,e,_,n,d⟩,_⟩:=I.tuple h
 obtain ⟨its',r',⟨o',e',_,n',d'⟩,_⟩:=I.tuple h'
 rw [e] at e';cases e'
 rw [d] at d'
 injection d' with d1 _
 have:its=its':=by simpa using congrArg Array.toList d1
 subst this
 exact r.inj r'
end
abbrev Cx.wish (X:Cx) (E:Value→Shared→Prop):Cx:={ X with xe:=E }
abbrev Cx.nox (X:Cx):Cx:=X.wish fun _ _=>False
theorem Cx.Ok.wish {X:Cx} (ok:X.Ok) (E:Value→Shared→Prop):(X.wish E).Ok :=
 ⟨ok.mod,ok.kind,ok.glob,ok.blt,ok.above,ok.inj,ok.has,ok.cab,ok.hd,ok.frames,ok.stk,ok.exf,ok.bs,ok.bsz,ok.noex,ok.exfs,ok.funs,ok.frf⟩
theorem Cx.Ok.unwish {X:Cx} {E:Value→Shared→Prop} (ok:(X.wish E).Ok):X.Ok :=
 ⟨ok.mod,ok.kind,ok.glob,ok.blt,ok.above,ok.inj,ok.has,ok.cab,ok.hd,ok.frames,ok.stk,ok.exf,ok.bs,ok.bsz,ok.noex,ok.exfs,ok.funs,ok.frf⟩
section
variable {X:Cx} {pins:List (Addr × Obj)} {σ:St} {H:Hp} {s:Shared} {E:Value→Shared→Prop}
theorem Inv.wish (I:Inv X pins σ H s) (E:Value→Shared→Prop):Inv (X.wish E) pins σ H s:=⟨I.ok.wish E,I.os,I.bare,I.base,I.loc,I.cell,I.free,I.freeC,I.pin,I.hok,I.len⟩
theorem Inv.unwish (I:Inv (X.wish E) pins σ H s):Inv X pins σ H s:=⟨I.ok.unwish,I.os,I.bare,I.base,I.loc,I.cell,I.free,I.freeC,I.pin,I.hok,I.len⟩
theorem SP.unwish {D:Ends} {f:Flow} {s':Shared} (h:SP (X.wish E) pins D f s'):SP X pins D f s':=by
 cases f with
 | next=>obtain ⟨σ',H',I,q⟩:=h;exact ⟨σ',H',I.unwish,q⟩
 | brk=>obtain ⟨σ',H',I,q⟩:=h;exact ⟨σ',H',I.unwish,q⟩
 | cont=>obtain ⟨σ',H',I,q⟩:=h;exact ⟨σ',H',I.unwish,q⟩
 | ret u=>obtain ⟨v,σ',H',I,r,q⟩:=h;exact ⟨v,σ',H',I.unwish,r,q⟩
theorem PSs.nox {st:List Stmt} {t:TS} (h:PSs X.nox st t):PSs X st t:=fun pins s σ H D I hw =>
 wpAny_mono (h pins s σ H D (I.wish _) hw) (fun _ _ q=>q.unwish) fun _ _ z=>False.elim z
end
section
variable {X:Cx} {st:Stmt} {rest:List Stmt} {t u:TS} {e:Expr} {te:TE} {pos:Pos}
def RB:TS:=fun D σ H=>D.nx σ H
def U4 (t u:TS):TS:=fun D σ H=>t { D with nx:=u D } σ H
theorem J1:PSs X [] RB:=fun _ _ σ H _ I h=>wpAny_execs_nil ⟨σ,H,I,h⟩
theorem GF (h1:PS X st t) (h2:PSs X rest u):PSs X (st :: rest) (U4 t u):=by
 intro pins s σ H D I h
 refine wpAny_execs_cons (thn (h1 pins s σ H { D with nx:=u D } I h) fun f s1 q=>?_)
 cases f with
 | next =>
  obtain ⟨σ',H',I',q⟩:=q
  exact h2 pins s1 σ' H' D I' q
 | ret v=>exact q
 | brk=>exact q
 | cont=>exact q
theorem J2 (h1:PS X st t):PSs X [st] t:=by
 intro pins s σ H D I h
 refine wpAny_execs_cons (thn (h1 pins s σ H D I h) fun f s1 q=>?_)
 cases f with
 | next=>exact wpAny_execs_nil q
 | ret v=>exact q
 | brk=>exact q
 | cont=>exact q
theorem Inv.quiet {pins:List (Addr × Obj)} {σ:St} {H:Hp} {s:Shared} (I:Inv X pins σ H s):interactive X.env=false:=by simp [interactive,I.ok.kind]
def RD (te:TE):TS:=fun D σ H=>te σ H fun _ H1=>D.nx σ H1
theorem tY (he:PE X e te) (hs:swapsWith e none pos.line X.env=pure false:=by rfl):PS X (.Expr e pos) (RD te):=by
 intro pins s σ H D I h
 exact wpAny_Expr_any (thn (he pins s σ H _ I h) fun v s1 ⟨x,H1,I1,r1,q1⟩=>⟨σ,H1,I1,q1⟩) I.quiet hs
def U5 (te:TE):TS:=fun D σ H=>te σ H D.rt
theorem Oi (he:PE X e te):PS X (.Return (some e) pos) (U5 te):=by
 intro pins s σ H D I h
 exact wpAny_Return_some (thn (he pins s σ H _ I h) fun v s1 ⟨x,H1,I1,r1,q1⟩=>⟨x,σ,H1,I1,r1,q1⟩)
def U6 (c:TT) (t u:TS):TS:=fun D σ H=>c σ H fun b H1=>if b=true then t D σ H1 else u D σ H1
theorem RG {c:Expr} {a b:List Stmt} {tc:TT} (hc:PT X c tc) (ha:PSs X a t) (hb:PSs X b u):PS X (.If c a b pos) (U6 tc t u):=by
 intro pins s σ H D I h
 refine wpAny_If (thn (hc pins s σ H _ I h) fun d s1 ⟨H1,I1,q1⟩=>?_)
 cases d with
 | true=>exact ha pins s1 σ H1 D I1 q1
 | false=>exact hb pins s1 σ H1 D I1 q1
def Oj:TS:=fun _ _ _=>False
theorem GJ:PS X st Oj:=fun _ _ _ _ _ _ h=>h.elim
end
abbrev TG:=V→St→Hp→(St→Hp→Prop)→Prop
abbrev TGs:=List V→St→Hp→(St→Hp→Prop)→Prop
def PG (X:Cx) (target:Expr) (t:TG):Prop :=
 ∀ (pins:List (Addr × Obj)) (s:Shared) (σ:St) (H:Hp) (v:V) (u:Value) (Q:St→Hp→Prop),Inv X pins σ H s→RelV v u→t v σ H Q →
  wpAny (model X.prog X.w) X.A (assign target X.env u) (fun _ s'=>∃ σ' H',Inv X pins σ' H' s'∧Q σ' H') X.xe s
def PGs (X:Cx) (ts:List Expr) (t:TGs):Prop :=
 ∀ (pins:List (Addr × Obj)) (s:Shared) (σ:St) (H:Hp) (vs:List V) (us:List Value) (Q:St→Hp→Prop),Inv X pins σ H s→Vals vs us→t vs σ H Q →
  wpAny (model X.prog X.w) X.A (assignInOrder ((assignEach ts X.env).map (·.2)) us) (fun _ s'=>∃ σ' H',Inv X pins σ' H' s'∧Q σ' H') X.xe s
abbrev Ol:=V→V→V→Hp→(Hp→Prop)→Prop
def Om (X:Cx) (t:Ol):Prop :=
 ∀ (pins:List (Addr × Obj)) (s:Shared) (σ:St) (H:Hp) (o i v:V) (ov iv u:Value) (Q:Hp→Prop),Inv X pins σ H s→RelV o ov→RelV i iv→RelV v u→t o i v H Q →
  wpAny (model X.prog X.w) X.A (setItem ov iv u) (fun _ s'=>∃ H',Inv X pins σ H' s'∧Q H') X.xe s
section
variable {X:Cx} {pos:Pos}
def GK (i:Nat):TG:=fun v σ H Q=>Q (σ.set i (some v)) H
theorem J3 {i:Nat} {x:Str} (hN:X.N.Nodup) (hi:X.N[i]? = some x) (hx:Loc X.env.scope x) (hf:X.fn x=true∨X.env.scope.names.lookup x=some .local:=by first | exact .inl rfl | exact .inr rfl | assumption):PG X (.Name x pos) (GK i):=by
 intro pins s σ H v u Q I r h
 exact wpAny_assign_Name (zu I hN hi hx r (fun s' I'=>⟨_,H,I',h⟩) hf)
def U7:TGs:=fun vs σ H Q=>vs=[]∧Q σ H
def RJ (t:TG) (u:TGs):TGs:=fun vs σ H Q=>∃ v r,vs=v :: r∧t v σ H fun σ' H'=>u r σ' H' Q
theorem J4:PGs X [] U7:=by
 intro pins s σ H vs us Q I r h
 obtain ⟨e,h⟩:=h
 subst e
 cases r
 exact assignInOrder_nil ⟨σ,H,I,h⟩
theorem GP {e:Expr} {es:List Expr} {t:TG} {u:TGs} (h1:PG X e t) (h2:PGs X es u)
 (hs:(assignEach (e :: es) X.env).map (·.2)=assign e X.env :: (assignEach es X.env).map (·.2):=by rfl):PGs X (e :: es) (RJ t u):=by
 intro pins s σ H vs us Q I r h
 obtain ⟨v,vr,e1,h⟩:=h
 subst e1
 cases r with
 | cons r rr =>
  rw [hs]
  refine assignInOrder_cons (thn (h1 pins s σ H _ _ _ I r h) fun _ s1 ⟨σ1,H1,I1,q1⟩=>?_)
  exact h2 pins s1 σ1 H1 _ _ Q I1 rr q1
def U8 (K:PySem.W.Frag) (n:Nat) (t:TGs):TG:=fun v σ H Q=>∃ a xs,v = .ref a∧SqT K H a xs∧xs.length=n∧t xs σ H Q
theorem Oo {es:List Expr} {k:Nat} {t:TGs} {n:Nat} (hc:X.calm=true) (h:PGs X es t)
 (hn:(assignEach es X.env).length=n:=by rfl) (hst:(assignEach es X.env).findIdx? (·.1)=none:=by rfl):PG X (.Tuple es k pos) (U8 X.K n t):=by
 intro pins s σ H v u Q I r hw
 obtain ⟨a,xs,e1,hq,hl,hw⟩:=hw
 subst e1
 cases r
 obtain ⟨its,rv,ht,hz⟩:=I.tuple hq
 refine assign_Tuple_tuple (I.ok.hd hc) ht (by simp [hn,← hl,rv.length]) hst fun h' hx=>?_
 have I1:Inv X pins σ H { s with heap:=h' }:=I.kept (t':=s.toks) fun b o e=>hx b o (bR (Heap.lt_size e)) e
 exact h pins _ σ H xs _ Q I1 (by simpa using rv) hw
def GQ (to ti:TE) (t:Ol):TG:=fun v σ H Q=>to σ H fun o H1=>ti σ H1 fun i H2=>t o i v H2 fun H3=>Q σ H3
theorem GR {o i:Expr} {to ti:TE} {t:Ol} (ho:PE X o to) (hi:PE X i ti) (hs:Om X t)
 (ha:∀ v,assign (.Subscript o i pos) X.env v=(do
  let ov ← holding [v] (eval o X.env)
  let iv ← holding [v,ov] (eval i X.env)
  standAt pos
  holding [v,ov,iv] (setItem ov iv v)
  release [v,ov,iv] []):=by intro _;rfl):PG X (.Subscript o i pos) (GQ to ti t):=by
 intro pins s σ H v u Q I r h
 rw [ha]
 refine wpAny_bind (wpAny_holding (thn (ho pins s σ H _ I h) fun ov s1 ⟨x,H1,I1,r1,q1⟩=>?_))
 refine wpAny_bind (wpAny_holding (thn (hi pins s1 σ H1 _ I1 q1) fun iv s2 ⟨y,H2,I2,r2,q2⟩=>?_))
 refine wpAny_bind (wpAny_standAt (wpAny_bind (wpAny_holding (thn (hs pins s2 σ H2 x y v ov iv u _ I2 r1 r2 r q2) fun _ s3 ⟨H3,I3,q3⟩=>?_))))
 exact wpAny_release ⟨σ,H3,I3,q3⟩
def Oq (te:TE) (g:TG):TS:=fun D σ H=>te σ H fun x H1=>g x σ H1 D.nx
theorem Ax {tg e:Expr} {te:TE} {g:TG} (he:PE X e te) (hg:PG X tg g) (hs:swapsWithSole [tg] e pos.line X.env=pure false:=by rfl) (hw:swappedStores [tg] e X.env=pure none:=by rfl)
 (h1:(assignEach [tg] X.env).map (·.2)=[assign tg X.env]:=by rfl):PS X (.Assign [tg] e pos) (Oq te g):=by
 intro pins s σ H D I h
 refine wpAny_Assign_stores (thn (he pins s σ H _ I h) fun v s1 ⟨x,H1,I1,r1,q1⟩=>?_) hs hw
 rw [h1]
 exact thn (hg pins s1 σ H1 x v _ I1 r1 q1) fun _ s2 q=>q
theorem Ay {i:Nat} {x:Str} {e:Expr} {te:TE} {pos':Pos} (hN:X.N.Nodup) (hi:X.N[i]? = some x) (hx:Loc X.env.scope x) (he:PE X e te) (hs:swapsWith e (some (.Name x pos')) pos.line X.env=pure false:=by rfl) (hf:X.fn x=true∨X.env.scope.names.lookup x=some .local:=by first | exact .inl rfl | exact .inr rfl | assumption) :
 PS X (.Assign [.Name x pos'] e pos) (Oq te (GK i)):=by
 intro pins s σ H D I h
 refine wpAny_Assign_Name (thn (he pins s σ H _ I h) fun v s1 ⟨y,H1,I1,r1,q1⟩=>?_) hs
 exact zu I1 hN hi hx r1 (fun s2 I2=>⟨_,H1,I2,q1⟩) hf
end
section
variable {X:Cx} {pos:Pos}
def Ot (c:TT) (tb:TS):TS:=fun D σ H=>∃ W:Nat→St→Hp→Prop,(∃ m,W m σ H)∧∀ m σ H,W m σ H →
 c σ H fun b H1=>if b=true then ∃ N:St→Hp→Prop,(∀ σ' H',N σ' H'→∃ m',m' < m∧W m' σ' H')∧tb { D with nx:=N,ct:=N,bk:=D.nx } σ H1 else D.nx σ H1
theorem GX {c:Expr} {body:List Stmt} {tc:TT} {tb:TS} (hp:PassesOwn (model X.prog X.w) X.A X.env X.xe) (hc:PT X c tc) (hb:PSs X body tb):PS X (.While c body [] pos) (Ot tc tb):=by
 intro pins s σ H D I h
 obtain ⟨W,⟨m0,w0⟩,turn⟩:=h
 refine wpAny_While (codeAny_whileLoop (fun n s'=>∃ σ' H',Inv X pins σ' H' s'∧W n σ' H') ?_ m0 ⟨σ,H,I,w0⟩)
 rintro n s1 ⟨σ1,H1,I1,w1⟩
 refine wpAny_passesOwn hp (thn (hc pins s1 σ1 H1 _ I1 (turn n σ1 H1 w1)) fun b s2 ⟨H2,I2,q2⟩=>?_)
 cases b with
 | true =>
  obtain ⟨N,hN,q2⟩:=q2
  rw [if_pos rfl]
  refine wpAny_passesOwn hp (thn (hb pins s2 σ1 H2 _ I2 q2) fun f s3 q3=>?_)
  cases f with
  | next =>
   obtain ⟨σ3,H3,I3,n3⟩:=q3
   obtain ⟨m',hm,w3⟩:=hN σ3 H3 n3
   exact ⟨m',hm,σ3,H3,I3,w3⟩
  | cont =>
   obtain ⟨σ3,H3,I3,n3⟩:=q3
   obtain ⟨m',hm,w3⟩:=hN σ3 H3 n3
   exact ⟨m',hm,σ3,H3,I3,w3⟩
  | brk=>exact q3
  | ret v=>exact q3
 | false =>
  rw [if_neg dg]
  exact wpAny_execs_nil ⟨σ1,H2,I2,q2⟩
end
structure It where
 go:Nat→Hp→Prop
 yld:Nat→Hp→V→Hp→Prop
 stop:Nat→Hp→Prop
def rW (X:Cx) (pins:List (Addr × Obj)) (H:Hp) (b:Addr):Prop :=
 H b=none∧b ≠ X.env.locals∧b ∉ X.fs∧(b ∈ X.ex∨X.s₀.heap.objs.size ≤ b)∧(∀ x c,X.env.cells.lookup x=some c→c ≠ b)∧∀ p ∈ X.pn++pins,p.1 ≠ b
theorem Inv.fpOk {X:Cx} {pins:List (Addr × Obj)} {σ:St} {H H':Hp} {s:Shared} {b:Addr} (I:Inv X pins σ H s) (hb:s.heap.objs.size ≤ b) (hn:H' b=none):rW X pins H' b:=by
 refine ⟨hn,Nat.ne_of_gt (bN I.lt hb),I.nofs hb,.inr (bT I.sz hb),fun x c e z=>?_,fun p hp z=>?_⟩
 ·obtain ⟨v,q⟩:=I.cell x c e
  exact absurd (bN q.lt (by rw [z];exact hb)) (gw _)
 ·exact absurd (bN (Heap.lt_size (I.pin p hp).1) (by rw [z];exact hb)) (gw _)
structure Turn (P:Program) (w:World) (K:PySem.W.Frag) (tg:Expr) (J:It) (fp:List Addr) (it:Addr) (tn:Nat→Heap→Prop):Prop where
 mem:it ∈ fp
 obj:∀ i h,tn i h→∀ b ∈ fp,∃ o,h.get? b=some o∧∀ v,o.data ≠ .cell v
 keep:∀ i h h',tn i h→(∀ b ∈ fp,∀ o,h.get? b=some o→h'.get? b=some o)→tn i h'
 item:∀ (X:Cx),X.prog=P→X.w=w→X.K=K→X.calm=true→∀ (i:Nat) (pins:List (Addr × Obj)) (s:Shared) (σ:St) (H:Hp) (E:Value→Shared→Prop),Inv X pins σ H s→(∀ b ∈ fp,rW X pins H b)→tn i s.heap→J.go i H →
  wpAny (model P w) X.A (pyNext (.ref it)) (fun r s1=>∃ u,r=some u ∧
   wpAny (model P w) X.A (letOwnedTupleGo tg (.ref it) u) (fun _ s2=>∃ x H',Inv X pins σ H' s2∧RelV x u∧J.yld i H x H'∧tn (i + 1) s2.heap∧∀ b ∈ fp,H' b=none) E s1) E s
 done:∀ (X:Cx),X.prog=P→X.w=w→X.K=K→X.calm=true→∀ (i:Nat) (pins:List (Addr × Obj)) (s:Shared) (σ:St) (H:Hp) (E:Value→Shared→Prop),Inv X pins σ H s→(∀ b ∈ fp,rW X pins H b)→tn i s.heap→J.stop i H →
  wpAny (model P w) X.A (pyNext (.ref it)) (fun r s1=>r=none∧Inv X pins σ H s1) E s
 self:∀ (A:Around) (i:Nat) (s:Shared) (Q:Value→Shared→Prop) (E:Value→Shared→Prop),tn i s.heap→Q (.ref it) s→wpAny (model P w) A (pyIter (.ref it)) Q E s
abbrev TI:=St→Hp→(It→Hp→Prop)→Prop
def PIE (X:Cx) (pins:List (Addr × Obj)) (σ:St) (tg:Expr) (R:It→Hp→Prop) (itv:Value) (s2:Shared):Prop :=
 ∃ (it:Addr) (fp:List Addr) (tn:Nat→Heap→Prop) (J:It) (H':Hp),itv = .ref it∧Inv X pins σ H' s2∧Turn X.prog X.w X.K tg J fp it tn∧tn 0 s2.heap∧(∀ b ∈ fp,rW X pins H' b)∧R J H'
def PI (X:Cx) (tg iter:Expr) (wi:TI):Prop :=
 ∀ (pins:List (Addr × Obj)) (s:Shared) (σ:St) (H:Hp) (R:It→Hp→Prop),Inv X pins σ H s→wi σ H R →
  wpAny (model X.prog X.w) X.A (eval iter X.env) (fun v s1=>wpAny (model X.prog X.w) X.A (pyIter v) (PIE X pins σ tg R) X.xe s1) X.xe s
theorem GZ {M:Model} {A:Around} {E:Value→Shared→Prop} {s:Shared} {tg:Expr} {it:Addr} {u:Value} {o:Obj} {n:String} {vs:Array Value} {Q:Unit→Shared→Prop} (ho:s.heap.get? it=some o) (hc:o.cls = .type n) (hd:o.data = .fields vs)
 (hn:["enumerate", "zip", "dict_itemiterator", "dict_reverseitemiterator", "odict_iterator", "itertools.zip_longest", "itertools.pairwise"].contains n=false) (hQ:Q () s):wpAny M A (letOwnedTupleGo tg (.ref it) u) Q E s:=by
 unfold letOwnedTupleGo
 cases tg <;> first
  | exact wpAny_pure hQ
  | (cases u <;> first
   | exact wpAny_pure hQ
   | (refine wpAny_bind (wpAny_load ho ?_)
      rw [hc,hd]
      show wpAny M A (if (["enumerate", "zip", "dict_itemiterator", "dict_reverseitemiterator", "odict_iterator", "itertools.zip_longest", "itertools.pairwise"].contains n && vs[0]? == some (rawInt _))=true then _ else _) Q E s
      rw [if_neg (by intro h;rw [hn,fH] at h;cases h)]
      exact wpAny_pure hQ))
def Itl (K:PySem.W.Frag) (a:Addr):It :=
 ⟨fun i H=>∃ xs x,SqL K H a xs∧xs[i]? = some x,fun i H x H'=>H'=H∧∀ xs,SqL K H a xs→xs[i]? = some x,fun i H=>∃ xs,SqL K H a xs∧xs.length ≤ i⟩
def Itt (K:PySem.W.Frag) (a:Addr):It :=
 ⟨fun i H=>∃ xs x,SqT K H a xs∧xs[i]? = some x,fun i H x H'=>H'=H∧∀ xs,SqT K H a xs→xs[i]? = some x,fun i H=>∃ xs,SqT K H a xs∧xs.length ≤ i⟩
def Itr (lo:Int) (n:Nat):It:=⟨fun i _=>i < n,fun i H x H'=>H'=H∧x = .int (lo + i),fun i _=>n ≤ i⟩
theorem Er {P:Program} {w:World} {K:PySem.W.Frag} {tg:Expr} (a it:Addr):Turn P w K tg (Itl K a) [it] it (fun i h=>h.IsListIter it a i) where
 mem:=by simp
 obj:=fun i h st b hb=>by
  have e:b=it:=by simpa using hb
  subst e
  obtain ⟨o,e,c,d⟩:=st
  exact ⟨o,e,fun v z=>by rw [d] at z;cases z⟩
 keep:=fun i h h' st k=>st.at fun o e=>k it (by simp) o e
 item:=by
  intro X hP hw hK hc i pins s σ H E I hf st hg
  subst hP hw hK
  obtain ⟨xs,x,hq,hx⟩:=hg
  obtain ⟨its,rv,p,hz⟩:=I.list hq
  obtain ⟨u,hu,ru⟩:=rv.get hx
  obtain ⟨f0,f1,f2,f3,f4,f5⟩:=hf it (by simp)
  refine wpAny_pyNext_list_item st p.isList (x:=u) (by simpa using hu) fun h' st' sb=>?_
  have I1:Inv X pins σ H { s with heap:=h' }:=I.turned (t':=s.toks) (fun b o hb e=>(sb.2 b hb).trans e) f0 f1 f3 f4 f5
  obtain ⟨o,e,c,d⟩:=id st'
  exact ⟨u,rfl,GZ (s:={ s with heap:=h' }) e c d (by decide) ⟨x,H,I1,ru,⟨rfl,fun ys hy=>by rw [I.list_inj hy hq];exact hx⟩,st',fun b hb=>(hf b hb).1⟩⟩
 done:=by
  intro X hP hw hK hc i pins s σ H E I hf st hg
  subst hP hw hK
  obtain ⟨xs,hq,hx⟩:=hg
  obtain ⟨its,rv,p,hz⟩:=I.list hq
  obtain ⟨f0,f1,f2,f3,f4,f5⟩:=hf it (by simp)
  have hl:=rv.length
  exact wpAny_pyNext_list_end (I.ok.hd hc) st p.isList (by simp;omega) fun h' eb=>⟨rfl,I.turned (t':=s.toks) (fun b o hb e=>eb b o hb e) f0 f1 f3 f4 f5⟩
 self:=fun _ _ _ _ _ st h=>wpAny_pyIter_listiter st h
theorem Az {P:Program} {w:World} {K:PySem.W.Frag} {tg:Expr} (a it:Addr):Turn P w K tg (Itt K a) [it] it (fun i h=>h.IsTupleIter it a i) where
 mem:=by simp
 obj:=fun i h st b hb=>by
  have e:b=it:=by simpa using hb
  subst e
  obtain ⟨o,e,c,d⟩:=st
  exact ⟨o,e,fun v z=>by rw [d] at z;cases z⟩
 keep:=fun i h h' st k=>st.at fun o e=>k it (by simp) o e
 item:=by
  intro X hP hw hK hc i pins s σ H E I hf st hg
  subst hP hw hK
  obtain ⟨xs,x,hq,hx⟩:=hg
  obtain ⟨its,rv,p,hz⟩:=I.tuple hq
  obtain ⟨u,hu,ru⟩:=rv.get hx
  obtain ⟨f0,f1,f2,f3,f4,f5⟩:=hf it (by simp)
  refine wpAny_pyNext_tuple_item st (show s.heap.IsTuple a its.toArray from p) (x:=u) (by simpa using hu) fun h' st' sb=>?_
  have I1:Inv X pins σ H { s with heap:=h' }:=I.turned (t':=s.toks) (fun b o hb e=>(sb.2 b hb).trans e) f0 f1 f3 f4 f5
  obtain ⟨o,e,c,d⟩:=id st'
  exact ⟨u,rfl,GZ (s:={ s with heap:=h' }) e c d (by decide) ⟨x,H,I1,ru,⟨rfl,fun ys hy=>by rw [I.tuple_inj hy hq];exact hx⟩,st',fun b hb=>(hf b hb).1⟩⟩
 done:=by
  intro X hP hw hK hc i pins s σ H E I hf st hg
  subst hP hw hK
  obtain ⟨xs,hq,hx⟩:=hg
  obtain ⟨its,rv,p,hz⟩:=I.tuple hq
  obtain ⟨f0,f1,f2,f3,f4,f5⟩:=hf it (by simp)
  have hl:=rv.length
  exact wpAny_pyNext_tuple_end (I.ok.hd hc) st (show s.heap.IsTuple a its.toArray from p) (by simp;omega) fun h' eb=>⟨rfl,I.turned (t':=s.toks) (fun b o hb e=>eb b o hb e) f0 f1 f3 f4 f5⟩
 self:=fun _ _ _ _ _ st h=>wpAny_pyIter_tupleiter st h
theorem A_ {P:Program} {w:World} {K:PySem.W.Frag} {tg:Expr} (it:Addr) (lo:Int) (n:Nat):Turn P w K tg (Itr lo n) [it] it (fun i h=>IsRangeIter h it (lo + (i:Nat) * 1) ((n:Int) - (i:Nat)) 1) where
 mem:=by simp
 obj:=fun i h st b hb=>by
  have e:b=it:=by simpa using hb
  subst e
  exact ⟨_,st,fun v z=>by
   have z':Data.fields _=Data.cell v:=z
   cases z'⟩
 keep:=fun i h h' st k=>k it (by simp) _ st
 item:=by
  intro X hP hw hK hc i pins s σ H E I hf st hg
  subst hP hw hK
  obtain ⟨f0,f1,f2,f3,f4,f5⟩:=hf it (by simp)
  have W:=Walks.range (prog:=X.prog) (w:=X.w) (I.ok.hd hc) it lo 1 n
  refine W.item i s _ _ hg st fun v h' tk hv st' kk=>?_
  obtain ⟨t,rfl⟩:=hv
  have I1:Inv X pins σ H { s with heap:=h',toks:=tk }:=I.turned (fun b o hb e=>kk b o (by simpa using hb) e) f0 f1 f3 f4 f5
  refine ⟨_,rfl,GZ (s:={ s with heap:=h',toks:=tk }) (n := "range_iterator") st' rfl rfl (by decide) ⟨.int (lo + i),H,I1,⟨t,?_⟩,⟨rfl,rfl⟩,st',fun b hb=>(hf b hb).1⟩⟩
  rw [Int.mul_one]
 done:=by
  intro X hP hw hK hc i pins s σ H E I hf st hg
  subst hP hw hK
  obtain ⟨f0,f1,f2,f3,f4,f5⟩:=hf it (by simp)
  exact wpAny_pyNext_range_end (I.ok.hd hc) st (by have:n ≤ i:=hg;omega) fun h' eb=>⟨rfl,I.turned (t':=s.toks) (fun b o hb e=>eb b o hb e) f0 f1 f3 f4 f5⟩
 self:=fun _ _ _ _ _ st h=>wpAny_pyIter_rangeiter st h
end L2
namespace L2
open PySem PySem.Spec PyProof.Rows
section
variable {X:Cx} {tg:Expr}
def RK (K:PySem.W.Frag) (tl:TE):TI:=fun σ H R=>tl σ H fun x H1=>∃ a,x = .ref a∧(∃ xs,SqL K H1 a xs)∧R (Itl K a) H1
def U9 (K:PySem.W.Frag) (tl:TE):TI:=fun σ H R=>tl σ H fun x H1=>∃ a,x = .ref a∧(∃ xs,SqT K H1 a xs)∧R (Itt K a) H1
theorem C_ {l:Expr} {tl:TE} (hl:PE X l tl):PI X tg l (RK X.K tl):=by
 intro pins s σ H R I h
 refine thn (hl pins s σ H _ I h) fun v s1 ⟨x,H1,I1,r1,q1⟩=>?_
 obtain ⟨a,e,⟨xs,hq⟩,q⟩:=q1
 subst e
 cases r1
 obtain ⟨its,rv,p,hz⟩:=I1.list hq
 refine wpAny_pyIter_list p.isList ?_
 refine ⟨s1.heap.objs.size,[s1.heap.objs.size],_,_,H1,rfl,I1.kept (t':=s1.toks) fun b o e=>Heap.get?_push_of_some _ e,Er a _,⟨_,Heap.get?_push_size _ rfl,rfl,rfl⟩,fun b hb=>?_,q⟩
 have e:b=s1.heap.objs.size:=by simpa using hb
 subst e
 exact I1.fpOk (bf _) (I1.hok.fresh (bf _))
theorem Ou {l:Expr} {tl:TE} (hl:PE X l tl):PI X tg l (U9 X.K tl):=by
 intro pins s σ H R I h
 refine thn (hl pins s σ H _ I h) fun v s1 ⟨x,H1,I1,r1,q1⟩=>?_
 obtain ⟨a,e,⟨xs,hq⟩,q⟩:=q1
 subst e
 cases r1
 obtain ⟨its,rv,p,hz⟩:=I1.tuple hq
 refine wpAny_pyIter_tuple (show s1.heap.IsTuple a its.toArray from p) ?_
 refine ⟨s1.heap.objs.size,[s1.heap.objs.size],_,_,H1,rfl,I1.kept (t':=s1.toks) fun b o e=>Heap.get?_push_of_some _ e,Az a _,⟨_,Heap.get?_push_size _ rfl,rfl,rfl⟩,fun b hb=>?_,q⟩
 have e:b=s1.heap.objs.size:=by simpa using hb
 subst e
 exact I1.fpOk (bf _) (I1.hok.fresh (bf _))
theorem zA {pins:List (Addr × Obj)} {σ:St} {H:Hp} {s:Shared} {R:It→Hp→Prop} {E:Value→Shared→Prop} {lo hi:Int} {t u v:Tok} {tk:Nat} (I:Inv X pins σ H s) (h1 : -(2 ^ 62) ≤ lo) (h2:lo < 2 ^ 62) (h3 : -(2 ^ 62) ≤ hi) (h4:hi < 2 ^ 62)
 (q:R (Itr lo (hi - lo).toNat) H):wpAny (model X.prog X.w) X.A (pyIter (.ref s.heap.objs.size)) (PIE X pins σ tg R) E { s with heap:=s.heap.push { cls:=.type "range", data:=.fields #[.int lo t,.int hi u,.int 1 v] },toks:=tk }:=by
 refine wpAny_pyIter_range (IsRange.new ..) (small_one h1 h2 h3 h4) ?_
 have I1:Inv X pins σ H { s with heap:=s.heap.push { cls:=.type "range", data:=.fields #[.int lo t,.int hi u,.int 1 v] },toks:=tk }:=I.kept fun b o e=>Heap.get?_push_of_some _ e
 refine ⟨(s.heap.push { cls:=.type "range", data:=.fields #[.int lo t,.int hi u,.int 1 v] }).objs.size,[(s.heap.push { cls:=.type "range", data:=.fields #[.int lo t,.int hi u,.int 1 v] }).objs.size],_,_,H,rfl,
  I1.kept (t':=tk) fun b o e=>Heap.get?_push_of_some _ e,A_ _ lo (hi - lo).toNat,?_,fun b hb=>?_,q⟩
 ·have e1:lo + ((0:Nat):Int) * 1=lo:=by simp
  have e2:(((hi - lo).toNat:Nat):Int) - ((0:Nat):Int)=Builtin.Range.rangeSize lo hi 1:=by rw [rangeSize_one];split <;> omega
  show IsRangeIter _ _ (lo + ((0:Nat):Int) * 1) ((((hi - lo).toNat:Nat):Int) - ((0:Nat):Int)) 1
  rw [e1,e2]
  exact Heap.get?_push_size _ rfl
 ·have e:b=(s.heap.push { cls:=.type "range", data:=.fields #[.int lo t,.int hi u,.int 1 v] }).objs.size:=by simpa using hb
  subst e
  exact I1.fpOk (bf _) (I1.hok.fresh (bf _))
def RM (ta:TA):TI:=fun σ H R=>ta σ H fun vs H1=>∃ j:Int,vs=[.int j]∧-(2 ^ 62) ≤ j∧j < 2 ^ 62∧R (Itr 0 j.toNat) H1
def RN (ta:TA):TI:=fun σ H R=>ta σ H fun vs H1=>∃ i j:Int,vs=[.int i,.int j]∧(-(2 ^ 62) ≤ i∧i < 2 ^ 62∧-(2 ^ 62) ≤ j∧j < 2 ^ 62)∧R (Itr i (j - i).toNat) H1
theorem Es {a:Expr} {ta:TA} {p pos:Pos} (hg:Gl X "range") (hm:X.mg "range" = none) (ha:PA X [a] ta) (hs:starEach [a] X.env=[(false,eval a X.env)]:=by rfl):PI X tg (.Call (.Name "range" p) [a] [] pos) (RM ta):=by
 intro pins s σ H R I h
 refine Call_ (qt I hg hm boot_range (PyProof.Rows.callWith_type1 (thn (ha pos pins s σ H _ I h) fun us s1 ⟨vs,H1,I1,r1,q1⟩=>?_) hs rfl))
 obtain ⟨j,e,q1,q2,q⟩:=q1
 subst e
 cases r1 with
 | cons r rr =>
  cases rr
  obtain ⟨t,rfl⟩:=r
  exact call_range_1 (zA I1 (by omega) (by omega) q1 q2 (by simpa using q))
theorem Et {a b:Expr} {ta:TA} {p pos:Pos} (hg:Gl X "range") (hm:X.mg "range" = none) (ha:PA X [a,b] ta) (hs:starEach [a,b] X.env=[(false,eval a X.env),(false,eval b X.env)]:=by rfl) (hs2:starEach [b] X.env=[(false,eval b X.env)]:=by rfl) :
 PI X tg (.Call (.Name "range" p) [a,b] [] pos) (RN ta):=by
 intro pins s σ H R I h
 refine Call_ (qt I hg hm boot_range (PyProof.Rows.callWith_type1 (thn (ha pos pins s σ H _ I h) fun us s1 ⟨vs,H1,I1,r1,q1⟩=>?_) (by rw [hs,hs2]) (by rw [hs2];rfl)))
 obtain ⟨i,j,e,⟨q1,q2,q3,q4⟩,q⟩:=q1
 subst e
 cases r1 with
 | cons r rr =>
  cases rr with
  | cons r' rr =>
   cases rr
   obtain ⟨t,rfl⟩:=r
   obtain ⟨t',rfl⟩:=r'
   exact call_range_2 (zA I1 q1 q2 q3 q4 q)
def U_ (wi:TI) (g:TG) (tb:TS):TS:=fun D σ H=>wi σ H fun J H1=>∃ W:Nat→Nat→St→Hp→Prop,(∃ m,W 0 m σ H1)∧∀ i m σ H,W i m σ H →
 (J.stop i H∧D.nx σ H)∨(J.go i H∧∃ N:St→Hp→Prop,(∀ σ' H',N σ' H'→∃ m',m' < m∧W (i + 1) m' σ' H')∧∀ x H',J.yld i H x H'→g x σ H' fun σ2 H2=>tb { D with nx:=N,ct:=N,bk:=D.nx } σ2 H2)
def uy (fp:List Addr) (h:Heap):List (Addr × Obj):=fp.filterMap fun b=>(h.get? b).map fun o=>(b,o)
theorem n8 {fp:List Addr} {h:Heap} {b:Addr} {o:Obj} (hb:b ∈ fp) (e:h.get? b=some o):(b,o) ∈ uy fp h:=eU.mpr ⟨b,hb,by rw [e];rfl⟩
theorem Eu {fp:List Addr} {h:Heap} {p:Addr × Obj} (hp:p ∈ uy fp h):p.1 ∈ fp∧h.get? p.1=some p.2:=by
 obtain ⟨b,hb,e⟩:=eU.mp hp
 cases q:h.get? b with
 | none=>rw [q] at e;cases e
 | some o =>
  rw [q] at e
  have e':(b,o)=p:=cN.inj e
  subst e'
  exact ⟨hb,q⟩
theorem Inv.pinned {pins:List (Addr × Obj)} {σ:St} {H:Hp} {s:Shared} {fp:List Addr} (I:Inv X pins σ H s) (hf:∀ b ∈ fp,rW X pins H b) (ho:∀ b ∈ fp,∃ o,s.heap.get? b=some o∧∀ v,o.data ≠ .cell v):Inv X (pins++uy fp s.heap) σ H s :=
 I.pins_of fun p hp=>(aV.mp hp).elim (fun z=>I.pin p (aP _ z)) fun z=>by
  obtain ⟨hb,e⟩:=Eu z
  obtain ⟨f0,f1,f2,_⟩:=hf p.1 hb
  obtain ⟨o,e',d⟩:=ho p.1 hb
  rw [e] at e';cases e'
  exact ⟨e,f0,f1,f2,d⟩
theorem Inv.unpinned {pins pl:List (Addr × Obj)} {σ:St} {H:Hp} {s:Shared} (I:Inv X (pins++pl) σ H s):Inv X pins σ H s:=I.pins_of fun p hp=>I.pin p (aP _ (aW _ hp))
theorem Ov {iter:Expr} {body:List Stmt} {wi:TI} {g:TG} {tb:TS} {pos:Pos} (hp:PassesOwn (model X.prog X.w) X.A X.env X.xe) (hc:X.calm=true) (hi:PI X tg iter wi) (hg:PG X tg g) (hb:PSs X body tb)
 (hs:∀ x,foldedSetIterable iter X.env x=pure x:=by intro _;rfl):PS X (.For tg iter body [] pos) (U_ wi g tb):=by
 intro pins s σ H D I h
 refine wpAny_For (thn (hi pins s σ H _ I h) fun v s1 h1=>thn h1 fun itv s2 h2=>?_) hs
 obtain ⟨it,fp,tn,J,H2,e,I2,T,st2,f2,W,⟨m0,w0⟩,turn⟩:=h2
 subst e
 have stat:∀ {H':Hp},(∀ b ∈ fp,H' b=none)→∀ b ∈ fp,rW X pins H' b:=fun hn b hb=>⟨hn b hb,(f2 b hb).2⟩
 refine codeAny_forLoop_any (fun n s'=>∃ i σ' H',Inv X pins σ' H' s'∧tn i s'.heap∧(∀ b ∈ fp,H' b=none)∧W i n σ' H') ?_ m0 ⟨0,σ,H2,I2,st2,fun b hb=>(f2 b hb).1,w0⟩
 rintro n s3 ⟨i,σ3,H3,I3,st3,fr3,w3⟩
 rcases turn i n σ3 H3 w3 with ⟨stop,qn⟩ | ⟨go,N,hN,step⟩
 ·refine wpAny_passesOwn hp (thn (T.done X rfl rfl rfl hc i pins s3 σ3 H3 X.xe I3 (stat fr3) st3 stop) fun r s4 ⟨hr,I4⟩=>?_)
  subst hr
  exact wpAny_execs_nil ⟨σ3,H3,I4,qn⟩
 ·refine wpAny_passesOwn hp (thn (T.item X rfl rfl rfl hc i pins s3 σ3 H3 X.xe I3 (stat fr3) st3 go) fun r s4 ⟨u,hr,h4⟩=>?_)
  subst hr
  refine wpAny_passesOwn hp (thn h4 fun _ s5 ⟨x,H5,I5,r5,y5,st5,fr5⟩=>?_)
  have I5':=I5.pinned (stat fr5) (T.obj _ _ st5)
  refine wpAny_passesOwn hp (thn (hg _ s5 σ3 H5 x u _ I5' r5 (step x H5 y5)) fun _ s6 ⟨σ6,H6,I6,q6⟩=>?_)
  refine wpAny_passesOwn hp (thn (hb _ s6 σ6 H6 _ I6 q6) fun f s7 q7=>?_)
  have again:∀ {σ7:St} {H7:Hp},Inv X (pins++uy fp s5.heap) σ7 H7 s7→N σ7 H7→∃ m,m < n∧∃ i σ' H',Inv X pins σ' H' s7∧tn i s7.heap∧(∀ b ∈ fp,H' b=none)∧W i m σ' H':=fun {σ7 H7} I7 n7=>by
   obtain ⟨m',hm,w7⟩:=hN σ7 H7 n7
   refine ⟨m',hm,i + 1,σ7,H7,I7.unpinned,T.keep _ _ _ st5 fun b hb o e=>(I7.pin (b,o) (aP _ (aP _ (n8 hb e)))).1,fun b hb=>?_,w7⟩
   obtain ⟨o,e,d⟩:=T.obj _ _ st5 b hb
   exact (I7.pin (b,o) (aP _ (aP _ (n8 hb e)))).2.1
  cases f with
  | next=>obtain ⟨σ7,H7,I7,n7⟩:=q7;exact again I7 n7
  | cont=>obtain ⟨σ7,H7,I7,n7⟩:=q7;exact again I7 n7
  | brk=>obtain ⟨σ7,H7,I7,q7⟩:=q7;exact ⟨σ7,H7,I7.unpinned,q7⟩
  | ret v=>obtain ⟨x7,σ7,H7,I7,r7,q7⟩:=q7;exact ⟨x7,σ7,H7,I7.unpinned,r7,q7⟩
end
end L2
namespace L2
open PySem PySem.Spec PyProof.Rows
abbrev R2:=V→V→Hp→VK→Prop
def OpR (X:Cx) (f:Value→Value→Sem Value) (r:R2):Prop :=
 ∀ (pins:List (Addr × Obj)) (s:Shared) (σ:St) (H:Hp) (x y:V) (v u:Value) (Q:VK),Inv X pins σ H s→RelV x v→RelV y u→r x y H Q →
  wpAny (model X.prog X.w) X.A (f v u) (EP X pins σ Q) X.xe s
def mJ (X:Cx) (f:Value) (r:List V→Hp→VK→Prop):Prop :=
 ∀ (pins:List (Addr × Obj)) (s:Shared) (σ:St) (H:Hp) (xs:List V) (us:List Value) (Q:VK),Inv X pins σ H s→Vals xs us→r xs H Q →
  wpAny (model X.prog X.w) X.A (call f us) (EP X pins σ Q) X.xe s
def tOp (r:R2) (ta tb:TE):TE:=fun σ H Q=>ta σ H fun x H1=>tb σ H1 fun y H2=>r x y H2 Q
def rI (C:Int→Int→Prop) (g:Int→Int→V):R2:=fun x y H Q=>∃ i j,x = .int i∧y = .int j∧C i j∧Q (g i j) H
def rI0 (g:Int→Int→V):R2:=fun x y H Q=>∃ i j,x = .int i∧y = .int j∧Q (g i j) H
section
variable {X:Cx} {a b c:Expr} {ta tb tc:TE} {pos:Pos}
theorem Ox (ha:PE X a ta) (hb:PE X b tb) {pins:List (Addr × Obj)} {s:Shared} {σ:St} {H:Hp} {R:V→V→Hp→Prop} (I:Inv X pins σ H s)
 (h:ta σ H fun x H1=>tb σ H1 fun y H2=>R x y H2) {Q:Value→Shared→Prop} {f:Value→Value→Sem Value}
 (hf:∀ v u s2 x y H2,Inv X pins σ H2 s2→RelV x v→RelV y u→R x y H2→wpAny (model X.prog X.w) X.A (f v u) Q X.xe s2) :
 wpAny (model X.prog X.w) X.A (eval a X.env) (fun v s₁=>wpAny (model X.prog X.w) X.A (eval b X.env) (fun u s₂=>wpAny (model X.prog X.w) X.A (f v u) Q X.xe s₂) X.xe s₁) X.xe s:=by
 refine thn (ha pins s σ H _ I h) fun v s1 ⟨x,H1,I1,r1,q1⟩=>?_
 refine thn (hb pins s1 σ H1 _ I1 q1) fun u s2 ⟨y,H2,I2,r2,q2⟩=>?_
 exact hf v u s2 x y H2 I2 r1 r2 q2
theorem G3 {op:Operator} {r:R2} (ho:OpR X (binaryOp op) r) (ha:PE X a ta) (hb:PE X b tb):PE X (.BinOp a op b pos) (tOp r ta tb):=by
 intro pins s σ H Q I h
 exact wpAny_BinOp (Ox ha hb I h fun v u s2 x y H2 I2 rx ry q=>ho pins s2 σ H2 x y v u Q I2 rx ry q)
theorem opI {f:Value→Value→Sem Value} {C:Int→Int→Prop} {g:Int→Int→Int}
 (rule:∀ (i j:Int) (t u:Tok) (s:Shared) (Q:Value→Shared→Prop) (E:Value→Shared→Prop),C i j→Q (.int (g i j) s.toks) { s with toks:=s.toks + 1 }→wpAny (model X.prog X.w) X.A (f (.int i t) (.int j u)) Q E s) :
 OpR X f (rI C fun i j=>.int (g i j)):=by
 intro pins s σ H x y v u Q I rx ry h
 obtain ⟨i,j,rfl,rfl,hc,q⟩:=h
 obtain ⟨t,rfl⟩:=rx
 obtain ⟨t',rfl⟩:=ry
 exact rule i j t t' s _ _ hc ⟨.int (g i j),H,I.tok _,⟨_,rfl⟩,q⟩
theorem RP {f:Value→Value→Sem Value} {g:Int→Int→Int}
 (rule:∀ (i j:Int) (t u:Tok) (s:Shared) (Q:Value→Shared→Prop) (E:Value→Shared→Prop),Q (.int (g i j) s.toks) { s with toks:=s.toks + 1 }→wpAny (model X.prog X.w) X.A (f (.int i t) (.int j u)) Q E s) :
 OpR X f (rI0 fun i j=>.int (g i j)):=by
 intro pins s σ H x y v u Q I rx ry h
 obtain ⟨i,j,rfl,rfl,q⟩:=h
 obtain ⟨t,rfl⟩:=rx
 obtain ⟨t',rfl⟩:=ry
 exact rule i j t t' s _ _ ⟨.int (g i j),H,I.tok _,⟨_,rfl⟩,q⟩
theorem J5 {f:Value→Value→Sem Value} {g:Int→Int→Bool}
 (rule:∀ (i j:Int) (t u:Tok) (s:Shared) (Q:Value→Shared→Prop) (E:Value→Shared→Prop),Q (.bool (g i j)) s→wpAny (model X.prog X.w) X.A (f (.int i t) (.int j u)) Q E s) :
 OpR X f (rI0 fun i j=>.bl (g i j)):=by
 intro pins s σ H x y v u Q I rx ry h
 obtain ⟨i,j,rfl,rfl,q⟩:=h
 obtain ⟨t,rfl⟩:=rx
 obtain ⟨t',rfl⟩:=ry
 exact rule i j t t' s _ _ ⟨.bl (g i j),H,I,rfl,q⟩
def Oz (i j:Int):Prop:=0 ≤ j∧j ≤ 1000000∧i.natAbs < 2 ^ 64
theorem gJ:OpR X (binaryOp .Add) (rI0 fun i j=>.int (i + j)):=RP fun _ _ _ _ _ _ _ q=>add_int q
theorem OD:OpR X (binaryOp .Sub) (rI0 fun i j=>.int (i - j)):=RP fun _ _ _ _ _ _ _ q=>sub_int q
theorem lC:OpR X (binaryOp .Mod) (rI (fun _ j=>j ≠ 0) fun i j=>.int (i.fmod j)):=opI fun _ _ _ _ _ _ _ hc q=>mod_int' hc q
theorem OJ:OpR X (binaryOp .Pow) (rI Oz fun i j=>.int (i ^ j.toNat)):=opI fun _ _ _ _ _ _ _ hc q=>pow_int_small hc.1 hc.2.1 hc.2.2 q
end
section
variable {X:Cx} {a b c:Expr} {ta tb tc:TE} {pos:Pos}
theorem nC:OpR X (compareOp .Lt) (rI0 fun i j=>.bl (decide (i < j))):=J5 fun _ _ _ _ _ _ _ q=>lt_int q
theorem oW:OpR X (compareOp .LtE) (rI0 fun i j=>.bl (decide (i ≤ j))):=J5 fun _ _ _ _ _ _ _ q=>le_int q
theorem zB:OpR X (compareOp .Gt) (rI0 fun i j=>.bl (decide (j < i))):=J5 fun _ _ _ _ _ _ _ q=>gt_int q
theorem M9:OpR X (compareOp .GtE) (rI0 fun i j=>.bl (decide (j ≤ i))):=J5 fun _ _ _ _ _ _ _ q=>ge_int q
theorem cZ (b:Expr) {op:CmpOp} (h:op ≠ .In:=by decide) (h2:op ≠ .NotIn:=by decide):behindInMarks op b=false:=by
 have e1:(op == CmpOp.In)=false:=by cases op <;> first | rfl | exact absurd rfl h
 have e2:(op == CmpOp.NotIn)=false:=by cases op <;> first | rfl | exact absurd rfl h2
 cases b <;> simp [behindInMarks,e1,e2]
theorem J6 {op:CmpOp} {r:R2} (ho:OpR X (compareOp op) r) (ha:PE X a ta) (hb:PE X b tb) (hm:behindInMarks op b=false):PE X (.Compare a [op] [b] pos) (tOp r ta tb):=by
 intro pins s σ H Q I h
 exact wpAny_Compare1 (Ox ha hb I h fun v u s2 x y H2 I2 rx ry q=>ho pins s2 σ H2 x y v u Q I2 rx ry q) hm
def M_ (t:TE):TT:=fun σ H Q=>t σ H fun x H'=>∃ k,x = .bl k∧Q k H'
theorem J7 {op:CmpOp} {r:R2} (ho:OpR X (compareOp op) r) (ha:PE X a ta) (hb:PE X b tb) (hm:behindInMarks op b=false):PT X (.Compare a [op] [b] pos) (M_ (tOp r ta tb)):=by
 intro pins s σ H Q I h
 refine wpAny_isTrue_Compare1 (thn (ha pins s σ H _ I h) fun v s1 ⟨x,H1,I1,r1,q1⟩=>thn (hb pins s1 σ H1 _ I1 q1) fun u s2 ⟨y,H2,I2,r2,q2⟩ =>
  thn (ho pins s2 σ H2 x y v u _ I2 r1 r2 q2) fun c s3 ⟨z,H3,I3,r3,k,e,q3⟩=>?_) hm
 subst e
 cases r3
 exact wpAny_truthy_bool ⟨H3,I3,q3⟩
def G4 (r r':R2) (ta tb tc:TE):TE:=fun σ H Q=>ta σ H fun x H1=>tb σ H1 fun y H2=>r x y H2 fun z H3=>∃ k,z = .bl k ∧
 (if k=true then tc σ H3 fun w' H4=>r' y w' H4 Q else Q (.bl false) H3)
theorem G5 {op op':CmpOp} {r r':R2} (ho:OpR X (compareOp op) r) (ho':OpR X (compareOp op') r') (ha:PE X a ta) (hb:PE X b tb) (hc:PE X c tc)
 (hm:lastMarks [op,op'] [b,c]=false:=by with_unfolding_all rfl):PE X (.Compare a [op,op'] [b,c] pos) (G4 r r' ta tb tc):=by
 intro pins s σ H Q I h
 refine Compare_chain (thn (ha pins s σ H _ I h) fun v s1 ⟨x,H1,I1,r1,q1⟩=>chain_link (thn (hb pins s1 σ H1 _ I1 q1) fun u s2 ⟨y,H2,I2,r2,q2⟩ =>
  thn (ho pins s2 σ H2 x y v u _ I2 r1 r2 q2) fun d s3 ⟨z,H3,I3,r3,k,e,q3⟩=>?_)) hm
 subst e
 cases r3
 refine wpAny_truthy_bool ?_
 cases k with
 | false=>exact ite_ff ⟨.bl false,H3,I3,rfl,q3⟩
 | true=>exact ite_tt (chain_last (thn (hc pins s3 σ H3 _ I3 q3) fun w' s4 ⟨z',H4,I4,r4,q4⟩=>ho' pins s4 σ H4 y z' u w' Q I4 r2 r4 q4))
theorem G6 {op op':CmpOp} {r r':R2} (ho:OpR X (compareOp op) r) (ho':OpR X (compareOp op') r') (ha:PE X a ta) (hb:PE X b tb) (hc:PE X c tc)
 (hm:lastMarks [op,op'] [b,c]=false:=by with_unfolding_all rfl):PT X (.Compare a [op,op'] [b,c] pos) (M_ (G4 r r' ta tb tc)):=by
 intro pins s σ H Q I h
 refine isTrue_chain (thn (ha pins s σ H _ I h) fun v s1 ⟨x,H1,I1,r1,q1⟩=>test_link (thn (hb pins s1 σ H1 _ I1 q1) fun u s2 ⟨y,H2,I2,r2,q2⟩ =>
  thn (ho pins s2 σ H2 x y v u _ I2 r1 r2 q2) fun d s3 ⟨z,H3,I3,r3,k,e,q3⟩=>?_)) hm
 subst e
 cases r3
 refine wpAny_truthy_bool ?_
 cases k with
 | false =>
  obtain ⟨k',e',q'⟩:=q3
  cases e'
  exact ite_ff ⟨H3,I3,q'⟩
 | true =>
  refine ite_tt (test_last (thn (hc pins s3 σ H3 _ I3 q3) fun w' s4 ⟨z',H4,I4,r4,q4⟩=>thn (ho' pins s4 σ H4 y z' u w' _ I4 r2 r4 q4) fun d' s5 ⟨z2,H5,I5,r5,k2,e2,q5⟩=>?_))
  subst e2
  cases r5
  exact wpAny_truthy_bool ⟨H5,I5,q5⟩
theorem rY:(sizeLine:Nat) < 2 ^ 63:=by rw [sizeLine_eq];decide
theorem vals1 {x:V} {us:List Value} (r:Vals [x] us):∃ u,us=[u]∧RelV x u:=by
 cases r with
 | cons r1 r2=>cases r2;exact ⟨_,rfl,r1⟩
theorem vals2 {x y:V} {us:List Value} (r:Vals [x,y] us):∃ u w',us=[u,w']∧RelV x u∧RelV y w':=by
 cases r with
 | cons r1 r2 =>
  cases r2 with
  | cons r3 r4=>cases r4;exact ⟨_,_,rfl,r1,r3⟩
theorem wu (hc:X.calm=true):mJ X (.builtin "max") (fun xs H Q=>∃ i j,xs=[.int i,.int j]∧Q (.int (if j > i then j else i)) H):=by
 intro pins s σ H xs us Q I r h
 obtain ⟨i,j,rfl,q⟩:=h
 obtain ⟨u,w',rfl,⟨t,rfl⟩,⟨t',rfl⟩⟩:=vals2 r
 refine max_two_ints (I.ok.hd hc) fun h' tk k=>⟨_,H,I.kept k,?_,q⟩
 by_cases hj:j > i
 ·rw [if_pos hj,if_pos hj];exact ⟨_,rfl⟩
 ·rw [if_neg hj,if_neg hj];exact ⟨_,rfl⟩
theorem pJ (hc:X.calm=true):mJ X (.builtin "min") (fun xs H Q=>∃ i j,xs=[.int i,.int j]∧Q (.int (if j < i then j else i)) H):=by
 intro pins s σ H xs us Q I r h
 obtain ⟨i,j,rfl,q⟩:=h
 obtain ⟨u,w',rfl,⟨t,rfl⟩,⟨t',rfl⟩⟩:=vals2 r
 refine min_two_ints (I.ok.hd hc) fun h' tk k=>⟨_,H,I.kept k,?_,q⟩
 by_cases hj:j < i
 ·rw [if_pos hj,if_pos hj];exact ⟨_,rfl⟩
 ·rw [if_neg hj,if_neg hj];exact ⟨_,rfl⟩
theorem Ew:mJ X (.type "int") (fun xs H Q=>(∃ i,xs=[.int i]∧Q (.int i) H)∨∃ k,xs=[.bl k]∧Q (.int (if k then 1 else 0)) H):=by
 intro pins s σ H xs us Q I r h
 rcases h with ⟨i,rfl,q⟩ | ⟨k,rfl,q⟩
 ·obtain ⟨u,rfl,t,rfl⟩:=vals1 r
  exact call_int_int ⟨.int i,H,I,⟨_,rfl⟩,q⟩
 ·obtain ⟨u,rfl,r1⟩:=vals1 r
  cases r1
  exact call_int_bool ⟨.int (if k then 1 else 0),H,I.tok _,⟨_,rfl⟩,q⟩
end
end L2
namespace L2
open PySem PySem.Spec PyProof.Rows
structure ObjM (h:Heap) (x dx C:Addr) (mA:Str→Option Value):Prop where
 obj:h.get? x=some (PySem.W.instObj C dx)
 ns:h.Ns1 dx mA
 ne:dx ≠ x
theorem Ey {h:Heap} {dx:Addr} {mA:Str→Option Value} (n:h.Ns1 dx mA):∃ od,h.get? dx=some od∧∀ name,PySem.W.lookIn name od=some (mA name):=by
 obtain ⟨o,es,ep,ho,hd,hk,_,hm⟩:=n
 refine ⟨o,ho,fun name=>?_⟩
 have e:=hm name
 unfold nsFind findBy at e
 rw [← Array.find?_toList] at e
 unfold PySem.W.lookIn
 rw [hd]
 dsimp only
 split
 ·rename_i y q
  rw [q] at e
  exact congrArg some e
 ·rename_i q
  rw [q] at e
  have a:es.toList.any (·.refKey)=false:=by
   rw [List.any_eq_false]
   intro y hy
   obtain ⟨z,t,hkey⟩:=hk y (Array.mem_toList_iff.mp hy)
   simp [DictEntry.refKey,hkey]
  have a':¬ es.toList.any (·.refKey)=true:=by rw [a];exact dg
  rw [if_neg a']
  exact congrArg some e
theorem ObjM.look {h:Heap} {x dx C:Addr} {mA:Str→Option Value} (I:ObjM h x dx C mA):∃ od,PySem.W.InstAt h x (PySem.W.instObj C dx) C (some od)∧∀ name,PySem.W.lookIn name od=some (mA name) :=
 let ⟨od,ho,hl⟩:=Ey I.ns
 ⟨od,⟨I.obj,rfl,rfl,ho⟩,hl⟩
section
variable {prog:Program} {w:World} {A:Around} {E:Value→Shared→Prop} {s:Shared} {K:PySem.W.Frag} {x dx C f:Addr} {mA:Str→Option Value} {name:Str} {v:Value}
end
theorem rU.some_of {v:V} {o:Option Value} (r:rU (some v) o):∃ u,o=some u∧RelV v u:=by
 cases o with
 | none=>exact (show False from r).elim
 | some u=>exact ⟨u,rfl,r⟩
section
variable {P:Program} {w:World} {H H':Hp} {h h':Heap} {a C dx:Addr} {fs fs':List (Str × V)}
theorem J8 (hok:HOk P w H h) (e:H a=some (.ins C dx fs)):∃ mA,ObjM h a dx C mA∧(∀ f,rU (fs.lookup f) (mA f))∧PySem.Within mA (fs.map (·.1))∧fs.length ≤ 1000∧H dx=some (.own a):=by
 obtain ⟨d,z,ne,ob,mA,n,r,q⟩:=(show gB P w H h a (.ins C dx fs) from hok a _ e)
 exact ⟨mA,⟨ob,n,ne⟩,r,q,z,d⟩
end
structure Cls (K:PySem.W.Frag) (C:Addr):Prop where
 pg:PySem.W.plainGet K C Str.empty=true
 hd:PySem.W.hasDictIn K C=true
 po:PySem.W.plainOver K C=true
 sa:PySem.W.findIn K (.ref C) "__setattr__" = some (some (.builtin "object.__setattr__"))
theorem Cls.get {K:PySem.W.Frag} {C:Addr} (c:Cls K C) (f:Str):PySem.W.plainGet K C f=true:=c.pg
structure Con (K:PySem.W.Frag) (C:Addr) (f:Str) (v:V) (u:Value):Prop where
 at_:PySem.W.findIn K (.ref C) f=some (some u)
 rel:RelV v u
 get:PySem.W.specialIn K u "__get__" = some none
 cp:PySem.W.copiedNames.contains f=false
structure Meth (K:PySem.W.Frag) (C:Addr) (m:Str) (f:Addr):Prop where
 at_:PySem.W.findIn K (.ref C) m=some (some (.ref f))
 fn:PySem.W.isFn K (.ref f)=true
 kp:PySem.W.keepIn K (.ref f)=true
section
variable {X:Cx} {pins:List (Addr × Obj)} {σ:St} {H:Hp} {s:Shared} {a C dx:Addr} {fs:List (Str × V)} {f:Str} {v:V} {A:Around} {E:Value→Shared→Prop}
end
section
variable {X:Cx} {o e value:Expr} {f:Str} {pos pos' tpos:Pos} {ta tv:TE}
end
section
variable {X:Cx} {pins:List (Addr × Obj)} {σ:St} {H:Hp} {s:Shared} {A:Around} {E:Value→Shared→Prop} {Q:Value→Shared→Prop} {c:Value} {b:Bool}
inductive TyOf (K:PySem.W.Frag) (H:Hp):V→Value→Prop where
 | non:TyOf K H .non (.type "NoneType")
 | bl (x:Bool):TyOf K H (.bl x) (.type "bool")
 | int (i:Int):TyOf K H (.int i) (.type "int")
 | str (x:Str):TyOf K H (.str x) (.type "str")
 | flt (x:UInt64):TyOf K H (.flt x) (.type "float")
 | lst {a:Addr} {xs:List V} (e:H a=some (.lst xs)):TyOf K H (.ref a) (.type "list")
 | frz {a:Addr} {o:Obj} {xs:List V} (e:H a=some (.frz o (.lst xs))):TyOf K H (.ref a) (.type "list")
 | tup {a:Addr} {xs:List V} (e:H a=some (.tup xs)):TyOf K H (.ref a) (.type "tuple")
 | dK {a:Addr} {kvs:List (Key × V)} (e:H a=some (.dK kvs)):TyOf K H (.ref a) (.type "dict")
 | dT {a:Addr} {kvs:List (List Key × V)} (e:H a=some (.dT kvs)):TyOf K H (.ref a) (.type "dict")
 | ins {a C dx:Addr} {fs:List (Str × V)} (e:H a=some (.ins C dx fs)) (cl:Cls K C) (ha:PySem.W.findIn K (.ref C) "__class__" = some (some (.builtin "object.__class__")))
  (hn:PySem.W.specialIn K (.builtin "object.__class__") "__get__" = some (some (.builtin "getset_descriptor.__get__"))) (htk:PySem.W.takesIn K (.builtin "object.__class__")=some true)
  (hm:PySem.W.mroIn K C (.type "object")=some true):TyOf K H (.ref a) (.ref C)
theorem wA {x:V} {u t:Value} (I:Inv X pins σ H s) (rx:RelV x u) (ty:TyOf X.K H x t) (e:PySem.W.kitOne X.K t c=some b) (h:∀ tk,Q (.bool b) { s with toks:=tk }) :
 wpAny (model X.prog X.w) A (call (.builtin "isinstance") [u,c]) Q E s:=by
 cases ty with
 | non=>cases (show u=Value.none from rx);exact PySem.W.kia_one PySem.W.kitx_none I.kIn True.intro e (fun z=>nomatch z) h
 | bl y=>cases (show u=Value.bool y from rx);exact PySem.W.kia_one PySem.W.kitx_bool I.kIn True.intro e (fun z=>nomatch z) h
 | int i=>obtain ⟨t,q⟩:=(show ∃ t,u=Value.int i t from rx);cases q;exact PySem.W.kia_one PySem.W.kitx_int I.kIn True.intro e (fun z=>nomatch z) h
 | str y=>obtain ⟨t,q⟩:=(show ∃ t,u=Value.str y t from rx);cases q;exact PySem.W.kia_one PySem.W.kitx_str I.kIn True.intro e (fun z=>nomatch z) h
 | flt y=>obtain ⟨t,q⟩:=(show ∃ t,u=Value.float y t from rx);cases q;exact PySem.W.kia_one PySem.W.kitx_float I.kIn True.intro e (fun z=>nomatch z) h
 | @lst a xs ea =>
  cases (show u=Value.ref a from rx)
  obtain ⟨_,_,n,_,h1⟩:=(show gB X.prog X.w H s.heap a (.lst xs) from I.hok a _ ea)
  exact PySem.W.kia_one PySem.W.kitx_list I.kIn ⟨_,h1,rfl⟩ e (fun z=>nomatch z) h
 | @frz a ob xs ea =>
  cases (show u=Value.ref a from rx)
  obtain ⟨_,_,_,n,_,h1⟩:=(show gB X.prog X.w H s.heap a (.frz ob (.lst xs)) from I.hok a _ ea)
  exact PySem.W.kia_one PySem.W.kitx_list I.kIn ⟨_,h1,rfl⟩ e (fun z=>nomatch z) h
 | @tup a xs ea =>
  cases (show u=Value.ref a from rx)
  obtain ⟨_,_,_,p⟩:=(show gB X.prog X.w H s.heap a (.tup xs) from I.hok a _ ea)
  obtain ⟨o,h1,h2,_⟩:=p
  exact PySem.W.kia_one PySem.W.kitx_tuple I.kIn ⟨o,h1,h2⟩ e (fun z=>nomatch z) h
 | @dK a kvs ea =>
  cases (show u=Value.ref a from rx)
  obtain ⟨_,_,vs,_,p⟩:=(show gB X.prog X.w H s.heap a (.dK kvs) from I.hok a _ ea)
  obtain ⟨o,es,ep,h1,h2,_⟩:=p
  exact PySem.W.kia_one PySem.W.kitx_dict I.kIn ⟨o,h1,h2.1⟩ e (fun z=>nomatch z) h
 | @dT a kvs ea =>
  cases (show u=Value.ref a from rx)
  obtain ⟨_,_,xs,_,o,es,ep,h1,h2,_⟩:=(show gB X.prog X.w H s.heap a (.dT kvs) from I.hok a _ ea)
  exact PySem.W.kia_one PySem.W.kitx_dict I.kIn ⟨o,h1,h2.1⟩ e (fun z=>nomatch z) h
 | @ins a C dx fs ea cl ha hn htk hm =>
  cases (show u=Value.ref a from rx)
  obtain ⟨mA,O,_⟩:=J8 I.hok ea
  obtain ⟨od,J,_⟩:=O.look
  exact PySem.W.kia_one (PySem.W.kitx_own (cl.get _) cl.hd ha hn htk hm) I.kIn J e (fun z=>nomatch z) h
end
end L2
namespace L2
open PySem PySem.Spec PyProof.Rows
structure Room (k:Nat) (A:Around):Prop where
 hd:A.handled=none
 dp:A.depth + 3 * k + 5 < recursionLimit
 un:A.units + 16 * k + 200 < cLine
theorem Room.mono {j k:Nat} {A:Around} (r:Room k A) (h:j ≤ k):Room j A:=⟨r.hd,by have:=r.dp;omega,by have:=r.un;omega⟩
theorem Room.deeper {k:Nat} {A:Around} (r:Room (k + 1) A) (env:Env):Room k (A.deeper env) :=
 ⟨r.hd,by have:=r.dp;show A.depth + 1 + 3 * k + 5 < _;omega,by have:=r.un;show A.units + 3 + 16 * k + 200 < _;omega⟩
theorem Room.depth {k:Nat} {A:Around} (r:Room k A):A.depth < recursionLimit:=by have:=r.dp;omega
theorem Room.units {k:Nat} {A:Around} (r:Room k A):A.units + 64 < cLine:=by have:=r.un;omega
def Va:TA:=fun _ H Q=>Q [] H
def RQ (ta:TE) (tr:TA):TA:=fun σ H Q=>ta σ H fun x H1=>tr σ H1 fun xs H2=>Q (x :: xs) H2
section
variable {X:Cx} {e:Expr} {es:List Expr} {te:TE} {t:TA} {pos:Pos}
theorem rZ:PA X [] Va:=fun _ _ _ _ H Q I h=>Calls.spliced_nil ⟨[],H,I,.nil,h⟩
theorem mK (ha:PE X e te) (hr:PA X es t) (hs:starEach (e :: es) X.env=(false,eval e X.env) :: starEach es X.env:=by rfl):PA X (e :: es) (RQ te t):=by
 intro pos pins s σ H Q I h
 rw [hs]
 show wpAny _ _ (spliced ((false,eval e X.env) :: backTo pos (starEach es X.env))) _ _ s
 refine Calls.spliced_cons (thn (ha pins s σ H _ I h) fun u s1 ⟨x,H1,I1,r1,q1⟩=>?_)
 exact thn (hr pos pins s1 σ H1 _ I1 q1) fun us s2 ⟨xs,H2,I2,r2,q2⟩=>⟨x :: xs,H2,I2,.cons r1 r2,q2⟩
def Vb (t:TA):TE:=fun σ H Q=>t σ H fun xs H1=>xs.length ≤ sizeLine∧∀ p,H1 p=none→Q (.ref p) (upd H1 p (.tup xs))
def Vc (t:TA):TE:=fun σ H Q=>t σ H fun xs H1=>xs.length ≤ sizeLine∧∀ p,H1 p=none→Q (.ref p) (upd H1 p (.lst xs))
theorem O1 {x1} (h:PA X es t):PE X (.Tuple es x1 pos) (Vb t):=by
 intro pins s σ H Q I hq
 refine wpAny_Tuple_spliced (thn (h pos pins s σ H _ I hq) fun us s1 ⟨xs,H1,I1,r,z,q⟩=>⟨by rw [← r.length];exact z,?_⟩)
 have hf:H1 s1.heap.objs.size=none:=I1.hok.fresh (bf _)
 refine ⟨.ref s1.heap.objs.size,upd H1 s1.heap.objs.size (.tup xs),I1.laid (t':=s1.toks) (fun b u e=>Heap.get?_push_of_some _ e) (bf _) ?_,rfl,q _ hf⟩
 exact ⟨z,us,r,⟨_,Heap.get?_push_size _ rfl,rfl,_,rfl⟩⟩
theorem G7 (h:PA X es t):PE X (.List es pos) (Vc t):=by
 intro pins s σ H Q I hq
 refine wpAny_List_spliced (thn (h pos pins s σ H _ I hq) fun us s1 ⟨xs,H1,I1,r,z,q⟩=>⟨by rw [← r.length];exact z,?_⟩)
 have hf:H1 s1.heap.objs.size=none:=I1.hok.fresh (bf _)
 refine ⟨.ref s1.heap.objs.size,upd H1 s1.heap.objs.size (.lst xs),I1.laid (t':=s1.toks) (fun b u e=>Heap.get?_push_of_some _ e) (bf _) ?_,rfl,q _ hf⟩
 exact ⟨z,us,0,r,Heap.get?_push_size _ rfl⟩
end
abbrev Sp:=List V→Hp→VK→XK→Prop
abbrev CXT:=List Env→Hp→Shared→XK→Value→Shared→Prop
structure Env0 (P:Program) (w:World) (K:PySem.W.Frag) (mg:Str→Option Value) (base:Heap) (A:Around) (outer:List Env) (s:Shared) (H:Hp):Prop where
 frames:A.frames=some outer
 mod:Mod K mg base
 bs:∀ b o,base.get? b=some o→s.heap.get? b=some o∧H b=none
 bsz:base.objs.size ≤ s.heap.objs.size
 funs:s.heap.FunFrames base outer
 frf:∀ b ∈ frs outer,H b=none
 hok:HOk P w H s.heap
 bare:AllBare s.gens
def CE (outer:List Env) (P:Program) (w:World) (H:Hp) (s:Shared) (Q:VK) (u:Value) (s':Shared):Prop :=
 ∃ v H',s'.os=s.os∧AllBare s'.gens∧Un (frs outer) [] H H' s.heap s'.heap∧HOk P w H' s'.heap∧RelV v u∧Q v H'
def CR (CX:CXT) (outer:List Env) (P:Program) (w:World) (H:Hp) (s:Shared) (Q:VK) (E:XK) (r:Result) (s':Shared):Prop :=
 match r with
 | .ok (.ret u)=>CE outer P w H s Q u s'
 | .ok _=>False
 | .error e=>CX outer H s E e s'
structure FnOk (P:Program) (w:World) (K:PySem.W.Frag) (mg:Str→Option Value) (base:Heap) (CX:CXT) (k:Nat) (f:Addr) (fd:FuncData) (ps:List Str) (sp:Sp):Prop where
 len:∀ vs H Q E,sp vs H Q E→vs.length=ps.length
 run:∀ (A:Around) (outer:List Env) (s:Shared) (H:Hp) (args:Args) (us:List Value) (vs:List V) (Q:VK) (E:XK),Room k A→Env0 P w K mg base A outer s H→BindsTo s fd args (ps.zip us)→Vals vs us→sp vs H Q E →
  codeAny (model P w) A (.call (.ref f) args) (CR CX outer P w H s Q E) s
theorem FnOk.mono {P:Program} {w:World} {K:PySem.W.Frag} {mg:Str→Option Value} {base:Heap} {CX:CXT} {j k:Nat} {f:Addr} {fd:FuncData} {ps:List Str} {sp:Sp} (F:FnOk P w K mg base CX j f fd ps sp) (h:j ≤ k) :
 FnOk P w K mg base CX k f fd ps sp:=⟨F.len,fun A outer s H args us vs Q E hr=>F.run A outer s H args us vs Q E (hr.mono h)⟩
theorem FnOk.imp {P:Program} {w:World} {K:PySem.W.Frag} {mg:Str→Option Value} {base:Heap} {CX:CXT} {k:Nat} {f:Addr} {fd:FuncData} {ps:List Str} {sp sp':Sp} (F:FnOk P w K mg base CX k f fd ps sp)
 (h:∀ vs H Q E,sp' vs H Q E→sp vs H Q E):FnOk P w K mg base CX k f fd ps sp' :=
 ⟨fun vs H Q E q=>F.len vs H Q E (h _ _ _ _ q),fun A outer s H args us vs Q E hr he hb hv hs=>F.run A outer s H args us vs Q E hr he hb hv (h _ _ _ _ hs)⟩
section
variable {X:Cx} {pins:List (Addr × Obj)} {σ:St} {H:Hp} {s s':Shared}
theorem Inv.env0 (I:Inv X pins σ H s):Env0 X.prog X.w X.K X.mg X.base X.A X.stack s H :=
 ⟨I.ok.frames,I.ok.mod,I.bs,bT I.ok.bsz I.sz,I.stack,I.stkFree,I.hok,I.bare⟩
theorem Inv.after {Q:VK} {u:Value} (I:Inv X pins σ H s) (h:CE X.stack X.prog X.w H s Q u s'):EP X pins σ Q u s':=by
 obtain ⟨v,H',os,bare,un,hok,r,q⟩:=h
 obtain ⟨hh,g,d,t,os'⟩:=s'
 obtain rfl:os'=s.os:=os
 exact ⟨v,H',I.call (h':=hh) (g':=g) (d':=d) (t':=t) (ch:=[]) un hok bare (fun b z=>absurd z (by simp)),r,q⟩
end
def Nb (sp:Sp) (dvs:List V) (E:XK) (t:TA):TE:=fun σ H Q=>t σ H fun vs H1=>sp (vs++dvs) H1 Q E
def Binds (K:PySem.W.Frag) (fd:FuncData) (ps:List Str) (ds:List Value):Prop :=
 ∀ (s:Shared) (us:List Value),K.In s.heap→(us++ds).length=ps.length→BindsTo s fd ⟨us,[]⟩ (ps.zip (us++ds))
theorem Binds.all {K:PySem.W.Frag} {fd:FuncData} {ps:List Str} (h:∀ us:List Value,us.length=ps.length→bindArgs fd ⟨us,[]⟩=pure (ps.zip us)):Binds K fd ps []:=fun s us _ hl=>by
 rw [cP] at hl ⊢
 exact .of_eq (h us hl)
def Passes (CX:CXT) (X:Cx) (E:XK):Prop:=∀ (pins:List (Addr × Obj)) (σ:St) (H:Hp) (s:Shared) (e:Value) (s':Shared),Inv X pins σ H s→CX X.stack H s E e s'→X.xe e s'
section
variable {X:Cx} {CX:CXT} {k:Nat} {f C:Addr} {fd:FuncData} {ps:List Str} {sp:Sp} {dvs:List V} {ds:List Value} {E:XK} {x m:Str} {p pos apos:Pos} {e o:Expr} {es:List Expr} {ta:TE} {t:TA}
theorem O2 {pins:List (Addr × Obj)} {σ:St} {H:Hp} {s:Shared} {Q:VK} {us:List Value} {vs:List V} (F:FnOk X.prog X.w X.K X.mg X.base CX k f fd ps sp) (hr:Room k X.A) (hb:Binds X.K fd ps ds) (hd:Vals dvs ds) (hx:Passes CX X E)
 (I:Inv X pins σ H s) (r:Vals vs us) (h:sp (vs++dvs) H Q E):wpAny (model X.prog X.w) X.A (call (.ref f) us) (EP X pins σ Q) X.xe s:=by
 have r2:Vals (vs++dvs) (us++ds):=r.append hd
 have hl:(us++ds).length=ps.length:=by rw [← r2.length];exact F.len _ _ _ _ h
 refine wpAny_call (codeAny_mono (F.run X.A X.stack s H ⟨us,[]⟩ (us++ds) (vs++dvs) Q E hr I.env0 (hb s us I.kIn hl) r2 h) fun r s' hq=>?_)
 cases r with
 | error e=>exact hx pins σ H s e s' I hq
 | ok fl =>
  cases fl with
  | ret u=>exact I.after hq
  | next=>exact False.elim hq
  | brk=>exact False.elim hq
  | cont=>exact False.elim hq
theorem J9 (F:FnOk X.prog X.w X.K X.mg X.base CX k f fd ps sp) (hr:Room k X.A) (hg:Gl X x) (hm:X.mg x=some (.ref f)) (hk:PySem.W.keepIn X.K (.ref f)=true) (hb:Binds X.K fd ps ds) (hd:Vals dvs ds) (hx:Passes CX X E)
 (ha:PA X (e :: es) t) (hdb:(x == ("__debug__" : Str))=false:=by decide) (he:starEach (e :: es) X.env=(false,eval e X.env) :: starEach es X.env:=by rfl) (hpl:(backTo pos (starEach es X.env)).any (·.1)=false:=by rfl) :
 PE X (.Call (.Name x p) (e :: es) [] pos) (Nb sp dvs E t):=by
 intro pins s σ H Q I h
 refine wpAny_Call_Name_kw (CZ I hg hm ?_ hdb)
 refine PySem.W.callWith_K (h₀:=X.base) I.ok.mod.kin hk (thn (ha pos pins s σ H _ I h) fun us s1 ⟨vs,H1,I1,r,q⟩=>⟨I1.kIn,?_⟩) he hpl
 exact O2 F hr hb hd hx I1 r q
structure Mk (K:PySem.W.Frag) (C f:Addr):Prop where
 makes:PySem.W.makesIn K C=true
 init:PySem.W.findIn K (.ref C) "__init__" = some (some (.ref f))
 fn:PySem.W.isFn K (.ref f)=true
 kp:PySem.W.keepIn K (.ref C)=true
end
section
variable {X:Cx} {CX:CXT} {k:Nat} {f C:Addr} {fd:FuncData} {ps ks:List Str} {sp:Sp} {E:XK} {x m:Str} {p pos apos kpos:Pos} {e o:Expr} {es:List Expr} {kws:List Keyword} {te ta:TE} {t tk:TA} {nm:Option Str}
structure KBinds (K:PySem.W.Frag) (fd:FuncData) (ps ks:List Str) (g:List Value→List Value→List Value) (gV:List V→List V→List V):Prop where
 to:∀ (s:Shared) (us ws:List Value),K.In s.heap→(g us ws).length=ps.length→BindsTo s fd ⟨us,ks.zip ws⟩ (ps.zip (g us ws))
 rel:∀ {vs:List V} {us:List Value} {zs:List V} {ws:List Value},Vals vs us→Vals zs ws→Vals (gV vs zs) (g us ws)
variable {g:List Value→List Value→List Value} {gV:List V→List V→List V}
end
structure FnScope (N P:List Str) (sc:Scope):Prop where
 kind:sc.kind = .function
 co:sc.isCoroutine=false
 gen:sc.isGenerator=false
 nd:N.Nodup
 pre:N.take P.length=P
 par:∀ x ∈ P,sc.names.lookup x=some .local∨sc.names.lookup x=some .cell
 nofree:∀ y ∈ sc.names,y.2 ≠ .free
theorem wC {kindOf:Str→Option NameKind} {x:Str}:∀ {binds:List (Str × Value)} {m:Str→Option Value},(∀ v,(x,v) ∉ binds)→bindL kindOf binds m x=m x
 | [],_,_=>rfl
 | (n,v) :: r,m,h=>by
  unfold bindL
  rw [wC fun w hw=>h w (aO _ hw)]
  split
  ·have:x ≠ n:=by rintro rfl;exact h v aN
   simp [this]
  ·rfl
theorem wD {kindOf:Str→Option NameKind} {x:Str}:∀ {binds:List (Str × Value)} {m:Str→Option Value},(∀ v,(x,v) ∉ binds)→bindC kindOf binds m x=m x
 | [],_,_=>rfl
 | (n,v) :: r,m,h=>by
  unfold bindC
  rw [wD fun w hw=>h w (aO _ hw)]
  split
  ·rfl
  ·have:x ≠ n:=by rintro rfl;exact h v aN
   simp [this]
theorem wF {kindOf:Str→Option NameKind} {x:Str} {v:Value}:∀ {P:List Str} {vs:List Value} {i:Nat} {m:Str→Option Value},P.Nodup→P[i]? = some x→vs[i]? = some v→kindOf x=some .local →
 bindL kindOf (P.zip vs) m x=some v
 | [],_,_,_,_,h,_,_=>by simp at h
 | _ :: _,[],_,_,_,_,h,_=>by simp at h
 | p :: P,w :: vs,0,m,nd,h1,h2,hk=>by
  simp at h1 h2;subst h1;subst h2
  show bindL kindOf ((p,w) :: P.zip vs) m p=_
  unfold bindL
  rw [wC fun v hv=>(bV.mp nd).1 (oO hv).1,if_pos hk]
  simp
 | p :: P,w :: vs,i + 1,m,nd,h1,h2,hk=>by
  show bindL kindOf ((p,w) :: P.zip vs) m x=_
  unfold bindL
  exact wF (i:=i) (bV.mp nd).2 (by simpa using h1) (by simpa using h2) hk
theorem wG {kindOf:Str→Option NameKind} {x:Str} {v:Value}:∀ {P:List Str} {vs:List Value} {i:Nat} {m:Str→Option Value},P.Nodup→P[i]? = some x→vs[i]? = some v→kindOf x ≠ some .local →
 bindC kindOf (P.zip vs) m x=some v
 | [],_,_,_,_,h,_,_=>by simp at h
 | _ :: _,[],_,_,_,_,h,_=>by simp at h
 | p :: P,w :: vs,0,m,nd,h1,h2,hk=>by
  simp at h1 h2;subst h1;subst h2
  show bindC kindOf ((p,w) :: P.zip vs) m p=_
  unfold bindC
  rw [wD fun v hv=>(bV.mp nd).1 (oO hv).1,if_neg hk]
  simp
 | p :: P,w :: vs,i + 1,m,nd,h1,h2,hk=>by
  show bindC kindOf ((p,w) :: P.zip vs) m x=_
  unfold bindC
  exact wG (i:=i) (bV.mp nd).2 (by simpa using h1) (by simpa using h2) hk
def start (N:List Str) (vs:List V):St:=vs.map some++bG (N.length - vs.length) none
def zE (CX:CXT) (P:Program) (w:World) (K:PySem.W.Frag) (mg:Str→Option Value) (base:Heap) (N:List Str) (qual:Str) (scope:Scope) (f:Addr) (cd:Value) (A:Around) (outer:List Env) (s:Shared) (H:Hp) (E:XK):Cx where
 prog:=P
 w:=w
 K:=K
 mg:=mg
 base:=base
 A:=A.deeper (envOfC qual scope s.heap.objs.size f cd)
 N:=N
 s₀:=s
 H₀:=H
 env:=envOfC qual scope s.heap.objs.size f cd
 outer:=outer
 stack:=envOfC qual scope s.heap.objs.size f cd :: outer
 ex:=[]
 calm:=true
 fn:=fun _=>true
 pn:=[]
 xe:=fun e s'=>wpAny (model P w) (A.deeper (envOfC qual scope s.heap.objs.size f cd)) (leaving (envOfC qual scope s.heap.objs.size f cd) e) (fun _ s''=>CX outer H s E e s'') (fun e' s''=>CX outer H s E e' s'') s'
theorem zF {sc:Scope} {n:Nat} {x:Str} (h:sc.names.lookup x=some .cell):∃ c,(cellsFrom n sc.names []).lookup x=some c:=by
 have q:=PySem.W.cellsFrom_some sc.names n [] (.inl h)
 exact cH.mp q
theorem Ez {CX:CXT} {P:Program} {w:World} {K:PySem.W.Frag} {mg:Str→Option Value} {base:Heap} {N ps:List Str} {qual:Str} {scope:Scope} {f:Addr} {cd:Value} {A:Around} {outer:List Env} {s s1:Shared} {H:Hp} {E:XK} {us:List Value} {vs:List V}
 (S:FnScope N ps scope) (hd:A.handled=none) (e0:Env0 P w K mg base A outer s H) (hl:vs.length=ps.length) (r:Vals vs us)
 (x:InCallC s s.heap.objs.size (bindL (envOfC qual scope s.heap.objs.size f cd).kindOf (ps.zip us) fun _=>none) (cellsFrom (s.heap.objs.size + 1) scope.names []) (bindC (envOfC qual scope s.heap.objs.size f cd).kindOf (ps.zip us) fun _=>none) s1) :
 Inv (zE CX P w K mg base N qual scope f cd A outer s H E) [] (start N vs) H s1:=by
 have hpl:ps.length ≤ N.length:=by have:=congrArg List.length S.pre;rw [List.length_take] at this;omega
 obtain ⟨h1,tk,rfl,hk⟩:=x.done
 have noA:∀ b:Addr,b ∉ (zE CX P w K mg base N qual scope f cd A outer s H E).ex:=fun b z=>absurd (show b ∈ ([]:List Addr) from z) (by simp)
 refine ⟨⟨e0.mod,S.kind,rfl,rfl,bf _,fun y z c h1 h2=>?_,fun y hy=>?_,fun y c _ h=>?_,fun _=>hd,Around.frames_deeper e0.frames,.inr ⟨rfl,rfl⟩,fun b z=>absurd z (noA b),e0.bs,e0.bsz,fun b _ _=>noA b,fun b z=>absurd z (noA b),e0.funs,e0.frf⟩,
  rfl,e0.bare,Un.kept hk,⟨_,x.toInCall.ns,fun i y v h1 h2 h3=>?_⟩,fun y c h=>⟨_,x.cell y c h⟩,e0.hok.fresh (bf _),fun y c h=>?_,fun p hp=>absurd (show p ∈ ([]:List (Addr × Obj)) from hp) (by simp),e0.hok.kept hk,?_⟩
 ·exact name_of_addr x.apart (PySem.mem_of_lookup h1) (PySem.mem_of_lookup h2)
 ·have hy:scope.names.lookup y=some .cell∨scope.names.lookup y=some .free:=hy
  rcases hy with hy | hy
  ·exact zF hy
  ·exact absurd rfl (S.nofree _ (PySem.mem_of_lookup hy))
 ·exact fZ (x.above y c (PySem.mem_of_lookup h))
 ·have hi:i < vs.length:=by
   unfold start at h2
   by_cases hi:i < vs.length
   ·exact hi
   ·rw [dh (by simpa using hi)] at h2
    rw [fP] at h2
    split at h2 <;> cases h2
  have ha:vs[i]? = some v:=by
   unfold start at h2
   rw [dF (by simpa using hi),aQ] at h2
   cases e:vs[i]? with
   | none=>rw [e] at h2;cases h2
   | some a=>rw [e] at h2;cases h2;rfl
  obtain ⟨u,hu,rv⟩:=r.get ha
  have hp:ps[i]? = some y:=by
   rw [← S.pre,List.getElem?_take_of_lt (by omega)];exact h1
  have ndP:ps.Nodup:=by rw [← S.pre];exact S.nd.sublist (List.take_sublist _ _)
  refine ⟨u,rv,?_⟩
  rcases S.par y (fJ hp) with k | k
  ·exact .inl ⟨k,wF ndP hp hu k⟩
  ·obtain ⟨c,e⟩:=zF (n:=s.heap.objs.size + 1) k
   refine .inr ⟨.inl k,c,e,?_⟩
   have q:=x.cell y c e
   rw [wG ndP hp hu (by show scope.names.lookup y ≠ _;rw [k];decide)] at q
   exact q
 ·exact e0.hok.fresh (fZ (x.above y c (PySem.mem_of_lookup h)))
 ·unfold start
  show _=N.length
  rw [bQ,aJ,bZ]
  omega
theorem Nf {CX:CXT} {P:Program} {w:World} {K:PySem.W.Frag} {mg:Str→Option Value} {base:Heap} {k:Nat} {f:Addr} {name qual:Str} {params:Arguments} {body:List Stmt} {scope:Scope} {dV kV doc pm cdv ct oc:Value} {an od:Option Addr}
 {osl:Array (Option Value)} {N ps:List Str} {sp:Sp} (lk:K.lookup f=some ⟨oc,od,.func (PySem.W.fnOf name qual params body scope dV kV doc pm an cdv ct),osl⟩) (hcd:PySem.W.codeIn K cdv qual=true) (S:FnScope N ps scope)
 (len:∀ vs H Q E,sp vs H Q E→vs.length=ps.length)
 (hbody:∀ (A:Around) (outer:List Env) (s:Shared) (H:Hp) (vs:List V) (Q:VK) (E:XK),Room k (A.deeper (envOfC qual scope s.heap.objs.size f cdv))→sp vs H Q E →
  ∃ t,PSs (zE CX P w K mg base N qual scope f cdv A outer s H E) body t∧t { nx:=fun _ H'=>Q .non H',rt:=Q } (start N vs) H) :
 FnOk P w K mg base CX (k + 1) f (PySem.W.fnOf name qual params body scope dV kV doc pm an cdv ct) ps sp:=by
 refine ⟨len,fun A outer s H args us vs Q E hr e0 hb r hsp=>?_⟩
 have hl:=len _ _ _ _ hsp
 have KX:K.In s.heap:=e0.mod.kin.keeps fun b o e=>(e0.bs b o e).1
 have lim:s.heap.NoLimit:=e0.mod.nolimit.keeps fun b o e=>(e0.bs b o e).1
 have hkind:∀ y ∈ ps.zip us,scope.names.lookup y.1=some .local∨(scope.names.lookup y.1=some .cell∧((cellsFrom (s.heap.objs.size + 1) scope.names []).lookup y.1).isSome=true):=fun ⟨n,v⟩ hy=>by
  rcases S.par n (oO hy).1 with q | q
  ·exact .inl q
  ·exact .inr ⟨q,PySem.W.cellsFrom_some _ _ _ (.inl q)⟩
 refine codeAny_call_function hr.depth (KX _ _ lk) rfl S.co S.gen rfl (PySem.W.codeRec_of KX hcd) (hb _ _ _ _ ?_)
 refine wpAny_newFunctionEnv_cells S.kind hkind fun env he s1 x=>?_
 subst he
 refine ⟨lim.keeps x.toInCall.keep,codeAny_func ?_⟩
 obtain ⟨t,ht,hq⟩:=hbody A outer s H vs Q E (hr.deeper _) hsp
 have I:Inv (zE CX P w K mg base N qual scope f cdv A outer s H E) [] (start N vs) H s1:=Ez S hr.hd e0 hl r x
 refine wpAny_mono (ht [] s1 (start N vs) H _ I hq) (fun fl s' hs=>?_) fun e s' hs=>hs
 have fin:∀ {σ':St} {H':Hp} {v:V} {u:Value},Inv (zE CX P w K mg base N qual scope f cdv A outer s H E) [] σ' H' s'→RelV v u→Q v H'→CE outer P w H s Q u s' :=
  fun {σ' H' v u} J rv q=>⟨v,H',J.os,J.bare,J.base,J.hok,rv,q⟩
 cases fl with
 | ret u =>
  obtain ⟨v,σ',H',J,rv,q⟩:=hs
  exact fin J rv q
 | next =>
  obtain ⟨σ',H',J,q⟩:=hs
  exact fin (v:=V.non) (u:=Value.none) J rfl q
 | brk =>
  obtain ⟨_,_,_,q⟩:=hs
  exact False.elim q
 | cont =>
  obtain ⟨_,_,_,q⟩:=hs
  exact False.elim q
end L2
namespace L2
open PySem PySem.Spec PyProof.Rows
section
variable {X:Cx} {x:Str} {p pos:Pos} {e:Expr} {es:List Expr} {t:TA} {id T:String} {r:List V→Hp→VK→Prop}
def tCB (r:List V→Hp→VK→Prop) (t:TA):TE:=fun σ H Q=>t σ H fun vs H1=>r vs H1 Q
theorem nF (hc:mJ X (.builtin id) r) (hg:Gl X x) (hm:X.mg x=none) (hv:bootBuiltins x=some (.builtin id)) (ha:PA X (e :: es) t) (hn:x ≠ "__name__" := by decide) (hdb:(x == ("__debug__" : Str))=false:=by decide)
 (he:starEach (e :: es) X.env=(false,eval e X.env) :: starEach es X.env:=by rfl) (hpl:(backTo pos (starEach es X.env)).any (·.1)=false:=by rfl):PE X (.Call (.Name x p) (e :: es) [] pos) (tCB r t):=by
 intro pins s σ H Q I h
 refine wpAny_Call_Name_kw (qt I hg hm hv ?_ hn hdb)
 exact PyProof.Rows.callWith_builtin1 (thn (ha pos pins s σ H _ I h) fun us s1 ⟨vs,H1,I1,r1,q1⟩=>hc pins s1 σ H1 vs us Q I1 r1 q1) he hpl
theorem wH (hc:mJ X (.type T) r) (hg:Gl X x) (hm:X.mg x=none) (hv:bootBuiltins x=some (.type T)) (ha:PA X (e :: es) t) (hn:x ≠ "__name__" := by decide) (hdb:(x == ("__debug__" : Str))=false:=by decide)
 (he:starEach (e :: es) X.env=(false,eval e X.env) :: starEach es X.env:=by rfl) (hpl:(backTo pos (starEach es X.env)).any (·.1)=false:=by rfl):PE X (.Call (.Name x p) (e :: es) [] pos) (tCB r t):=by
 intro pins s σ H Q I h
 refine wpAny_Call_Name_kw (qt I hg hm hv ?_ hn hdb)
 exact PyProof.Rows.callWith_type1 (thn (ha pos pins s σ H _ I h) fun us s1 ⟨vs,H1,I1,r1,q1⟩=>hc pins s1 σ H1 vs us Q I1 r1 q1) he hpl
end
end L2
namespace HT
open PySem PyProof.Rows
section
open PySem.SeqAt
open PySem.AutoSeq1 (wpAny_loadPart')
open PySem.MeetsSeq PySem.MeetsSeq2 PySem.MeetsSeq3
end
section
variable {prog:Program} {w:World} {A:Around} {E:Value→Shared→Prop} {s:Shared}
end
end HT
namespace L2
open PySem PySem.Spec PyProof.Rows
abbrev TO:=St→Hp→(Option Int→Hp→Prop)→Prop
def PO (X:Cx) (e:Option Expr) (t:TO):Prop :=
 ∀ (pins:List (Addr × Obj)) (s:Shared) (σ:St) (H:Hp) (Q:Option Int→Hp→Prop),Inv X pins σ H s→t σ H Q →
  wpAny (model X.prog X.w) X.A (evalPart e X.env) (fun u s'=>∃ o H',Inv X pins σ H' s'∧IsPart u o∧Q o H') X.xe s
section
variable {X:Cx} {e:Expr} {te:TE} {lo hi:Option Expr} {tl th:TO} {pos p2:Pos}
end
end L2
namespace L2
open PySem PySem.Spec PyProof.Rows
def ixN (n:Nat) (i:Int):Option Nat:=if 0 ≤ i then (if i < n then some i.toNat else none) else if -(n:Int) ≤ i then some (i + n).toNat else none
def atI {α:Type} (xs:List α) (i:Int):Option α:=(ixN xs.length i).bind fun j=>xs[j]?
theorem Dc {n:Nat} {i:Int} {j:Nat} (h:ixN n i=some j):seqIndex? i n=some j∧j < n∧-(n:Int) ≤ i∧i < n:=by
 unfold ixN at h
 by_cases h0:0 ≤ i
 ·rw [if_pos h0] at h
  by_cases h1:i < n
  ·rw [if_pos h1] at h
   have e:i.toNat=j:=cN.inj h
   exact ⟨by rw [seqIndex_of h0 h1,e],by omega,by omega,h1⟩
  ·rw [if_neg h1] at h;cases h
 ·rw [if_neg h0] at h
  by_cases h1 : -(n:Int) ≤ i
  ·rw [if_pos h1] at h
   have e:(i + n).toNat=j:=cN.inj h
   exact ⟨by rw [seqIndex_neg (by omega) h1,e],by omega,h1,by omega⟩
  ·rw [if_neg h1] at h;cases h
theorem tZ {α:Type} {xs:List α} {i:Int} {v:α} (h:atI xs i=some v):∃ j,seqIndex? i xs.length=some j∧xs[j]? = some v∧j < xs.length∧-(xs.length:Int) ≤ i∧i < xs.length:=by
 unfold atI at h
 cases e:ixN xs.length i with
 | none=>rw [e] at h;cases h
 | some j =>
  rw [e] at h
  obtain ⟨h1,h2,h3,h4⟩:=Dc e
  exact ⟨j,h1,h,h2,h3,h4⟩
def xJ (b:Expr):Prop:=∀ o i,subscripted b false o i=operate [o,i] (getItem o i)
def IxR (X:Cx) (r:R2):Prop :=
 ∀ (value slice:Expr) (pins:List (Addr × Obj)) (s:Shared) (σ:St) (H:Hp) (x y:V) (v u:Value) (Q:VK),Inv X pins σ H s→RelV x v→RelV y u→r x y H Q →
  subscripted slice false v u=operate [v,u] (getItem v u)→wpAny (model X.prog X.w) X.A (subscriptTail value slice v u) (EP X pins σ Q) X.xe s
def MtR (X:Cx) (id:String) (r:V→List V→Hp→VK→Prop):Prop :=
 ∀ (pins:List (Addr × Obj)) (s:Shared) (σ:St) (H:Hp) (x:V) (xs:List V) (v:Value) (us:List Value) (Q:VK),Inv X pins σ H s→RelV x v→Vals xs us→r x xs H Q →
  wpAny (model X.prog X.w) X.A (call (.builtin id) (v :: us)) (EP X pins σ Q) X.xe s
section
variable {X:Cx} {a b:Expr} {ta tb:TE} {pos:Pos}
theorem IxR.or {r r':R2} (h:IxR X r) (h':IxR X r'):IxR X (fun x y H Q=>r x y H Q∨r' x y H Q):=by
 intro value slice pins s σ H x y v u Q I rx ry q hs
 rcases q with q | q
 ·exact h value slice pins s σ H x y v u Q I rx ry q hs
 ·exact h' value slice pins s σ H x y v u Q I rx ry q hs
theorem RV {r:R2} (hr:IxR X r) (ha:PE X a ta) (hb:PE X b tb) (hs:xJ b):PE X (.Subscript a b pos) (tOp r ta tb):=by
 intro pins s σ H Q I h
 exact Subscript_ (Ox ha hb I h fun v u s2 x y H2 I2 rx ry q=>hr a b pins s2 σ H2 x y v u Q I2 rx ry q (hs _ _))
def RW (K:PySem.W.Frag):R2:=fun x y H Q=>∃ p xs i v,x = .ref p∧y = .int i∧SqL K H p xs∧atI xs i=some v∧Q v H
def RX (K:PySem.W.Frag):R2:=fun x y H Q=>∃ p xs i v,x = .ref p∧y = .int i∧SqT K H p xs∧atI xs i=some v∧Q v H
def RZ:R2:=fun x y H Q=>∃ z i c,x = .str z∧y = .int i∧z.length ≤ sizeLine∧atI z.cps.toList i=some c∧Q (.str ⟨#[c]⟩) H
theorem J_:IxR X (RW X.K):=by
 intro value slice pins s σ H x y v u Q I rx ry h hs
 obtain ⟨p,xs,i,z,rfl,rfl,hq,he,q⟩:=h
 cases rx
 obtain ⟨t,rfl⟩:=ry
 obtain ⟨its,r,pl,hz⟩:=I.list hq
 obtain ⟨j,h1,h2,h3,h4,h5⟩:=tZ he
 obtain ⟨w,ew,rw'⟩:=r.get h2
 have hl:=r.length
 have hn:=rY
 have fin:EP X pins σ Q w s:=⟨z,H,I,rw',q⟩
 by_cases h0:0 ≤ i
 ·have hj:i.toNat=j:=by
   rw [seqIndex_of h0 h5] at h1
   exact cN.inj h1
  exact item_listR pl.isList h0 (by omega) (by rw [hj];simpa using ew) fin hs
 ·have hj:(i + (its.toArray.size:Int)).toNat=j:=by
   rw [seqIndex_neg (by omega) h4] at h1
   rw [bO,← hl]
   exact cN.inj h1
  exact subscriptTail_builtinR (x:=w) pl.isList.typeIs slot_list_getitem.lookup
   (wpAny_getItem_list_neg (Q:=fun r s'=>r=w∧EP X pins σ Q r s') pl.isList (by omega) (by rw [bO] <;> omega) (by omega) (by rw [hj];simpa using ew) ⟨rfl,fin⟩) hs
theorem O3:IxR X (RX X.K):=by
 intro value slice pins s σ H x y v u Q I rx ry h hs
 obtain ⟨p,xs,i,z,rfl,rfl,hq,he,q⟩:=h
 cases rx
 obtain ⟨t,rfl⟩:=ry
 obtain ⟨its,r,pl,hz⟩:=I.tuple hq
 obtain ⟨j,h1,h2,h3,h4,h5⟩:=tZ he
 obtain ⟨w,ew,rw'⟩:=r.get h2
 have hl:=r.length
 have hn:=rY
 have fin:EP X pins σ Q w s:=⟨z,H,I,rw',q⟩
 exact subscriptTail_builtinR (x:=w) pl.typeIs slot_tuple_getitem.lookup
  (getItem_tuple (j:=j) (Q:=fun r s'=>r=w∧EP X pins σ Q r s') pl (by omega) (by omega) (by rw [bO,← hl];exact h1) (by simpa using ew) ⟨rfl,fin⟩) hs
theorem O4:IxR X RZ:=by
 intro value slice pins s σ H x y v u Q I rx ry h hs
 obtain ⟨z,i,c,rfl,rfl,hz,he,q⟩:=h
 obtain ⟨t,rfl⟩:=rx
 obtain ⟨t',rfl⟩:=ry
 obtain ⟨j,h1,h2,h3,h4,h5⟩:=tZ he
 have hl:z.cps.toList.length=z.length:=by simp [Str.length]
 rw [hl] at h1 h4 h5
 have hn:=rY
 exact tail_any (typeIs_str s z t) slot_str_getitem.lookup (getItem_str (c:=c) (by
  have e1:decide (i < -(2 ^ 63:Int))=false:=dFa (by omega)
  have e2:decide (i ≥ 2 ^ 63)=false:=dFa (by omega)
  rw [e1,e2,Bool.or_false]) (by rw [h1];simpa using h2) ⟨.str ⟨#[c]⟩,H,I.tok _,⟨_,rfl⟩,q⟩) hs
def rIx (K:PySem.W.Frag):R2:=fun x y H Q=>RW K x y H Q∨RX K x y H Q∨RZ x y H Q
theorem O5:IxR X (rIx X.K):=J_.or (O3.or O4)
theorem Ba (its:List Value) (n j:Nat) (u:Value):Obj.mapSeq (·.setIfInBounds j u) { cls:=.type "list", data:=.seq its.toArray n } = { cls:=.type "list", data:=.seq (its.set j u).toArray n }:=by
 simp [Obj.mapSeq]
theorem Inv.lst {pins:List (Addr × Obj)} {σ:St} {H:Hp} {s:Shared} {p:Addr} {xs:List V} (I:Inv X pins σ H s) (h:H p=some (.lst xs)) :
 ∃ (its:List Value) (n:Nat),Vals xs its∧s.heap.get? p=some { cls:=.type "list", data:=.seq its.toArray n }∧xs.length ≤ sizeLine:=by
 obtain ⟨z,its,n,r,e⟩:=I.hok p _ h
 exact ⟨its,n,r,e,z⟩
theorem Inv.lstUpd {pins:List (Addr × Obj)} {σ:St} {H:Hp} {s:Shared} {p:Addr} {xs ys:List V} {its its':List Value} {n n':Nat} {f:Obj→Obj} (I:Inv X pins σ H s) (h:H p=some (.lst xs))
 (ho:s.heap.get? p=some { cls:=.type "list", data:=.seq its.toArray n }) (hf:f { cls:=.type "list", data:=.seq its.toArray n } = { cls:=.type "list", data:=.seq its'.toArray n' }) (r:Vals ys its') (hz:ys.length ≤ sizeLine) (t:Nat) :
 Inv X pins σ (upd H p (.lst ys)) { s with heap:=s.heap.update p f,toks:=t }:=by
 have e:(s.heap.update p f).get? p=some { cls:=.type "list", data:=.seq its'.toArray n' }:=by
  rw [Heap.get?_update_self f ho (by rw [hf] <;> rfl),hf]
 refine I.write (x:=p) (e:=p) (by rw [h];trivial) (.inl rfl) (fun b u hb q=>(Heap.get?_update_other _ _ (Ne.symm hb)).trans q) ⟨_,e⟩ ?_
 exact ⟨hz,its',n',r,e⟩
def R3:V→V→V→Hp→(Hp→Prop)→Prop:=fun o i v H Q=>∃ p xs k j,o = .ref p∧i = .int k∧H p=some (.lst xs)∧ixN xs.length k=some j∧Q (upd H p (.lst (xs.set j v)))
theorem set_list:Om X R3:=by
 intro pins s σ H o i v ov iv u Q I ro ri rv h
 obtain ⟨p,xs,k,j,rfl,rfl,hp,hj,q⟩:=h
 cases ro
 obtain ⟨t,rfl⟩:=ri
 obtain ⟨its,n,r,ho,hz⟩:=I.lst hp
 obtain ⟨h1,h2,h3,h4⟩:=Dc hj
 have hl:=r.length
 have hn:=rY
 have I':Inv X pins σ (upd H p (.lst (xs.set j v))) { s with heap:=s.heap.update p (Obj.mapSeq (·.setIfInBounds j u)) } :=
  I.lstUpd hp ho (Ba its n j u) (r.set rv j) (by rw [dB];exact hz) s.toks
 by_cases h0:0 ≤ k
 ·have hk:k.toNat=j:=by
   rw [seqIndex_of h0 h4] at h1
   exact cN.inj h1
  exact PySem.W.ki_setAt ho h0 (by omega) (by rw [bO,← hl];exact h4) (by rw [hk];exact ⟨_,I',q⟩)
 ·have hk:(k + (its.toArray.size:Int)).toNat=j:=by
   rw [seqIndex_neg (by omega) h3] at h1
   rw [bO,← hl]
   exact cN.inj h1
  exact PySem.W.ki_setBack ho (by omega) (by rw [bO,← hl];exact h3) (by omega) (by rw [hk];exact ⟨_,I',q⟩)
theorem cA:mJ X (.builtin "len") (fun xs H Q=>∃ p ys,xs=[.ref p]∧(SqL X.K H p ys∨SqT X.K H p ys)∧Q (.int ys.length) H):=by
 intro pins s σ H xs us Q I r h
 obtain ⟨p,ys,rfl,hq,q⟩:=h
 obtain ⟨u,rfl,rx⟩:=vals1 r
 cases rx
 have hn:=rY
 rcases hq with hq | hq
 ·obtain ⟨its,r',pl,hz⟩:=I.list hq
  have hlen:=r'.length
  exact Calls.call_len_list pl.isList (by simp only [bO] <;> omega) ⟨.int ys.length,H,I.tok _,⟨s.toks + 1,by rw [bO,hlen]⟩,q⟩
 ·obtain ⟨its,r',pl,hz⟩:=I.tuple hq
  have hlen:=r'.length
  exact len_tuple pl (by simp only [bO] <;> omega) ⟨.int ys.length,H,I.tok _,⟨s.toks + 1,by rw [bO,hlen]⟩,q⟩
theorem xK:mJ X (.type "list") (fun xs H Q=>∃ p ys,xs=[.ref p]∧(SqL X.K H p ys∨SqT X.K H p ys)∧∀ l,H l=none→Q (.ref l) (upd H l (.lst ys))):=by
 intro pins s σ H xs us Q I r h
 obtain ⟨p,ys,rfl,hq,q⟩:=h
 obtain ⟨u,rfl,rx⟩:=vals1 r
 cases rx
 have fin:∀ (its:List Value),Vals ys its→ys.length ≤ sizeLine→∀ (h':Heap) (c':Nat),(∀ b o',s.heap.get? b=some o'→h'.get? b=some o') →
  h'.get? s.heap.objs.size=some { cls:=.type "list", dict:=none,data:=.seq its.toArray c',slots:=#[] }→EP X pins σ Q (.ref s.heap.objs.size) { s with heap:=h' }:=fun its r' hz h' c' kp e =>
  ⟨.ref s.heap.objs.size,_,I.laid (t':=s.toks) kp (bf _) (show gB X.prog X.w _ h' _ (.lst ys) from ⟨hz,its,c',r',e⟩),rfl,q _ (I.hok.fresh (bf _))⟩
 rcases hq with hq | hq
 ·obtain ⟨its,r',pl,hz⟩:=I.list hq
  have hlen:=r'.length
  obtain ⟨o,ho,hc,n,hd⟩:=pl.isList
  exact call_list_seq p (.inl rfl) ho hc hd (fun h' c' kp e=>fin its r' hz h' c' kp e) (by simp only [bO] <;> omega)
 ·obtain ⟨its,r',pl,hz⟩:=I.tuple hq
  have hlen:=r'.length
  obtain ⟨o,ho,hc,n,hd⟩:=pl
  exact call_list_seq p (.inr rfl) ho hc hd (fun h' c' kp e=>fin its r' hz h' c' kp e) (by simp only [bO] <;> omega)
def tyV (K:PySem.W.Frag) (T:String) (x:V) (H:Hp):Prop:=match x with
 | .str _=>T = "str"
 | .int _=>T = "int"
 | .ref p=>(T = "list" ∧ ∃ xs,SqL K H p xs)∨(T = "tuple" ∧ ∃ o,K.lookup p=some o∧o.cls = .type "tuple" ∧ o.dict=none) ∨
  (T = "dict" ∧ ((∃ kvs,H p=some (.dK kvs))∨∃ kvs,H p=some (.dT kvs)))∨(T = "set" ∧ ∃ S n,H p=some (.set S n))
 | _=>False
theorem O6 {pins:List (Addr × Obj)} {σ:St} {H:Hp} {s:Shared} {T:String} {x:V} {v:Value} (I:Inv X pins σ H s) (r:RelV x v) (ty:tyV X.K T x H) :
 s.TypeIs v T∧∀ a,v = .ref a→∃ ob,s.heap.get? a=some ob∧ob.dict=none:=by
 cases x with
 | str z =>
  obtain ⟨t,rfl⟩:=r
  cases (show T = "str" from ty)
  exact ⟨typeIs_str s z t,fun _ e=>nomatch e⟩
 | int i =>
  obtain ⟨t,rfl⟩:=r
  cases (show T = "int" from ty)
  exact ⟨typeIs_int s i t,fun _ e=>nomatch e⟩
 | ref p =>
  cases r
  rcases ty with ⟨rfl,xs,hq⟩ | ⟨rfl,o,hk,hc,hd⟩ | ⟨rfl,hk⟩ | ⟨rfl,S,n,hk⟩
  ·obtain ⟨its,_,pl,_⟩:=I.list hq
   refine ⟨pl.isList.typeIs,fun a e=>?_⟩
   cases e
   obtain ⟨o,n,e,c,hd,_⟩:=pl
   exact ⟨o,e,hd⟩
  ·refine ⟨⟨o,I.kIn p o hk,hc⟩,fun a e=>?_⟩
   cases e
   exact ⟨o,I.kIn _ o hk,hd⟩
  ·have z:∃ o,s.heap.get? p=some o∧o.ExactDict:=by
    rcases hk with ⟨kvs,hk⟩ | ⟨kvs,hk⟩
    ·obtain ⟨_,_,_,_,o,_,_,e,ex,_⟩:=I.hok p _ hk
     exact ⟨o,e,ex⟩
    ·obtain ⟨_,_,_,_,o,_,_,e,ex,_⟩:=I.hok p _ hk
     exact ⟨o,e,ex⟩
   obtain ⟨o,e,ex⟩:=z
   refine ⟨⟨o,e,ex.1⟩,fun a e2=>?_⟩
   cases e2
   exact ⟨o,e,ex.2.1⟩
  ·obtain ⟨o,_,_,_,e,ex,_⟩:=I.hok p _ hk
   refine ⟨⟨o,e,ex.1⟩,fun a e2=>?_⟩
   cases e2
   exact ⟨o,e,ex.2.1⟩
 | _=>exact False.elim ty
def tBM (K:PySem.W.Frag) (T:String) (r:V→List V→Hp→VK→Prop) (to:TE) (t:TA):TE:=fun σ H Q=>to σ H fun x H1=>tyV K T x H1∧t σ H1 fun xs H2=>r x xs H2 Q
variable {o e:Expr} {es:List Expr} {to:TE} {t:TA} {name:Str} {apos cpos:Pos} {T id:String} {r:V→List V→Hp→VK→Prop}
theorem Ng (pa:PlainAttrs T) (slot:Slot T name id) (hty:typeOf (.builtin id)=pure (.type "method_descriptor")) (hm:MtR X id r) (ho:PE X o to) (ha:PA X (e :: es) t)
 (hbase:attributeBase o name X.env (eval o X.env)=eval o X.env:=by rfl)
 (hfew:((backTo cpos (starEach (e :: es) X.env)).all (fun x=>!x.1) && (backToKw cpos (keywordEach [] X.env)).all (fun x=>x.1.isSome)
  && decide ((e :: es).length + ([]:List Keyword).length + (if ([]:List Keyword).isEmpty then 0 else 1) < 30))=true:=by rfl)
 (hline:(apos.endLine == cpos.line)=true:=by rfl) (hs:starEach (e :: es) X.env=(false,eval e X.env) :: starEach es X.env:=by rfl) (hplain:(backTo cpos (starEach es X.env)).any (·.1)=false:=by rfl) :
 PE X (.Call (.Attribute o name apos) (e :: es) [] cpos) (tBM X.K T r to t):=by
 intro pins s σ H Q I h
 refine wpAny_Call_method_late hbase hfew hline rfl (thn (ho pins s σ H _ I h) fun v s1 ⟨x,H1,I1,r1,ty,q1⟩=>?_)
 obtain ⟨h1,h2⟩:=O6 I1 r1 ty
 refine ⟨T,id,pa,slot,hty,h1,h2,?_⟩
 have hA:=ha cpos pins s1 σ H1 _ I1 q1
 rw [hs] at hA ⊢
 refine Calls.callWith_builtin (by show (false || (backTo cpos (starEach es X.env)).any (·.1))=false;rw [hplain] <;> rfl) (Calls.evalArgs_plain ?_)
 exact thn hA fun us s2 ⟨vs,H2,I2,r2,q2⟩=>hm pins s2 σ H2 x vs v us Q I2 r1 r2 q2
/- xs.append(e),list.index on a module's tuple .. are MtR facts of 06m -/
end
end L2
namespace L2
open PySem PySem.Spec PyProof.Rows
def MtM (X:Cx) (id:String) (r:V→List V→Hp→VK→Prop):Prop :=
 ∀ (pins:List (Addr × Obj)) (s:Shared) (σ:St) (H:Hp) (x:V) (xs:List V) (v:Value) (us:List Value) (Q:VK),Inv X pins σ H s→RelV x v→Vals xs us→r x xs H Q →
  wpAny (model X.prog X.w) X.A (call (.builtin id) (v :: us)) (EP X pins σ Q) X.xe s
theorem Vals.one:∀ {x:V} {us:List Value},Vals [x] us→∃ u,us=[u]∧RelV x u
 | _,_,.cons r .nil=>⟨_,rfl,r⟩
theorem Vals.two:∀ {x y:V} {us:List Value},Vals [x,y] us→∃ u v,us=[u,v]∧RelV x u∧RelV y v
 | _,_,_,.cons r (.cons q .nil)=>⟨_,_,rfl,r,q⟩
theorem Vals.zero:∀ {us:List Value},Vals [] us→us=[]
 | _,.nil=>rfl
theorem Vals.eraseIdx:∀ {xs:List V} {us:List Value} (i:Nat),Vals xs us→Vals (xs.eraseIdx i) (us.eraseIdx i)
 | _,_,_,.nil=>.nil
 | _,_,0,.cons _ t=>t
 | _,_,i + 1,.cons r t=>.cons r (Vals.eraseIdx i t)
theorem Vals.rep {xs:List V} {us:List Value} (h:Vals xs us):∀ k:Nat,Vals (bG k xs).flatten (bG k us).flatten
 | 0=>.nil
 | k + 1=>by
  rw [cO,cO,fQ,fQ]
  exact Vals.append h (Vals.rep h k)
theorem foldl_rep (its:List Value):∀ (k:Nat) (acc:List Value),
 ur (fun x1 x2=>x1++x2) acc.toArray (bG k its.toArray)=(acc++(bG k its).flatten).toArray
 | 0,acc=>by simp
 | k + 1,acc=>by
  have e:acc.toArray++its.toArray=(acc++its).toArray:=by simp
  have e2:(acc++its)++(bG k its).flatten=acc++(bG (k + 1) its).flatten:=by
   rw [cO,fQ,jH]
  rw [← e2,← foldl_rep its k (acc++its),← e,cO,List.foldl_cons]
section
variable {X:Cx} {pins:List (Addr × Obj)} {σ:St} {H:Hp} {s:Shared} {l b:Addr} {xs ys zs:List V}
theorem Inv.lset {its its':List Value} {n:Nat} {f:Array Value→Array Value} {t':Nat} (I:Inv X pins σ H s) (hH:H l=some (.lst xs))
 (e:s.heap.get? l=some { cls:=.type "list", data:=.seq its.toArray n }) (hf:f its.toArray=its'.toArray) (hv:Vals ys its') (hz:ys.length ≤ sizeLine) :
 Inv X pins σ (upd H l (.lst ys)) { s with heap:=s.heap.update l (Obj.mapSeq f),toks:=t' }:=by
 have q:=PySem.IsL.update e f
 rw [hf] at q
 refine I.write (x:=l) (e:=l) (by rw [hH];exact trivial) (.inl rfl) (fun b' u hb hu=>(Heap.get?_update_other s.heap (Obj.mapSeq f) (Ne.symm hb)).trans hu) ⟨_,q⟩ ?_
 exact ⟨hz,its',_,hv,q⟩
theorem Inv.lnew {its:List Value} {t':Nat} (I:Inv X pins σ H s) (hv:Vals ys its) (hz:ys.length ≤ sizeLine) :
 Inv X pins σ (upd H s.heap.objs.size (.lst ys)) { s with heap:=s.heap.push { cls:=.type "list", data:=.seq its.toArray },toks:=t' } :=
 I.laid (fun _ _ q=>Heap.get?_push_of_some _ q) (bf _) ⟨hz,its,0,hv,Heap.get?_push_size _ rfl⟩
theorem Inv.fresh (I:Inv X pins σ H s):H s.heap.objs.size=none:=I.hok.fresh (bf _)
theorem Inv.lstM (I:Inv X pins σ H s) (hH:H l=some (.lst xs)):xs.length ≤ sizeLine∧∃ (its:List Value) (n:Nat),Vals xs its∧xs.length=its.length∧s.heap.get? l=some { cls:=.type "list", data:=.seq its.toArray n }:=by
 obtain ⟨z,its,n,r,e⟩:=I.hok l _ hH
 exact ⟨z,its,n,r,r.length,e⟩
theorem G8 {n:Nat} (h:n ≤ sizeLine):Builtin.List.listTooLong n=false:=by
 unfold Builtin.List.listTooLong
 exact dFa (by omega)
end
section
variable {X:Cx}
def Ka:V→List V→Hp→VK→Prop:=fun x vs H Q=>∃ l xs y,x = .ref l∧vs=[y]∧H l=some (.lst xs)∧xs.length < sizeLine∧Q .non (upd H l (.lst (xs++[y])))
theorem wI:MtM X "list.append" Ka:=by
 intro pins s σ H x vs v us Q I rx rv h
 obtain ⟨l,xs,y,rfl,rfl,hH,hz,q⟩:=h
 cases rx
 obtain ⟨u,rfl,ru⟩:=rv.one
 obtain ⟨z,its,n,r,hl,e⟩:=I.lstM hH
 refine call_meets F.slot_list_append ⟨_,e,rfl⟩ F.entry_list_append (F.args_list_append_2 _ _) (PySem.list_append l its.toArray n u (by rw [bO];omega)) ⟨e,?_⟩
 refine ⟨.non,_,I.lset (its':=its++[u]) hH e (by simp) (r.append (.cons ru .nil)) ?_,rfl,q⟩
 rw [bQ,oX]
 omega
def Vd:R2:=fun x y H Q=>∃ l k xs,x = .ref l∧y = .int k∧H l=some (.lst xs)∧-(2 ^ 63) ≤ k∧k < 2 ^ 63∧xs.length * k.toNat ≤ sizeLine ∧
 ∀ p,H p=none→Q (.ref p) (upd H p (.lst (bG k.toNat xs).flatten))
theorem len_rep {α:Type} (xs:List α) (k:Nat):(bG k xs).flatten.length=k * xs.length:=by
 induction k with
 | zero=>simp
 | succ k ih=>rw [cO,fQ,bQ,ih,Nat.succ_mul,Nat.add_comm]
theorem O7:OpR X (binaryOp .Mult) Vd:=by
 intro pins s σ H x y v u Q I rx ry h
 obtain ⟨l,k,xs,rfl,rfl,hH,h1,h2,hz,q⟩:=h
 cases rx
 obtain ⟨t,rfl⟩:=ry
 obtain ⟨z,its,n,r,hl,e⟩:=I.lstM hH
 have hlen:its.toArray.size * k.toNat ≤ sizeLine:=by rw [bO,← hl];exact hz
 have hcap:¬ its.toArray.size * k.toNat > (2 ^ 63 - 1) / 8:=by
  have:(sizeLine:Nat) ≤ (2 ^ 63 - 1) / 8:=by decide
  omega
 have hfit:¬ (!Builtin.List.listFitsIndex k)=true:=by
  rw [fitsIndex_both h1 h2]
  exact dg
 have hlong:¬ Builtin.List.listTooLong (its.toArray.size * k.toNat)=true:=by
  rw [G8 hlen]
  exact dg
 have hnew:ur (fun x1 x2=>x1++x2) #[] (bG (if its.toArray.isEmpty=true then 0 else k.toNat) its.toArray)=(bG k.toNat its).flatten.toArray:=by
  have f0:∀ m:Nat,ur (fun x1 x2=>x1++x2) #[] (bG m its.toArray)=(bG m its).flatten.toArray:=fun m=>by
   have:=foldl_rep its m []
   rw [oR] at this
   exact this
  rw [f0]
  cases its with
  | nil=>simp
  | cons a r'=>rw [if_neg (by simp)]
 refine wpAny_binaryOp_repeat_ref (T := "list") (U := "int") (by decide) ⟨_,e,rfl⟩ (fun s'=>typeIs_int s' k t) noFill_list_mul F.fills_int_mul F.slot_int_rmul repeat_list F.slot_int_index.lookup
  (call_meets F.slot_int_rmul (typeIs_int s k t) F.entry_int_rmul (F.args_int_rmul_2 _ _) (int___rmul___int_list k t l its.toArray n)
   ⟨e,rfl,⟨_,e,rfl⟩,call_meets F.slot_list_mul ⟨_,e,rfl⟩ F.entry_list_mul (F.args_list_mul_2 _ _) (AutoListH.list___mul___list_int_3 l its.toArray n k t hfit hcap hlong) ⟨e,?_⟩⟩)
 rw [hnew]
 exact ⟨.ref _,_,I.lnew (t':=s.toks) (r.rep k.toNat) (by rw [len_rep,Nat.mul_comm];exact hz),rfl,q _ I.fresh⟩
end
section
variable {prog:Program} {w:World} {A:Around} {E:Value→Shared→Prop} {s:Shared}
set_option maxRecDepth 100000 in
end
section
variable {X:Cx}
end
end L2
namespace Att
open PySem PySem.W PySem.Calls PyProof.Rows
theorem tR {P:Params} {h:Heap}:∀ (ns:List Int) (vs:List Value),WellAll P h vs (ns.map WData.int)→IntsAre vs ns:=by
 intro ns
 induction ns with
 | nil =>
  intro vs w
  rw [lA] at w
  cases w
  exact .nil
 | cons n ns ih =>
  intro vs w
  rw [bC] at w
  cases w with
  | cons a b =>
   cases a
   exact .cons _ _ (ih _ b)
theorem EY {l:OpenLaw} {n:Nat} (hn:l.most=some n) {P:Params} {h:Heap} {args:List WData} {vals:List Value}
 (hpre:l.row.toRowW.claim.pre args=true) (hwl:WellAll P h vals args) :
 ∃ a vs ns,vals=[Value.ref a]∧args=[WData.list (ns.map WData.int)]∧h.get? a=some { cls:=.type "list", data:=.seq vs.toArray }∧IntsAre vs ns∧ns.length ≤ n:=by
 have hsh:WShape.hasAll [] args [.list .int]=true:=(pre_splitW hpre).1
 have hc:l.pre.holds [] { args:=args }=true:=(pre_splitW hpre).2
 obtain ⟨d,r,rfl,h1,h2⟩:=hasAllW_cons hsh
 obtain rfl:=hasAllW_nil h2
 obtain ⟨xs,rfl,h3⟩:=hasW_list h1
 obtain ⟨ns,rfl⟩:=items_int h3
 have hlen:ns.length ≤ n:=by
  unfold OpenLaw.pre at hc
  have h4:(WTm.not (.lt (.lit (.int (n:Int))) (.len (.arg 0)))).holds [] { args:=[.list (ns.map .int)] }=true:=by
   have h4:=(holds_andW hc).1
   rw [hn] at h4
   exact h4
  have h5:=condW_of h4 (w_not (w_lt w_lit (w_len_list (w_arg rfl))))
  rw [aJ] at h5
  refine Nat.le_of_not_lt fun q=>?_
  have q':(n:Int) < ((ns.length:Nat):Int):=by omega
  first
   | (rw [dTr q'] at h5;exact absurd h5 (by decide))
   | (simp at h5;omega)
 cases hwl with
 | cons w1 w2 =>
  cases w2
  cases w1 with
  | list ho hall=>exact ⟨_,_,ns,rfl,rfl,ho,tR ns _ hall,hlen⟩
theorem E_ (l:OpenLaw) (args:List WData):l.row.toRowW.claim.post args (.bool true) args=true :=
 postW_of (r:=l.row.toRowW) (X:=(true == true))
  (show WShape.has [] (.bool true) .bool=true by first | rfl | decide | simp [WShape.has,WShape.arms,WShape.armsAll])
  (show (WTm.eq .res (.lit (.bool true))).value [] { args:=args,res:=some (.bool true),after:=args }=some (.bool (true == true)) from w_eq_bool (w_res rfl) w_lit) rfl
theorem zG {l:OpenLaw} {n:Nat} {q:Program} {loose:List Str} {XP:(Str→Option Value)→Heap→Prop} {YP:World→Heap→Prop} {d:DefRec}
 (hn:l.most=some n) (hdf:d.params.defaults=[])
 (call:∀ (w:World) (s₀ s₁:Shared) (mg mb:Str→Option Value) (fa:Addr) (o:Obj) (pm cd doc:Value) (a:Addr) (vs:List Value) (ns:List Int),
  Ground q loose [] XP w s₀ mg mb s₁.heap→YP w s₁.heap →
  s₁.heap.get? fa=some o→o.data = .func (docDef d.name d.params d.body d.scope pm cd doc)→s₁.heap.CodeRec cd d.name→mg d.name=some (.ref fa) →
  s₁.heap.get? a=some { cls:=.type "list", data:=.seq vs.toArray }→IntsAre vs ns→ns.length ≤ n→s₁.gens = #[] →
  codeAny (model l.prog w) callerA (.call (.ref fa) ⟨[.ref a],[]⟩) (fun r s'=>r = .ok (.ret (.bool true))∧OldK s₁.heap s'.heap∧s'.os=s₁.os∧AllBare s'.gens) s₁) :
 WalkO q loose XP YP l.row.toRowW d [] (fun f vs=>PySem.call f vs):=by
 intro w s₀ s₁ mg mb G Y fa o pm cd doc dV kV ho hd hcd hD hmg hg args vals as hpre hlay hrd hwl hlo
 obtain rfl:dV = .none:=Dflts.none hD hdf
 obtain rfl:kV = .none:=Dflts.noKw hD
 obtain ⟨a,vs,ns,rfl,rfl,hobj,hints,hlen⟩:=EY hn hpre hwl
 refine enter_call (codeAny_mono (call w s₀ s₁ mg mb fa o pm cd doc a vs ns G Y ho (fd_plain hd) hcd hmg hobj hints hlen hg) fun r s' hq=>?_)
 obtain ⟨rfl,h2,h3,h4⟩:=hq
 exact ⟨.inl ⟨.bool true,.bool true,[],rfl,fun _=>rfl,.bool true,E_ l _,fun _=>⟨List.Pairwise.nil,fun _ hm=>(nomatch hm)⟩⟩,h2,h3,h4⟩
section
variable {prog:Program} {w:World} {A:Around} {E:Value→Shared→Prop} {s:Shared} {K:Frag}
def jL (h:Heap):Heap:={ h with objs:=#[] }
theorem n_ (h:Heap) (b:Addr):(jL h).get? b=none:=by
 cases e:(jL h).get? b with
 | none=>rfl
 | some o=>exact absurd (Heap.lt_size e) (oU _)
theorem Bb {h:Heap} {L:Addr} {m:Str→Option Value} (n:h.Ns L m):Fr (jL h) L h m :=
 ⟨n,fun b o e=>(by rw [n_] at e;cases e),dU _⟩
end
end Att
namespace L2
open PySem PySem.Spec PyProof.Rows
theorem lK:∀ {vs:List Value} {ns:List Int},IntsAre vs ns→Vals (ns.map V.int) vs
 | _,_,.nil=>.nil
 | _,_,.cons n t h=>.cons ⟨t,rfl⟩ (lK h)
def Only (H:Hp):Prop:=∀ b,H b=none∨∃ o xs,H b=some (.frz o (.lst xs))
def uz (ts:List (Addr × Str × Pos)) (H:Hp):Hp:=fun b=>match ts.find? (fun t=>t.1 == b) with
 | some t=>some (.tbl t.2.1 t.2.2)
 | none=>H b
theorem G9 (ts:List (Addr × Str × Pos)) (H:Hp) (b:Addr):(uz ts H b=H b∧∀ t ∈ ts,t.1 ≠ b)∨∃ t ∈ ts,t.1=b∧uz ts H b=some (.tbl t.2.1 t.2.2):=by
 unfold uz
 cases e:ts.find? (fun t=>t.1 == b) with
 | none=>exact .inl ⟨rfl,fun t ht z=>by have:=qp.mp e t ht;simp [z] at this⟩
 | some t =>
  have h1:=mq e
  have h2:=List.find?_some e
  exact .inr ⟨t,h1,by simpa using h2,rfl⟩
theorem G_ {P:Program} {w:World} {K:PySem.W.Frag} {mg mb:Str→Option Value} {CX:CXT} {k:Nat} {fa a:Addr} {fd:FuncData} {x:Str} {sp:Sp} {s₁:Shared} {vs:List Value} {ns:List Int}
 (KX:K.In s₁.heap) (hns:s₁.heap.Ns mainGlobals mg) (hb:s₁.heap.Ns builtinsNs mb) (hbb:∀ x:Str,x ≠ "__name__" → mb x=bootBuiltins x) (hlim:s₁.heap.NoLimit) (hbm:∃ bm ob,mg "__builtins__" = some (.ref bm)∧bm ≠ builtinsNs∧s₁.heap.get? bm=some ob∧ob.cls = .type "module" ∧ ob.dict=some builtinsNs∧ob.data = .plain) (hg:s₁.gens = #[])
 (ha:s₁.heap.get? a=some { cls:=.type "list", data:=.seq vs.toArray }) (hi:IntsAre vs ns) (hl:ns.length ≤ sizeLine) (hr:Room k callerA)
 (F:∀ base:Heap,K.In base→base.Ns mainGlobals mg→FnOk P w K mg base CX k fa fd [x] sp) (hbind:∀ (s:Shared) (u:Value),BindsTo s fd ⟨[u],[]⟩ [(x,u)])
 (ts:List (Addr × Str × Pos)) (hts:∀ t ∈ ts,s₁.heap.get? t.1=some { cls:=.none,data:=.fields #[] }) (hCT:∀ t ∈ ts,isCodeTable s₁.heap t.1) (hKt:∀ t ∈ ts,K.lookup t.1=none) (htu:∀ t ∈ ts,∀ t' ∈ ts,t.1=t'.1→t=t')
 (hsp:∀ H:Hp,(∀ t ∈ ts,H t.1=some (.tbl t.2.1 t.2.2))→SqL K H a (ns.map V.int)→sp [.ref a] H (fun v _=>v = .bl true) fun _ _ _=>False)
 (hCX:∀ H e s',CX [] H s₁ (fun _ _ _=>False) e s'→False) :
 codeAny (model P w) callerA (.call (.ref fa) ⟨[.ref a],[]⟩) (fun r s'=>r = .ok (.ret (.bool true))∧OldK s₁.heap s'.heap∧s'.os=s₁.os∧AllBare s'.gens) s₁:=by
 have rv:=lK hi
 have lenV:=hi.length
 have core:∀ H:Hp,(∀ b,H b=none∨(∃ o xs,H b=some (.frz o (.lst xs)))∨∃ t ∈ ts,t.1=b∧H b=some (.tbl t.2.1 t.2.2))→(∀ t ∈ ts,H t.1=some (.tbl t.2.1 t.2.2))→SqL K H a (ns.map V.int)→HOk P w H s₁.heap→(∀ b,H b ≠ none→b=a∨∃ t ∈ ts,t.1=b)→(H a ≠ none→K.lookup a=none) →
  codeAny (model P w) callerA (.call (.ref fa) ⟨[.ref a],[]⟩) (fun r s'=>r = .ok (.ret (.bool true))∧OldK s₁.heap s'.heap∧s'.os=s₁.os∧AllBare s'.gens) s₁:=by
  intro H hO hT hS hok hA hK
  have base_of:∀ {b:Addr} {o:Obj},s₁.heap.get? b=some o→H b=none→(xH s₁.heap H).get? b=some o:=fun e n=>Gy e n
  have noA:∀ {b:Addr} {o:Obj} {es:Array DictEntry} {ep:Nat},s₁.heap.get? b=some o→o.data = .dict es ep→H b=none:=fun {b o es ep} e d=>by
   cases q:H b with
   | none=>rfl
   | some u =>
    rcases hA b (by rw [q];simp) with e' | ⟨t,ht,e'⟩
    case inr =>
     subst e'
     rw [hts t ht] at e;cases e
     have d':Data.fields #[]=Data.dict es ep:=d
     cases d'
    subst e'
    rw [ha] at e;cases e
    have d':Data.seq vs.toArray _=Data.dict es ep:=d
    cases d'
  have nsK:∀ {b:Addr} {m:Str→Option Value},s₁.heap.Ns b m→(xH s₁.heap H).Ns b m:=fun {b m} ⟨o,es,ep,e,d,r⟩=>⟨o,es,ep,base_of e (noA e d),d,r⟩
  have hKb:K.In (xH s₁.heap H):=fun b o e=>base_of (KX b o e) (by
   cases q:H b with
   | none=>rfl
   | some u =>
    rcases hA b (by rw [q];simp) with e' | ⟨t,ht,e'⟩
    ·subst e'
     rw [hK (by rw [q];simp)] at e;cases e
    ·subst e'
     rw [hKt t ht] at e;cases e)
  have hM:Mod K mg (xH s₁.heap H):=⟨hKb,nsK hns,⟨mb,nsK hb,hbb⟩,let ⟨mc,h1,h2⟩:=hlim;⟨mc,nsK h1,h2⟩,let ⟨bm,ob,g1,g2,g3,g4,g5,g6⟩:=hbm;⟨bm,ob,g1,g2,base_of g3 (by
   cases q:H bm with
   | none=>rfl
   | some u =>
    rcases hA bm (by rw [q];simp) with e' | ⟨t,ht,e'⟩
    ·rw [e',ha] at g3;cases g3
     have z:Value.type "list" = Value.type "module" := g4
     injection z with z
     exact absurd z (by decide)
    ·rw [← e',hts t ht] at g3;cases g3
     cases g4),g4,g5,g6⟩⟩
  have e0:Env0 P w K mg (xH s₁.heap H) callerA [] s₁ H:=⟨rfl,hM,fun b o e=>JV e,Nat.le_of_eq (Ep _ _),trivial,fun b hb=>absurd (show b ∈ ([]:List Addr) from hb) (by simp),hok,.of_eq hg⟩
  refine codeAny_mono ((F _ hKb (nsK hns)).run callerA [] s₁ H ⟨[.ref a],[]⟩ [.ref a] [.ref a] _ _ hr e0 (hbind s₁ (.ref a)) (.cons rfl .nil) (hsp H hT hS)) fun r s' h=>?_
  cases r with
  | error e=>exact (hCX H e s' h).elim
  | ok fl =>
   cases fl with
   | next=>exact False.elim h
   | brk=>exact False.elim h
   | cont=>exact False.elim h
   | ret u =>
    obtain ⟨v,H',os,bare,un,hok',r',q⟩:=h
    have q':v = .bl true:=q
    subst q'
    obtain rfl:u=Value.bool true:=r'
    refine ⟨rfl,⟨fun b o e=>?_,fun b o e=>un.there b o e (by simp)⟩,os,bare⟩
    cases q:H b with
    | none=>exact .inl <| un.keep b o e q (by intro z;exact absurd (show b ∈ ([]:List Addr) from z) (by simp)) (by simp)
    | some u =>
     rcases hO b with z | ⟨ob,xs,z⟩ | ⟨t,ht,rfl,z⟩
     case inr.inr =>
      have z2:=un.tbls _ _ _ z
      obtain ⟨ps,e2,_⟩:=hok' _ _ z2
      rw [hts t ht] at e;cases e
      exact .inr (.inl ⟨hCT t ht,rfl,#[],ps,rfl,by rw [e2];simp⟩)
     ·rw [q] at z;cases z
     ·have z2:=un.frzs b ob _ z
      obtain ⟨e1,_⟩:=hok b _ z
      obtain ⟨e2,_⟩:=hok' b _ z2
      rw [e] at e1;cases e1
      exact .inl e2
 have core1:∀ H:Hp,Only H→SqL K H a (ns.map V.int)→HOk P w H s₁.heap→(∀ b,H b ≠ none→b=a)→(H a ≠ none→K.lookup a=none) →
  codeAny (model P w) callerA (.call (.ref fa) ⟨[.ref a],[]⟩) (fun r s'=>r = .ok (.ret (.bool true))∧OldK s₁.heap s'.heap∧s'.os=s₁.os∧AllBare s'.gens) s₁:=by
  intro H hO hS hok hA hK
  have na:∀ t ∈ ts,t.1 ≠ a:=fun t ht z=>by
   have z2:=hts t ht
   rw [z,ha] at z2
   cases z2
  have cs:∀ b,(uz ts H b=H b∧∀ t ∈ ts,t.1 ≠ b)∨∃ t ∈ ts,t.1=b∧uz ts H b=some (.tbl t.2.1 t.2.2):=G9 ts H
  have la:uz ts H a=H a:=by
   rcases cs a with z | ⟨t,ht,z,_⟩
   ·exact z.1
   ·exact absurd z (na t ht)
  have noown:∀ b x,H b ≠ some (.own x):=fun b x z=>by rcases hO b with y | ⟨_,_,y⟩ <;> (rw [y] at z;cases z)
  have notup:∀ b x,H b ≠ some (.tup x):=fun b x z=>by rcases hO b with y | ⟨_,_,y⟩ <;> (rw [y] at z;cases z)
  refine core (uz ts H) (fun b=>?_) (fun t ht=>?_) ?_ (fun b u z=>?_) (fun b z=>?_) (fun z=>hK (by rw [← la];exact z))
  ·rcases cs b with z | ⟨t,ht,z1,z2⟩
   ·rcases hO b with y | y
    ·exact .inl (z.1.trans y)
    ·obtain ⟨o,xs,y⟩:=y
     exact .inr (.inl ⟨o,xs,z.1.trans y⟩)
   ·exact .inr (.inr ⟨t,ht,z1,z2⟩)
  ·rcases cs t.1 with z | ⟨t',ht',z1,z2⟩
   ·exact absurd rfl (z.2 t ht)
   ·have:=htu t' ht' t ht z1
    subst this
    exact z2
  ·rcases hS with (z | ⟨o,z⟩) | z
   ·exact .inl (.inl (by rw [la];exact z))
   ·exact .inl (.inr ⟨o,by rw [la];exact z⟩)
   ·exact .inr z
  ·rcases cs b with y | ⟨t,ht,z1,z2⟩
   ·rw [y.1] at z
    exact (hok b u z).stay (fun _ _ _ q=>q) (fun c q=>absurd q (noown c b)) fun c xs q=>absurd q (notup c xs)
   ·rw [z2] at z
    cases z
    subst z1
    exact ⟨#[],hts t ht,.inl rfl⟩
  ·rcases cs b with y | ⟨t,ht,z1,z2⟩
   ·exact .inl (hA b (by rw [← y.1];exact z))
   ·exact .inr ⟨t,ht,z1⟩
 cases hk:K.lookup a with
 | some o =>
  have e:=KX a o hk
  rw [ha] at e
  cases e
  refine core1 (fun _=>none) (fun _=>.inl rfl) (.inr ⟨_,vs.toArray,_,hk,rfl,rfl,rfl,by rw [bO,lenV];exact hl,by simpa using rv⟩) (fun b u z=>by have z':(none:Option HO)=some u:=z;cases z') (fun b z=>absurd rfl z) fun z=>absurd rfl z
 | none =>
  refine core1 (fun b=>if b=a then some (.frz { cls:=.type "list", data:=.seq vs.toArray } (.lst (ns.map V.int))) else none) (fun b=>?_) (.inl (.inr ⟨{ cls:=.type "list", data:=.seq vs.toArray },if_pos rfl⟩)) (fun b u z=>?_) (fun b z=>?_) fun _=>hk
  ·by_cases hb:b=a
   ·exact .inr ⟨_,_,if_pos hb⟩
   ·exact .inl (if_neg hb)
  ·by_cases hb:b=a
   ·have z':=(if_pos hb).symm.trans z
    cases z'
    subst hb
    exact ⟨ha,by rw [aJ];exact hl,vs,_,rv,ha⟩
   ·have z':=(if_neg hb).symm.trans z
    cases z'
  ·by_cases hb:b=a
   ·exact hb
   ·exact absurd (if_neg hb) z
end L2
namespace L2
open PySem PySem.Spec PyProof.Rows
abbrev KOf {K:PySem.W.Frag} {h:Heap} (_:K.In h):PySem.W.Frag:=K
theorem Kc {l:PySem.W.OpenLaw} {n k:Nat} {q:Program} {loose:List Str} {XP:(Str→Option Value)→Heap→Prop} {YP:World→Heap→Prop} {d:DefRec} {K:Params→PySem.W.Frag} {CX:World→CXT} {sp:World→Sp} {x:Str}
 (hn:l.most=some n) (hn2:n ≤ sizeLine) (hdf:d.params.defaults=[]) (hr:Room k callerA)
 (hY:∀ (w:World) (h:Heap),YP w h→(K w.params).In h)
 (F:∀ (w:World) (mg:Str→Option Value) (fa:Addr) (h:Heap),(K w.params).In h→h.Ns mainGlobals mg→mg d.name=some (.ref fa) →
  ∃ fd:FuncData,(∀ (s:Shared) (u:Value),BindsTo s fd ⟨[u],[]⟩ [(x,u)]) ∧
   ∀ base:Heap,(K w.params).In base→base.Ns mainGlobals mg→FnOk l.prog w (K w.params) mg base (CX w) k fa fd [x] (sp w))
 (ts:List (Addr × Str × Pos)) (hts:∀ (w:World) (h:Heap),YP w h→(∀ t ∈ ts,h.get? t.1=some { cls:=.none,data:=.fields #[] })∧(∀ t ∈ ts,isCodeTable h t.1)∧∀ t ∈ ts,(K w.params).lookup t.1=none) (htu:∀ t ∈ ts,∀ t' ∈ ts,t.1=t'.1→t=t')
 (hsp:∀ (w:World) (H:Hp) (a:Addr) (ns:List Int),ns.length ≤ n→(∀ t ∈ ts,H t.1=some (.tbl t.2.1 t.2.2))→SqL (K w.params) H a (ns.map V.int)→sp w [.ref a] H (fun v _=>v = .bl true) fun _ _ _=>False)
 (hCX:∀ (w:World) (H:Hp) (s:Shared) (e:Value) (s':Shared),CX w [] H s (fun _ _ _=>False) e s'→False) :
 PySem.W.WalkO q loose XP YP l.row.toRowW d [] (fun f vs=>PySem.call f vs):=by
 refine Att.zG hn hdf fun w s₀ s₁ mg mb fa o pm cd doc a vs ns G Y ho hd hcd hmg hobj hints hlen hg=>?_
 have KX:=hY w _ Y
 obtain ⟨fd,hb,hF⟩:=F w mg fa _ KX G.T.g hmg
 exact G_ KX G.T.g G.T.b G.T.builtins G.T.nolimit G.T.bmain hg hobj hints (bT hlen hn2) hr hF hb ts (hts w _ Y).1 (hts w _ Y).2.1 (hts w _ Y).2.2 htu (fun H hO hS=>hsp w H a ns hlen hO hS) fun H e s'=>hCX w H s₁ e s'
theorem Hf {l:PySem.W.OpenLaw} {n k:Nat} {q:Program} {loose:List Str} {XP:(Str→Option Value)→Heap→Prop} {YP:World→Heap→Prop} {d:DefRec} {K:Params→PySem.W.Frag} {CX:CXT} {sp:PySem.W.Frag→Sp} {x:Str}
 (hn:l.most=some n) (hn2:n ≤ sizeLine) (hdf:d.params.defaults=[]) (hr:Room k callerA)
 (hY:∀ (w:World) (h:Heap),YP w h→(K w.params).In h)
 (F:∀ (w:World) (mg:Str→Option Value) (fa:Addr) (h:Heap),(K w.params).In h→h.Ns mainGlobals mg→mg d.name=some (.ref fa) →
  ∃ fd:FuncData,(∀ (s:Shared) (u:Value),BindsTo s fd ⟨[u],[]⟩ [(x,u)]) ∧
   ∀ base:Heap,(K w.params).In base→base.Ns mainGlobals mg→FnOk l.prog w (K w.params) mg base CX k fa fd [x] (sp (K w.params)))
 (ts:List (Addr × Str × Pos)) (hts:∀ (w:World) (h:Heap),YP w h→(∀ t ∈ ts,h.get? t.1=some { cls:=.none,data:=.fields #[] })∧(∀ t ∈ ts,isCodeTable h t.1)∧∀ t ∈ ts,(K w.params).lookup t.1=none) (htu:∀ t ∈ ts,∀ t' ∈ ts,t.1=t'.1→t=t')
 (hsp:∀ (K:PySem.W.Frag) (H:Hp) (a:Addr) (ns:List Int),ns.length ≤ n→(∀ t ∈ ts,H t.1=some (.tbl t.2.1 t.2.2))→SqL K H a (ns.map V.int)→sp K [.ref a] H (fun v _=>v = .bl true) fun _ _ _=>False)
 (hCX:∀ (H:Hp) (s:Shared) (e:Value) (s':Shared),CX [] H s (fun _ _ _=>False) e s'→False) :
 PySem.W.WalkO q loose XP YP l.row.toRowW d [] (fun f vs=>PySem.call f vs) :=
 Kc (K:=K) (CX:=fun _=>CX) (sp:=fun w=>sp (K w.params)) hn hn2 hdf hr hY F ts hts htu (fun w H a ns h1 h2 h3=>hsp (K w.params) H a ns h1 h2 h3) fun _ H s e s'=>hCX H s e s'
end L2
/- THE LAST THEOREM (shape;LID,My.* are yours):
   My.Adr: a structure of the addresses that your layer names (classes,functions);My.Txt K t: a structure (Prop) of the equations over K;
   My.txt_mk:{K} {implicit addresses ..} (e1:nsIn K mainGlobals "law" = some (some (.ref f))) (e2:K.lookup f=some ⟨oc,od,.func (fnOf "law" "law" params body scope dV kV doc pm an cdv ct),sl⟩) (e3:codeIn K cdv "law" = true) .. : ∃ t,My.Txt K t
set_option maxRecDepth 100000 in
set_option maxHeartbeats 0 in
(the tactic k_is has no namespace: write k_is) -/
namespace L2
open PySem PySem.Spec PyProof.Rows
def j9 (s:Stmt):Arguments:=match s with
 | .FunctionDef _ a _ _ _ _ _ _ _ _=>a
 | _=>{ posonlyargs:=[],args:=[],vararg:=none,kwonlyargs:=[],kw_defaults:=[],kwarg:=none,defaults:=[] }
def iK (s:Stmt):List Stmt:=match s with
 | .FunctionDef _ _ b _ _ _ _ _ _ _=>b
 | _=>[]
def bx (s:Stmt):Scope:=match s with
 | .FunctionDef _ _ _ _ _ _ sc _ _ _=>sc
 | _=>{ kind:=.function,names:=[],isGenerator:=false,isCoroutine:=false }
abbrev CX0:CXT:=fun _ _ _ _ _ _=>False
abbrev E0:XK:=fun _ _ _=>False
theorem R5 {X:Cx}:Passes CX0 X E0:=fun _ _ _ _ _ _ _ h=>h.elim
structure Fun (K:PySem.W.Frag) (x qual:Str) (st:Stmt) (f:Addr) (fd:FuncData):Prop where
 ex:∃ (oc:Value) (od:Option Addr) (kV doc pm:Value) (an:Option Addr) (cdv ct:Value) (osl:Array (Option Value)),
  fd=PySem.W.fnOf x qual (j9 st) (iK st) (bx st) .none kV doc pm an cdv ct∧K.lookup f=some ⟨oc,od,.func fd,osl⟩∧PySem.W.codeIn K cdv qual=true
 kp:PySem.W.keepIn K (.ref f)=true
section
variable {P:Program} {w:World} {K:PySem.W.Frag} {mg:Str→Option Value} {base:Heap}
end
section
variable {X:Cx}
end
theorem zH {A B:Prop} (h:B):if false=true then A else B:=by
 rw [if_neg dg]
 exact h
theorem zJ {A B:Prop} (h:A):if true=true then A else B:=by
 rw [if_pos rfl]
 exact h
def Same (H H':Hp):Prop:=∀ b o,H b=some o→H' b=some o
theorem Same.refl (H:Hp):Same H H:=fun _ _ h=>h
theorem Same.trans {H H1 H2:Hp} (a:Same H H1) (b:Same H1 H2):Same H H2:=fun c o h=>b c o (a c o h)
theorem Same.free {H H':Hp} (e:Same H H') {l:Addr} (h:H' l=Option.none):H l=Option.none:=by
 cases q:H l with
 | none=>rfl
 | some o =>
  rw [e l o q] at h
  cases h
theorem Same.seq {K:PySem.W.Frag} {H H':Hp} {a:Addr} {xs:List V} (e:Same H H') (h:SqL K H a xs):SqL K H' a xs:=by
 rcases h with (h | ⟨o,h⟩) | h
 ·exact .inl (.inl (e _ _ h))
 ·exact .inl (.inr ⟨o,e _ _ h⟩)
 ·exact .inr h
end L2
namespace My
open PySem PySem.Spec PyProof.Rows L2
abbrev St:=L2.St
theorem dG {H:Hp} {p:Addr} (h:H p=none) (o:HO):Same H (upd H p o):=fun b u q=>by rw [cC (gZ q h)];exact q
structure Df (K:PySem.W.Frag) (mg:Str→Option Value) (x:Str) (st:Stmt) (ps:List Str):Prop where
 ex:∃ (f:Addr) (fd:FuncData),Fun K x x st f fd∧Binds K fd ps []∧mg x=some (.ref f)
structure Has (P:Program) (w:World) (K:PySem.W.Frag) (mg:Str→Option Value) (base:Heap) (n:Nat) (x:Str) (ps:List Str) (sp:Sp):Prop where
 ex:∃ (f:Addr) (fd:FuncData),FnOk P w K mg base CX0 n f fd ps sp∧Binds K fd ps []∧PySem.W.keepIn K (.ref f)=true∧mg x=some (.ref f)
section
variable {P:Program} {w:World} {K:PySem.W.Frag} {mg:Str→Option Value} {base:Heap} {x:Str} {ps N:List Str} {sp:Sp} {st:Stmt} {k n:Nat}
theorem Has.mono (h:Has P w K mg base k x ps sp) (l:k ≤ n):Has P w K mg base n x ps sp:=by
 obtain ⟨f,fd,F,b,kp,m⟩:=h.ex
 exact ⟨f,fd,F.mono l,b,kp,m⟩
end
section
variable {X:Cx} {x:Str} {ps:List Str} {sp:Sp} {n:Nat} {p pos:Pos} {e:Expr} {es:List Expr} {t:TA}
theorem Hg (h:Has X.prog X.w X.K X.mg X.base n x ps sp) (hr:Room n X.A) (ha:PA X (e :: es) t) (hg:Gl X x:=by rfl) (hdb:(x == ("__debug__" : Str))=false:=by decide)
 (he:starEach (e :: es) X.env=(false,eval e X.env) :: starEach es X.env:=by rfl) (hpl:(backTo pos (starEach es X.env)).any (·.1)=false:=by rfl) :
 PE X (.Call (.Name x p) (e :: es) [] pos) (Nb sp [] E0 t):=by
 obtain ⟨f,fd,F,b,kp,m⟩:=h.ex
 exact J9 F hr hg m kp b .nil R5 ha hdb he hpl
end
mutual
inductive RdV (K:PySem.W.Frag) (H:Hp):V→PyData→Prop
 | non:RdV K H .non .none
 | bl (b:Bool):RdV K H (.bl b) (.bool b)
 | int (i:Int):RdV K H (.int i) (.int i)
 | str (x:Str):RdV K H (.str x) (.str x)
 | lst {a:Addr} {xs:List V} {ds:List PyData}:SqL K H a xs→RdVs K H xs ds→RdV K H (.ref a) (.list ds)
 | tup {a:Addr} {xs:List V} {ds:List PyData}:SqT K H a xs→RdVs K H xs ds→RdV K H (.ref a) (.tuple ds)
inductive RdVs (K:PySem.W.Frag) (H:Hp):List V→List PyData→Prop
 | nil:RdVs K H [] []
 | cons {v:V} {d:PyData} {vs:List V} {ds:List PyData}:RdV K H v d→RdVs K H vs ds→RdVs K H (v :: vs) (d :: ds)
end
section
variable {X:Cx} {pins:List (Addr × Obj)} {σ:St} {H:Hp} {s:Shared}
mutual
theorem RdV.reads (I:Inv X pins σ H s):∀ {v:V} {d:PyData},RdV X.K H v d→∀ {u:Value},RelV v u→∃ as,Reads s.heap u d as
 | _,_,.non,_,r=>by cases r;exact ⟨_,.none⟩
 | _,_,.bl b,_,r=>by cases r;exact ⟨_,.bool b⟩
 | _,_,.int i,_,r=>by obtain ⟨t,rfl⟩:=r;exact ⟨_,.int i t⟩
 | _,_,.str x,_,r=>by obtain ⟨t,rfl⟩:=r;exact ⟨_,.str x t⟩
 | _,_,.lst h q,_,r=>by
  cases r
  obtain ⟨its,rv,⟨o,n,e,c,_,d⟩,_⟩:=I.list h
  obtain ⟨as,z⟩:=RdVs.reads I q rv
  exact ⟨_,.list e c d (by simpa using z)⟩
 | _,_,.tup h q,_,r=>by
  cases r
  obtain ⟨its,rv,⟨o,e,c,n,d⟩,_⟩:=I.tuple h
  obtain ⟨as,z⟩:=RdVs.reads I q rv
  exact ⟨_,.tuple e c d (by simpa using z)⟩
theorem RdVs.reads (I:Inv X pins σ H s):∀ {vs:List V} {ds:List PyData},RdVs X.K H vs ds→∀ {us:List Value},Vals vs us→∃ as,ReadsAll s.heap us ds as
 | _,_,.nil,_,r=>by cases r;exact ⟨_,.nil⟩
 | _,_,.cons h q,_,r=>by
  cases r with
  | cons r1 r2 =>
   obtain ⟨as,z⟩:=RdV.reads I h r1
   obtain ⟨bs,y⟩:=RdVs.reads I q r2
   exact ⟨_,.cons z y⟩
end
end
section
variable {X:Cx}
def R6 (K:PySem.W.Frag):R2:=fun x y H Q=>∃ da db,RdV K H x da∧RdV K H y db∧SeqAt.shaped da=true∧SeqAt.shaped db=true∧Q (.bl (PyData.eqv da db)) H
def R7 (K:PySem.W.Frag):R2:=fun x y H Q=>∃ da db,RdV K H x da∧RdV K H y db∧SeqAt.shaped da=true∧SeqAt.shaped db=true∧Q (.bl (!PyData.eqv da db)) H
theorem mZ (hu:X.A.units + 64 < cLine):OpR X (compareOp .Eq) (R6 X.K):=by
 intro pins s σ H x y v u Q I rx ry h
 obtain ⟨da,db,ha,hb,sa,sb,q⟩:=h
 obtain ⟨as,za⟩:=ha.reads I rx
 obtain ⟨bs,zb⟩:=hb.reads I ry
 exact SeqAt.compareEq_shaped za zb sa sb hu ⟨.bl _,H,I,rfl,q⟩
theorem uD (hu:X.A.units + 64 < cLine):OpR X (compareOp .NotEq) (R7 X.K):=by
 intro pins s σ H x y v u Q I rx ry h
 obtain ⟨da,db,ha,hb,sa,sb,q⟩:=h
 obtain ⟨as,za⟩:=ha.reads I rx
 obtain ⟨bs,zb⟩:=hb.reads I ry
 exact SeqAt.compareNe_shaped za zb sa sb hu ⟨.bl _,H,I,rfl,q⟩
end
def isT (c T:String):Bool:=T == c || (T == "bool" && c == "int")
section
variable {K:PySem.W.Frag}
theorem O8 (h:c = "int" ∨ c = "bool" ∨ c = "tuple" ∨ c = "list" ∨ c = "str") (g:T = "NoneType" ∨ T = "bool" ∨ T = "int" ∨ T = "str" ∨ T = "list" ∨ T = "tuple" ∨ T = "dict") :
 PySem.W.kitOne K (.type T) (.type c)=some (isT c T):=by
 rcases h with rfl | rfl | rfl | rfl | rfl <;> rcases g with rfl | rfl | rfl | rfl | rfl | rfl | rfl <;> kernel_rfl
end
section
variable {X:Cx}
end
theorem big {X:Cx} {pins:List (Addr × Obj)} {σ:St} {H:Hp} {s:Shared} (I:Inv X pins σ H s):sysModules < s.heap.objs.size:=by
 have h:mainGlobals < s.heap.objs.size:=(I.mod.glob.keeps I.bk).lt
 exact jg (by decide) h
theorem uE {P:Program} {w:World} {H:Hp} (h:Heap) (hb:sysModules < h.objs.size):gB P w H (h.push { cls:=.type "dict", data:=.dict #[] }) h.objs.size (.dK []) :=
 ⟨dU _,beq_eq_false_iff_ne.mpr (Ne.symm (bR hb)),[],.nil,Heap.DictOf.new h⟩
def O9:TE:=fun _ H Q=>∀ p,H p=none→Q (.ref p) (upd H p (.dK []))
theorem Hh {X:Cx} {pos:Pos}:PE X (.Dict [] [] pos) O9:=fun pins s σ H Q I h =>
 wpAny_Dict_empty ⟨.ref s.heap.objs.size,_,I.laid (a:=s.heap.objs.size) (o:=.dK []) (t':=s.toks) (fun _ _ q=>Heap.get?_push_of_some _ q) (bf _) (uE s.heap (big I)),rfl,h _ (I.hok.fresh (bf _))⟩
end My
namespace My
open PySem PySem.Spec PyProof.Rows L2
section
variable {X:Cx} {a b c d:Expr} {ta tb tc td:TE} {pos:Pos}
def Ke (r r' r'':R2) (ta tb tc td:TE):TE:=fun σ H Q=>ta σ H fun x H1=>tb σ H1 fun y H2=>r x y H2 fun z H3=>∃ k,z = .bl k ∧
 (if k=true then tc σ H3 fun w' H4=>r' y w' H4 fun z' H5=>∃ k',z' = .bl k'∧(if k'=true then td σ H5 fun v' H6=>r'' w' v' H6 Q else Q (.bl false) H5) else Q (.bl false) H3)
theorem Fb {op op' op'':CmpOp} {r r' r'':R2} (ho:OpR X (compareOp op) r) (ho':OpR X (compareOp op') r') (ho'':OpR X (compareOp op'') r'') (ha:PE X a ta) (hb:PE X b tb) (hc:PE X c tc) (hd:PE X d td)
 (hm:lastMarks [op,op',op''] [b,c,d]=false:=by with_unfolding_all rfl):PE X (.Compare a [op,op',op''] [b,c,d] pos) (Ke r r' r'' ta tb tc td):=by
 intro pins s σ H Q I h
 refine Compare_chain (thn (ha pins s σ H _ I h) fun v s1 ⟨x,H1,I1,r1,q1⟩=>chain_link (thn (hb pins s1 σ H1 _ I1 q1) fun u s2 ⟨y,H2,I2,r2,q2⟩ =>
  thn (ho pins s2 σ H2 x y v u _ I2 r1 r2 q2) fun d s3 ⟨z,H3,I3,r3,k,e,q3⟩=>?_)) hm
 subst e
 cases r3
 refine wpAny_truthy_bool ?_
 cases k with
 | false=>exact ite_ff ⟨.bl false,H3,I3,rfl,q3⟩
 | true =>
  refine ite_tt (chain_link (thn (hc pins s3 σ H3 _ I3 q3) fun w' s4 ⟨z',H4,I4,r4,q4⟩=>thn (ho' pins s4 σ H4 y z' u w' _ I4 r2 r4 q4) fun d' s5 ⟨z2,H5,I5,r5,k2,e2,q5⟩=>?_))
  subst e2
  cases r5
  refine wpAny_truthy_bool ?_
  cases k2 with
  | false=>exact ite_ff ⟨.bl false,H5,I5,rfl,q5⟩
  | true=>exact ite_tt (chain_last (thn (hd pins s5 σ H5 _ I5 q5) fun w3 s6 ⟨z3,H6,I6,r6,q6⟩=>ho'' pins s6 σ H6 z' z3 w' w3 Q I6 r4 r6 q6))
end
structure Blt (mg:Str→Option Value):Prop where
 len_:mg "len" = none
 range_:mg "range" = none
 abs_:mg "abs" = none
 isinstance_:mg "isinstance" = none
 int_:mg "int" = none
 bool_:mg "bool" = none
 tuple_:mg "tuple" = none
 max_:mg "max" = none
 min_:mg "min" = none
end My
namespace My
open PySem PySem.Spec PyProof.Rows L2
abbrev cx (P:Program) (w:World) (K:PySem.W.Frag) (mg:Str→Option Value) (base:Heap) (N:List Str) (x:Str) (st:Stmt) (f:Addr) (cdv:Value) (A:Around) (outer:List Env) (s:Shared) (H:Hp) (E:XK):Cx :=
 (zE CX0 P w K mg base N x (bx st) f cdv A outer s H E).nox
end My
namespace My
open PySem PySem.Spec PyProof.Rows L2
def oh (env:Env):List (Str × NameKind)→List (Str × Addr)→List (Str × Addr)
 | [],cs=>cs
 | (n,k) :: r,cs=>if (k == NameKind.free)=true then oh env r ((n,(env.cells.lookup n).getD 0) :: cs) else oh env r cs
theorem qu {env:Env}:∀ (l:List (Str × NameKind)) (cs:List (Str × Addr)),(∀ x ∈ l,x.2 = .free→∃ c,env.cells.lookup x.1=some c) →
 (forIn l cs fun (x:Str × NameKind) (r:List (Str × Addr))=>(if (x.2 == NameKind.free)=true then (do let c ← cellOf env x.1;pure (ForInStep.yield ((x.1,c) :: r))) else pure (ForInStep.yield r):Sem (ForInStep (List (Str × Addr)))))=pure (oh env l cs)
 | [],_,_=>rfl
 | (n,k) :: r,cs,h=>by
  rw [List.forIn_cons]
  by_cases hk:(k == NameKind.free)=true
  ·obtain ⟨c,hc⟩:=h (n,k) aN (beq_iff_eq.mp hk)
   have hc':cellOf env n=pure c:=by
    unfold cellOf
    rw [show env.cells.lookup n=some c from hc]
   show (do let x ← (if (k == NameKind.free)=true then (do let c ← cellOf env n;pure (ForInStep.yield ((n,c) :: cs))) else pure (ForInStep.yield cs):Sem (ForInStep (List (Str × Addr))));_)=_
   rw [if_pos hk,hc']
   have ih:=qu r ((n,c) :: cs) fun x hx=>h x (aO _ hx)
   rw [oh,if_pos hk,show env.cells.lookup n=some c from hc]
   exact ih
  ·show (do let x ← (if (k == NameKind.free)=true then (do let c ← cellOf env n;pure (ForInStep.yield ((n,c) :: cs))) else pure (ForInStep.yield cs):Sem (ForInStep (List (Str × Addr))));_)=_
   rw [if_neg hk]
   have ih:=qu r cs fun x hx=>h x (aO _ hx)
   rw [oh,if_neg hk]
   exact ih
theorem Bc {env:Env} {scope:Scope} (h:∀ x ∈ scope.names,x.2 = .free→∃ c,env.cells.lookup x.1=some c):closureFor scope env=pure (oh env scope.names []):=by
 have z:=qu (env:=env) scope.names [] h
 show (forIn scope.names [] fun (x:Str × NameKind) (r:List (Str × Addr))=>(if (x.2 == NameKind.free)=true then (do let c ← cellOf env x.1;pure (ForInStep.yield ((x.1,c) :: r))) else pure (ForInStep.yield r):Sem (ForInStep (List (Str × Addr))))) >>= (fun cs=>pure cs)=_
 rw [z]
 rfl
theorem uF {env:Env}:∀ (l:List (Str × NameKind)) (cs:List (Str × Addr)),(∀ x ∈ l,x.2 = .free→∃ c,env.cells.lookup x.1=some c)→(∀ x c,cs.lookup x=some c→env.cells.lookup x=some c) →
 ∀ x c,(oh env l cs).lookup x=some c→env.cells.lookup x=some c
 | [],_,_,hc,x,c,e=>hc x c e
 | (n,k) :: r,cs,h,hc,x,c,e=>by
  rw [oh] at e
  by_cases hk:(k == NameKind.free)=true
  ·rw [if_pos hk] at e
   obtain ⟨d,hd⟩:=h (n,k) aN (beq_iff_eq.mp hk)
   refine uF r _ (fun x hx=>h x (aO _ hx)) (fun y c' e'=>?_) x c e
   rw [cX] at e'
   cases hy:y == n with
   | true =>
    rw [hy] at e'
    have:y=n:=beq_iff_eq.mp hy
    subst this
    rw [show env.cells.lookup y=some d from hd] at e' ⊢
    exact e'
   | false =>
    rw [hy] at e'
    exact hc y c' e'
  ·rw [if_neg hk] at e
   exact uF r cs (fun x hx=>h x (aO _ hx)) hc x c e
theorem o8 {env:Env}:∀ (l:List (Str × NameKind)) (cs:List (Str × Addr)) (x:Str),((x,NameKind.free) ∈ l∨∃ c,cs.lookup x=some c)→∃ c,(oh env l cs).lookup x=some c
 | [],_,x,h=>by
  rcases h with h | h
  ·exact absurd h (by simp)
  ·exact h
 | (n,k) :: r,cs,x,h=>by
  rw [oh]
  by_cases hk:(k == NameKind.free)=true
  ·rw [if_pos hk]
   refine o8 r _ x ?_
   by_cases e:x=n
   ·subst e
    exact .inr ⟨_,by rw [cX,beq_self_eq_true]⟩
   ·rcases h with h | ⟨c,h⟩
    ·rcases bH.mp h with h | h
     ·exact absurd (congrArg Prod.fst h) e
     ·exact .inl h
    ·exact .inr ⟨c,by rw [cX,beq_eq_false_iff_ne.mpr e];exact h⟩
  ·rw [if_neg hk]
   refine o8 r cs x ?_
   rcases h with h | h
   ·rcases bH.mp h with h | h
    ·have:k = .free:=(congrArg Prod.snd h).symm
     subst this
     exact absurd rfl hk
    ·exact .inl h
   ·exact .inr h
abbrev blk (X:Cx) (N':List Str) (scope:Scope) (cl:List (Str × Addr)) (C:Addr) (s3:Shared) (H3:Hp) (fp:List Addr):Cx :=
 { X with N:=N',s₀:=s3,H₀:=H3,env:=compEnvC scope cl C X.env,outer:=X.stack,ex:=fp,fn:=fun _=>false,xe:=fun _ _=>False }
def tU (N:List Str) (kinds sn:List (Str × NameKind)):List Str→List Nat→Bool
 | [],[]=>true
 | x :: V,j :: ix=>(N[j]? == some x) && ((kinds.lookup x == some NameKind.cell) && ((sn.lookup x == some NameKind.free) && tU N kinds sn V ix))
 | _,_=>false
def vI (t:Nat) (ix:List Nat) (σ:St):St:=bG t none++ix.map fun j=>(σ[j]?).getD none
theorem uG {N:List Str} {kinds sn:List (Str × NameKind)}:∀ {V:List Str} {ix:List Nat},tU N kinds sn V ix=true→ix.length=V.length∧∀ (k:Nat) (x:Str),V[k]? = some x→∃ j,ix[k]? = some j∧N[j]? = some x∧kinds.lookup x=some .cell∧sn.lookup x=some .free
 | [],[],_=>⟨rfl,fun k x h=>by simp at h⟩
 | x :: V,j :: ix,h=>by
  rw [tU,aM,aM,aM] at h
  obtain ⟨h1,h2,h3,h4⟩:=h
  obtain ⟨l,r⟩:=uG h4
  refine ⟨by simp [l],fun k y hy=>?_⟩
  cases k with
  | zero =>
   simp at hy
   subst hy
   exact ⟨j,rfl,beq_iff_eq.mp h1,beq_iff_eq.mp h2,beq_iff_eq.mp h3⟩
  | succ k=>exact r k y (by simpa using hy)
 | [],_ :: _,h=>by simp [tU] at h
 | _ :: _,[],h=>by simp [tU] at h
theorem q_ {env:Env} (hf:env.scope.kind = .function):∀ {names:List (Str × NameKind)} {x:Str},names.lookup x=some .free→env.kindOf x=some .cell →
 (names.map fun (n,k)=>if (k == NameKind.free && env.scope.kind == .function && env.kindOf n == some .cell) then (n,NameKind.cell) else (n,k)).lookup x=some .cell
 | [],_,h,_=>by simp at h
 | (n,k) :: r,x,h,hc=>by
  have ih:=@q_ env hf r x
  show sZ x ((if (k == NameKind.free && env.scope.kind == .function && env.kindOf n == some .cell)=true then (n,NameKind.cell) else (n,k)) :: _)=_
  cases hx:x == n with
  | true =>
   have e:x=n:=beq_iff_eq.mp hx
   subst e
   simp only [cX,hx] at h
   cases h
   rw [if_pos (by rw [hf,hc];rfl)]
   simp [cX]
  | false =>
   simp only [cX,hx] at h
   by_cases hq:(k == NameKind.free && env.scope.kind == .function && env.kindOf n == some .cell)=true
   ·rw [if_pos hq];simp only [cX,hx];exact ih h hc
   ·rw [if_neg hq];simp only [cX,hx];exact ih h hc
theorem ou {env:Env}:∀ {names:List (Str × NameKind)} {x:Str} {k:NameKind},(∀ y ∈ names,y.2 ≠ .cell)→(k = .cell∨k = .free) →
 (names.map fun (n,k)=>if (k == NameKind.free && env.scope.kind == .function && env.kindOf n == some .cell) then (n,NameKind.cell) else (n,k)).lookup x=some k→(x,NameKind.free) ∈ names
 | [],_,_,_,_,h=>by simp at h
 | (n,k') :: r,x,k,hc,hk,h=>by
  have ih:=@ou env r x k (fun y hy=>hc y (aO _ hy)) hk
  have h':sZ x ((if (k' == NameKind.free && env.scope.kind == .function && env.kindOf n == some .cell)=true then (n,NameKind.cell) else (n,k')) :: (r.map fun (n,k)=>if (k == NameKind.free && env.scope.kind == .function && env.kindOf n == some .cell) then (n,NameKind.cell) else (n,k)))=some k:=h
  by_cases hq:(k' == NameKind.free && env.scope.kind == .function && env.kindOf n == some .cell)=true
  ·rw [if_pos hq] at h'
   have kf:k' = .free:=by
    rw [aM,aM] at hq
    exact beq_iff_eq.mp hq.1.1
   cases hx:x == n with
   | true =>
    have e:x=n:=beq_iff_eq.mp hx
    subst e
    subst kf
    exact aN
   | false =>
    simp only [cX,hx] at h'
    exact aO _ (ih h')
  ·rw [if_neg hq] at h'
   cases hx:x == n with
   | true =>
    have e:x=n:=beq_iff_eq.mp hx
    subst e
    simp only [cX,hx] at h'
    cases h'
    rcases hk with hk | hk
    ·exact absurd hk (hc _ aN)
    ·subst hk
     exact aN
   | false =>
    simp only [cX,hx] at h'
    exact aO _ (ih h')
section
variable {X:Cx} {pins:List (Addr × Obj)} {σ:St} {H:Hp} {s:Shared}
theorem Inv.forget {σ':St} (I:Inv X pins σ H s) (hl:σ'.length=X.N.length) (h:∀ (i:Nat) (v:V),σ'[i]? = some (some v)→σ[i]? = some (some v)):Inv X pins σ' H s:=by
 obtain ⟨m,hn,hx⟩:=I.loc
 exact ⟨I.ok,I.os,I.bare,I.base,⟨m,hn,fun i x v e1 e2 e3=>hx i x v e1 (h i v e2) e3⟩,I.cell,I.free,I.freeC,I.pin,I.hok,hl⟩
end
end My
namespace My
open PySem PySem.Spec PyProof.Rows L2
theorem zK {prog:Program} {w:World} {A:Around} {R:Result→Shared→Prop} {elt target iter:Expr} {ifs:List Expr} {scope:Scope} {pos:Pos} {it acc:Value} {env:Env} {s:Shared} (I:Nat→Shared→Prop)
 (turn:∀ n s,I n s→wpAny (model prog w) A (pyNext it) (fun r s₁=>match r with
  | none=>R (.ok .next) s₁
  | some v=>wpAny (model prog w) A (letOwnedTupleGo target it v) (fun _ s₁'=>wpAny (model prog w) A (assign target env v) (fun _ s₂ =>
   wpAny (model prog w) A (forIn ifs true fun c r=>if r=true then do let ok ← isTrue c env (eval c env);pure (ForInStep.yield ok) else pure (ForInStep.yield r)) (fun ok s₃ =>
    if ok=true then wpAny (model prog w) A (eval elt env) (fun x s₄ =>
     wpAny (model prog w) A (call (.builtin "list.append") [acc,x]) (fun _ s₅=>∃ m,m < n∧I m s₅) (fun _ _=>False) s₄) (fun _ _=>False) s₃
    else ∃ m,m < n∧I m s₃) (fun _ _=>False) s₂) (fun _ _=>False) s₁') (fun _ _=>False) s₁) (fun _ _=>False) s)
 (n:Nat) (h:I n s) :
 codeAny (model prog w) A (.compLoop (.ListComp elt [⟨target,iter,ifs,0⟩] scope pos) 0 it acc env) R s:=by
 refine codeAny_loop rfl I (fun n s hI=>?_) n h
 show wpAny _ A ((compTurn (.ListComp elt [⟨target,iter,ifs,0⟩] scope pos) 0 it acc env).onRaise (fun x=>do noteFrame x env;theTreesLotGoes x)) _ _ s
 refine wpAny_noted ?_
 rw [compTurn_list]
 refine wpAny_bind (wpAny_standAt (wpAny_bind (wpAny_mono (turn n s hI) (fun r s₁ h₁=>?_) fun _ _ h'=>h'.elim)))
 cases r with
 | none=>exact wpAny_pure h₁
 | some v =>
  refine wpAny_bind (wpAny_mono h₁ (fun _ s₁' h₁'=>?_) fun _ _ h'=>h'.elim)
  refine wpAny_bind (wpAny_mono h₁' (fun _ s₂ h₂=>wpAny_bind (wpAny_mono h₂ (fun ok s₃ h₃=>?_) fun _ _ h'=>h'.elim)) fun _ _ h'=>h'.elim)
  cases ok with
  | false=>exact wpAny_pure ⟨rfl,h₃⟩
  | true =>
   exact wpAny_bind (wpAny_bind (wpAny_mono h₃ (fun x s₄ h₄=>wpAny_bind (wpAny_mono h₄ (fun _ s₅ h₅=>wpAny_pure (wpAny_pure ⟨rfl,h₅⟩)) fun _ _ h'=>h'.elim)) fun _ _ h'=>h'.elim))
section
variable {X:Cx} {pins:List (Addr × Obj)} {σ:St} {H:Hp}
theorem Fd {T V:List Str} {ix:List Nat} {scope:Scope} {s3:Shared} {fp:List Addr} {h₁:Heap} {tk:Nat} {m:Str→Option Value}
 (I:Inv X pins σ H s3) (hf:∀ b ∈ fp,rW X pins H b) (ho:∀ b ∈ fp,∃ o,s3.heap.get? b=some o)
 (hk:scope.kind = .function) (hcell:∀ y ∈ scope.names,y.2 ≠ .cell) (hfr:∀ x ∈ scope.names,x.2 = .free→x.1 ∈ V) (hB:tU X.N X.env.scope.names scope.names V ix=true)
 (hns:h₁.Ns s3.heap.objs.size m) (keep:∀ b o,s3.heap.get? b=some o→h₁.get? b=some o) :
 Inv (blk X (T++V) scope (oh X.env scope.names []) s3.heap.objs.size s3 H fp) pins (vI T.length ix σ) H { s3 with heap:=h₁,toks:=tk }:=by
 obtain ⟨lV,capV⟩:=uG hB
 have hcl:∀ x ∈ scope.names,x.2 = .free→∃ c,X.env.cells.lookup x.1=some c:=fun x hx e=>by
  obtain ⟨k,ek⟩:=oY (hfr x hx e)
  obtain ⟨j,_,_,hc,_⟩:=capV k _ ek
  exact I.ok.has _ (.inl hc)
 have sub:=uF (env:=X.env) scope.names [] hcl (fun x c e=>by simp at e)
 have stkSub:∀ b,b ∈ frs X.stack→b=X.env.locals∨b ∈ X.fs:=fun b z=>bH.mp (I.stkSub b z)
 have lt:∀ b o,s3.heap.get? b=some o→b ≠ s3.heap.objs.size:=fun b o e=>bR (Heap.lt_size e)
 have cellK:∀ c v,s3.heap.IsCell c v→h₁.IsCell c v:=fun c v ⟨o,e,d⟩=>⟨o,keep c o e,d⟩
 refine ⟨⟨I.ok.mod,hk,I.ok.glob,I.ok.blt,bf _,fun x y c e1 e2=>I.ok.inj x y c (sub x c e1) (sub y c e2),fun x hx=>?_,fun x c hx=>?_,I.ok.hd,I.ok.frames,.inl rfl,fun b hb=>⟨?_,fun x c e=>?_⟩,I.bs,bT I.ok.bsz I.sz,fun b o e hb=>?_,fun b hb z=>?_,I.stack,I.stkFree⟩,
  rfl,I.bare,Un.kept keep,⟨m,hns,fun i x v e1 e2 e3=>?_⟩,fun x c e=>?_,I.hok.fresh (bf _),fun x c e=>I.freeC x c (sub x c e),fun p hp=>?_,I.hok.kept keep,?_⟩
 ·rcases hx with hx | hx
  ·exact o8 _ _ x (.inl (ou hcell (.inl rfl) hx))
  ·exact o8 _ _ x (.inl (ou hcell (.inr rfl) hx))
 ·exact absurd hx (by simp)
 ·obtain ⟨o,e⟩:=ho b hb
  exact lt b o e
 ·exact (hf b hb).2.2.2.2.1 x c (sub x c e)
 ·rcases (hf b hb).2.2.2.1 with z | z
  ·exact I.ok.noex b o e z
  ·exact absurd (bN (Heap.lt_size e) (bT I.ok.bsz z)) (gw _)
 ·rcases stkSub b z with z | z
  ·exact (hf b hb).2.1 z
  ·exact (hf b hb).2.2.1 z
 ·by_cases hi:i < T.length
  ·have e2':(bG T.length none++ix.map fun j=>(σ[j]?).getD none)[i]? = some (some v):=e2
   rw [dF (by rw [bZ];exact hi),fP,if_pos hi] at e2'
   exact absurd e2' (by simp)
  ·have e1':(T++V)[i]? = some x:=e1
   rw [dh (by omega)] at e1'
   obtain ⟨j,hj,hN,hc,hfree⟩:=capV _ x e1'
   have e2':(bG T.length none++ix.map fun j=>(σ[j]?).getD none)[i]? = some (some v):=e2
   rw [dh (by rw [bZ];omega),bZ,aQ,hj] at e2'
   have e2'':(σ[j]?).getD none=some v:=by simpa using e2'
   have e3':σ[j]? = some (some v):=by
    cases q:σ[j]? with
    | none=>rw [q] at e2'';exact absurd e2'' (by simp)
    | some o=>rw [q] at e2'';simp at e2'';rw [e2'']
   obtain ⟨m0,hn0,hl⟩:=I.loc
   obtain ⟨u,r,l⟩:=hl j x v hN e3' (.inr (.inl hc))
   rcases l with ⟨z,_⟩ | ⟨_,c,ec,hcell'⟩
   ·have z':X.env.scope.names.lookup x=some .local:=z
    rw [hc] at z'
    exact absurd z' (by simp)
   ·obtain ⟨c',ec'⟩:=o8 (env:=X.env) scope.names [] x (.inl (PySem.mem_of_lookup hfree))
    have:c'=c:=by
     have q:=sub x c' ec'
     rw [ec] at q
     exact (cN.inj q).symm
    subst this
    exact ⟨u,r,.inr ⟨.inl (q_ I.ok.kind hfree hc),c',ec',cellK _ _ hcell'⟩⟩
 ·obtain ⟨v,z⟩:=I.cell x c (sub x c e)
  exact ⟨v,cellK c v z⟩
 ·obtain ⟨e,n,ne,nf,d⟩:=I.pin p hp
  refine ⟨keep _ _ e,n,lt _ _ e,fun z=>?_,d⟩
  rcases stkSub p.1 z with z | z
  ·exact ne z
  ·exact nf z
 ·show (bG T.length none++ix.map fun j=>(σ[j]?).getD none).length=(T++V).length
  rw [bQ,bZ,aJ,bQ,lV]
theorem Hi {N':List Str} {scope:Scope} {cl:List (Str × Addr)} {pins':List (Addr × Obj)} {σ':St} {H3 H':Hp} {s3 s':Shared} {fp:List Addr} (I3:Inv X pins σ H3 s3) (hf:∀ b ∈ fp,rW X pins H3 b)
 (I':Inv (blk X N' scope cl s3.heap.objs.size s3 H3 fp) pins' σ' H' s'):Inv X pins σ H' s'∧rW X pins H' s3.heap.objs.size:=by
 have fr:H' s3.heap.objs.size=none:=I'.free
 refine ⟨?_,I3.fpOk (bf _) fr⟩
 have os:s'.os=s3.os:=I'.os
 have u:Un (frs X.stack) fp H3 H' s3.heap s'.heap:=I'.base
 have ho:=I'.hok
 have hb:=I'.bare
 obtain ⟨hh,g,d,t,os'⟩:=s'
 obtain rfl:os'=s3.os:=os
 exact I3.call (h':=hh) (g':=g) (d':=d) (t':=t) (ch:=fp) u ho hb fun b hb'=>⟨(hf b hb').2.2.2.1,(hf b hb').2.1,(hf b hb').2.2.2.2.1,(hf b hb').2.2.2.2.2⟩
end
def PTs (X:Cx) (ifs:List Expr) (t:TT):Prop :=
 ∀ (pins:List (Addr × Obj)) (s:Shared) (σ:St) (H:Hp) (Q:Bool→Hp→Prop),Inv X pins σ H s→t σ H Q →
  wpAny (model X.prog X.w) X.A (forIn ifs true fun c r=>if r=true then do let ok ← isTrue c X.env (eval c X.env);pure (ForInStep.yield ok) else pure (ForInStep.yield r)) (TP X pins σ Q) X.xe s
def jM:TT:=fun _ H Q=>Q true H
theorem Kf {X:Cx}:PTs X [] jM:=fun _ _ _ H _ I h=>wpAny_tests_nil ⟨H,I,h⟩
theorem jz {X:Cx} {c:Expr} {t:TT} (h:PT X c t):PTs X [c] t:=fun pins s σ H Q I q=>wpAny_tests_one (h pins s σ H Q I q)
def Dh (wi:TI) (g:TG) (tt:TT) (te:TE) (t:Nat) (cap:St→St):TE:=fun σ H Q=>wi σ H fun J H1=>∀ D,H1 D=none→∃ W:Nat→Nat→List V→Hp→Prop,(∃ m,W 0 m [] (upd H1 D (.lst []))) ∧
 ∀ i m xs H2,W i m xs H2→H2 D=some (.lst xs)∧((J.stop i H2∧Q (.ref D) H2)∨(J.go i H2∧xs.length < sizeLine∧∀ x H3,J.yld i H2 x H3→g x (cap σ) H3 fun σ4 H4=>σ4.drop t=(cap σ).drop t ∧
  tt σ4 H4 fun b H5=>if b=true then te σ4 H5 fun v H6=>H6 D=some (.lst xs)∧∃ m',m' < m∧W (i + 1) m' (xs++[v]) (upd H6 D (.lst (xs++[v]))) else ∃ m',m' < m∧W (i + 1) m' xs H5))
section
variable {X:Cx} {elt tg iter:Expr} {ifs:List Expr} {scope:Scope} {pos:Pos} {T V:List Str} {ix:List Nat} {wi:TI} {g:TG} {tt:TT} {te:TE}
theorem wJ (hc:X.calm=true) (hi:PI X tg iter wi)
 (hg:∀ cl C s3 H3 fp,PG (blk X (T++V) scope cl C s3 H3 fp) tg g) (ht:∀ cl C s3 H3 fp,PTs (blk X (T++V) scope cl C s3 H3 fp) ifs tt) (he:∀ cl C s3 H3 fp,PE (blk X (T++V) scope cl C s3 H3 fp) elt te)
 (hB:tU X.N X.env.scope.names scope.names V ix=true) (hk:scope.kind = .function) (hcell:∀ y ∈ scope.names,y.2 ≠ .cell) (hnames:∀ x ∈ scope.names,x.2 = .local→scope.names.lookup x.1=some .local)
 (hfr:∀ x ∈ scope.names,x.2 = .free→x.1 ∈ V) (hs:∀ x,foldedSetIterable iter X.env x=pure x) {p:Pos}
 {pins:List (Addr × Obj)} {s:Shared} {σ:St} {H:Hp} (I:Inv X pins σ H s) {use:Option (Value→Sem Unit)} {Qp:Value→Shared→Prop} {Qv:VK} (h:Dh wi g tt te T.length (vI T.length ix) σ H Qv)
 (fin:∀ (D C:Addr) (H':Hp) (s':Shared) (m:Str→Option Value),Inv X pins σ H' s'→rW X pins H' C→s'.heap.Ns C m→Qv (.ref D) H'→compPost (model X.prog X.w) X.A X.xe use Qp (.ref D) C (.ok .next) s') :
 wpAny (model X.prog X.w) X.A (comprehension (.ListComp elt [⟨tg,iter,ifs,0⟩] scope pos) scope X.env p (newList []) false (eval iter X.env) use) Qp X.xe s:=by
 obtain ⟨lV,capV⟩:=uG hB
 have hcl:∀ x ∈ scope.names,x.2 = .free→∃ c,X.env.cells.lookup x.1=some c:=fun x hx e=>by
  obtain ⟨k,ek⟩:=oY (hfr x hx e)
  obtain ⟨j,_,_,hc',_⟩:=capV k _ ek
  exact I.ok.has _ (.inl hc')
 refine wpAny_comprehension_free rfl hs (Bc hcl) hk hnames ?_
 refine thn (hi pins s σ H _ I h) fun v s1 h1=>thn h1 fun itv s2 h2=>?_
 obtain ⟨it,fp,tn,J,H2,e,I2,Tn,st2,f2,R⟩:=h2
 subst e
 refine wpAny_newObj_type (hd:=by size_fits) ?_
 have hD:H2 s2.heap.objs.size=none:=I2.hok.fresh (bf _)
 have I3:Inv X pins σ (upd H2 s2.heap.objs.size (.lst [])) { s2 with heap:=s2.heap.push { cls:=.type "list", dict:=none,data:=.seq ([]:List Value).toArray } } :=
  I2.laid (t':=s2.toks) (fun b o e=>Heap.get?_push_of_some _ e) (bf _) ⟨dU _,[],0,.nil,Heap.get?_push_size _ rfl⟩
 obtain ⟨W,⟨m0,w0⟩,turn⟩:=R s2.heap.objs.size hD
 generalize hs3:({ s2 with heap:=s2.heap.push { cls:=.type "list", dict:=none,data:=.seq ([]:List Value).toArray } }:Shared)=s3 at I3 ⊢
 have st3:tn 0 s3.heap:=by
  rw [← hs3]
  exact Tn.keep 0 s2.heap _ st2 fun b hb o e=>Heap.get?_push_of_some _ e
 have f3:∀ b ∈ fp,rW X pins (upd H2 s2.heap.objs.size (.lst [])) b:=fun b hb=>by
  obtain ⟨z0,z1⟩:=f2 b hb
  refine ⟨?_,z1⟩
  obtain ⟨o,eo,_⟩:=Tn.obj 0 _ st2 b hb
  rw [cC (bR (Heap.lt_size eo))]
  exact z0
 generalize hH3:upd H2 s2.heap.objs.size (.lst [])=H3 at I3 f3 w0
 generalize hDn:s2.heap.objs.size=D at turn
 refine wpAny_newFunctionEnv hcell (by intro y hy;simp at hy) (fun h₁ hns₁ hsb₁=>?_) hk
 have keep:∀ b o,s3.heap.get? b=some o→h₁.get? b=some o:=fun b o e=>hsb₁.extBut b o (bR (Heap.lt_size e)) (Heap.get?_push_of_some _ e)
 have I4:=Fd (T:=T) (tk:=s3.toks + ([]:List (Str × Value)).length) I3 f3 (fun b hb=>let ⟨o,eo,_⟩:=Tn.obj 0 _ st3 b hb;⟨o,eo⟩) hk hcell hfr hB hns₁ keep
 have st4:tn 0 h₁:=Tn.keep 0 _ _ st3 fun b hb o e=>keep b o e
 have loop:codeAny (model X.prog X.w) X.A (.compLoop (.ListComp elt [⟨tg,iter,ifs,0⟩] scope pos) 0 (.ref it) (.ref D) (compEnvC scope (oh X.env scope.names []) s3.heap.objs.size X.env))
  (compPost (model X.prog X.w) X.A X.xe use Qp (.ref D) s3.heap.objs.size) { s3 with heap:=h₁,toks:=s3.toks + ([]:List (Str × Value)).length }:=by
  refine zK (fun n s'=>∃ i xs H',Inv (blk X (T++V) scope (oh X.env scope.names []) s3.heap.objs.size s3 H3 fp) pins (vI T.length ix σ) H' s'∧tn i s'.heap∧(∀ b ∈ fp,H' b=none)∧W i n xs H') ?_ m0
   ⟨0,[],H3,I4,st4,fun b hb=>(f3 b hb).1,w0⟩
  rintro n s5 ⟨i,xs,H5,I5,st5,fr5,w5⟩
  have stat:∀ {H':Hp} {pins':List (Addr × Obj)} {σ':St} {s':Shared},Inv (blk X (T++V) scope (oh X.env scope.names []) s3.heap.objs.size s3 H3 fp) pins σ' H' s'→(∀ b ∈ fp,H' b=none)→∀ b ∈ fp,rW (blk X (T++V) scope (oh X.env scope.names []) s3.heap.objs.size s3 H3 fp) pins H' b:=fun I' hn b hb=>by
   obtain ⟨x1,x2⟩:=I'.ok.exf b hb
   refine ⟨hn b hb,x1,I'.ok.exfs b hb,.inl hb,x2,fun q hq=>?_⟩
   exact (f3 b hb).2.2.2.2.2 q hq
  obtain ⟨hD5,r5⟩:=turn i n xs H5 w5
  rcases r5 with ⟨stop,q⟩ | ⟨go,hz,step⟩
  ·refine thn (Tn.done (blk X (T++V) scope (oh X.env scope.names []) s3.heap.objs.size s3 H3 fp) rfl rfl rfl hc i pins s5 _ H5 _ I5 (stat (pins':=pins) I5 fr5) st5 stop) fun r s6 ⟨hr,I6⟩=>?_
   subst hr
   obtain ⟨Ib,fC⟩:=Hi I3 f3 I6
   obtain ⟨m,hn,_⟩:=I6.loc
   exact fin D _ H5 s6 m Ib fC hn q
  ·refine thn (Tn.item (blk X (T++V) scope (oh X.env scope.names []) s3.heap.objs.size s3 H3 fp) rfl rfl rfl hc i pins s5 _ H5 _ I5 (stat (pins':=pins) I5 fr5) st5 go) fun r s6 ⟨u,hr,h6⟩=>?_
   subst hr
   refine thn h6 fun _ s7 ⟨x,H7,I7,rx,y7,st7,fr7⟩=>?_
   have I7':=I7.pinned (stat (pins':=pins) I7 fr7) (Tn.obj _ _ st7)
   refine thn (hg _ _ _ _ _ _ s7 _ H7 x u _ I7' rx (step x H7 y7)) fun _ s8 ⟨σ8,H8,I8,k8,q8⟩=>?_
   have again:∀ {H9:Hp} {s9:Shared},Inv (blk X (T++V) scope (oh X.env scope.names []) s3.heap.objs.size s3 H3 fp) (pins++uy fp s7.heap) σ8 H9 s9 →
    Inv (blk X (T++V) scope (oh X.env scope.names []) s3.heap.objs.size s3 H3 fp) pins (vI T.length ix σ) H9 s9∧tn (i + 1) s9.heap∧∀ b ∈ fp,H9 b=none:=fun {H9 s9} I9=>by
    refine ⟨Inv.forget I9.unpinned I4.len fun j v e=>?_,Tn.keep _ _ _ st7 fun b hb o e=>(I9.pin (b,o) (aP _ (aP _ (n8 hb e)))).1,fun b hb=>?_⟩
    ·by_cases hj:j < T.length
     ·have e':(bG T.length none++ix.map fun j=>(σ[j]?).getD none)[j]? = some (some v):=e
      rw [dF (by rw [bZ];exact hj),fP,if_pos hj] at e'
      exact absurd e' (by simp)
     ·have ej:j=T.length + (j - T.length):=by omega
      rw [ej,← lQ] at e ⊢
      rw [k8]
      exact e
    ·obtain ⟨o,e,d⟩:=Tn.obj _ _ st7 b hb
     exact (I9.pin (b,o) (aP _ (aP _ (n8 hb e)))).2.1
   refine thn (ht _ _ _ _ _ _ s8 σ8 H8 _ I8 q8) fun ok s9 ⟨H9,I9,q9⟩=>?_
   cases ok with
   | false =>
    obtain ⟨m',lm,w9⟩:=q9
    obtain ⟨a1,a2,a3⟩:=again I9
    exact ⟨m',lm,i + 1,xs,H9,a1,a2,a3,w9⟩
   | true =>
    refine thn (he _ _ _ _ _ _ s9 σ8 H9 _ I9 q9) fun y s10 ⟨v,H10,I10,ry,hD10,m',lm,w10⟩=>?_
    refine thn (wI _ s10 σ8 H10 (.ref D) [v] (.ref D) [y] (fun _ Hn=>Hn=upd H10 D (.lst (xs++[v]))) I10 rfl (.cons ry .nil) ⟨D,xs,v,rfl,rfl,hD10,hz,rfl⟩) fun _ s11 ⟨_,H11,I11,_,e11⟩=>?_
    subst e11
    obtain ⟨a1,a2,a3⟩:=again I11
    exact ⟨m',lm,i + 1,_,_,a1,a2,a3,w10⟩
 exact codeAny_compStart_list loop (Tn.self _ 0 _ _ _ st4 loop)
theorem Kg (hc:X.calm=true) (T V:List Str) (ix:List Nat) (hi:PI X tg iter wi)
 (hg:∀ cl C s3 H3 fp,PG (blk X (T++V) scope cl C s3 H3 fp) tg g) (ht:∀ cl C s3 H3 fp,PTs (blk X (T++V) scope cl C s3 H3 fp) ifs tt) (he:∀ cl C s3 H3 fp,PE (blk X (T++V) scope cl C s3 H3 fp) elt te)
 (hB:tU X.N X.env.scope.names scope.names V ix=true:=by rfl) (hk:scope.kind = .function:=by rfl) (hcell:∀ y ∈ scope.names,y.2 ≠ .cell:=by decide +kernel)
 (hnames:∀ x ∈ scope.names,x.2 = .local→scope.names.lookup x.1=some .local:=by decide +kernel)
 (hfr:∀ x ∈ scope.names,x.2 = .free→x.1 ∈ V:=by decide +kernel) (hs:∀ x,foldedSetIterable iter X.env x=pure x:=by intro _;rfl) :
 PE X (.ListComp elt [⟨tg,iter,ifs,0⟩] scope pos) (Dh wi g tt te T.length (vI T.length ix)):=by
 intro pins s σ H Q I h
 rw [eval_ListComp]
 refine wJ (use:=none) hc hi hg ht he hB hk hcell hnames hfr hs I h fun D C H' s' m I' fC hn q=>⟨m,hn,fun h' sb=>⟨.ref D,H',?_,rfl,q⟩⟩
 obtain ⟨z0,z1,z2,z3,z4,z5⟩:=fC
 exact I'.turned (t':=s'.toks) (fun b o hb e=>sb.extBut b o hb e) z0 z1 z3 z4 z5
theorem Di {i:Nat} {x:Str} {pos' spos:Pos} (hN:X.N.Nodup) (hi':X.N[i]? = some x) (hx:X.env.scope.names.lookup x=some .local) (hc:X.calm=true) (T V:List Str) (ix:List Nat) (hi:PI X tg iter wi)
 (hg:∀ cl C s3 H3 fp,PG (blk X (T++V) scope cl C s3 H3 fp) tg g) (ht:∀ cl C s3 H3 fp,PTs (blk X (T++V) scope cl C s3 H3 fp) ifs tt) (he:∀ cl C s3 H3 fp,PE (blk X (T++V) scope cl C s3 H3 fp) elt te)
 (hsw:swapsWith (.ListComp elt [⟨tg,iter,ifs,0⟩] scope pos) (some (.Name x pos')) spos.line X.env=pure true:=by rfl)
 (hB:tU X.N X.env.scope.names scope.names V ix=true:=by rfl) (hk:scope.kind = .function:=by rfl) (hcell:∀ y ∈ scope.names,y.2 ≠ .cell:=by decide +kernel)
 (hnames:∀ x ∈ scope.names,x.2 = .local→scope.names.lookup x.1=some .local:=by decide +kernel)
 (hfr:∀ x ∈ scope.names,x.2 = .free→x.1 ∈ V:=by decide +kernel) (hs:∀ x,foldedSetIterable iter X.env x=pure x:=by intro _;rfl) :
 PS X (.Assign [.Name x pos'] (.ListComp elt [⟨tg,iter,ifs,0⟩] scope pos) spos) (Oq (Dh wi g tt te T.length (vI T.length ix)) (GK i)):=by
 intro pins s σ H D I h
 rw [exec_Assign_Name_used _ _ _ _ hsw]
 refine wpAny_bind (wpAny_standAt (wpAny_bind ?_))
 show wpAny _ X.A (do let _ ← comprehension (.ListComp elt [⟨tg,iter,ifs,0⟩] scope pos) scope X.env _ (newList []) false (eval iter X.env) (some (assign (.Name x pos') X.env))) _ _ s
 refine wpAny_bind (wpAny_mono (wJ (use:=some (assign (.Name x pos') X.env)) (Qp:=fun _ s'=>SP X pins D .next s') hc hi hg ht he hB hk hcell hnames hfr hs I h fun A' C H' s' m I' fC hn q=>?_) (fun _ s' hq=>wpAny_pure (wpAny_pure hq)) fun _ _ e=>e)
 obtain ⟨z0,z1,z2,z3,z4,z5⟩:=fC
 refine wpAny_assign_Name (wj I' hN hi' (.inl hx) (v:=.ref A') rfl (fun s'' I'' ⟨a,sb,ha⟩=>⟨m,hn.sameBut sb ?_,fun h' sb'=>⟨_,H',?_,q⟩⟩) (.inr hx))
 ·rcases ha with ha | ha
  ·rw [ha];exact z1
  ·exact Ne.symm (z4 x a ha)
 ·exact I''.turned (t':=s''.toks) (fun b o hb e=>sb'.extBut b o hb e) z0 z1 z3 z4 z5
end
section
variable {X:Cx} {K:PySem.W.Frag}
end
end My
namespace D3
open PySem
abbrev D:=PyData
inductive U where
 | d (x:D)
 | x (c f:Str) (v:D)
abbrev DS:=List (Option U)
inductive Oc where
 | nx (δ:DS)
 | rt (d:D)
 | bk (δ:DS)
 | ct (δ:DS)
 | ex (c f:Str) (v:D)
abbrev FE:=DS→Option D
abbrev FA:=DS→Option (List D)
abbrev FT:=DS→Option Bool
abbrev FS:=DS→Option Oc
abbrev FG:=D→DS→Option DS
mutual
def flat:D→Bool
 | .none=>true
 | .bool _=>true
 | .int _=>true
 | .str _=>true
 | .list _=>false
 | .tuple xs=>flats xs
 | .dict _=>false
def flats:List D→Bool
 | []=>true
 | x :: r=>flat x && flats r
end
mutual
def nl:D→Nat
 | .none=>0
 | .bool _=>0
 | .int _=>0
 | .str _=>0
 | .list xs=>nls xs + 1
 | .tuple xs=>nls xs
 | .dict _=>1
def nls:List D→Nat
 | []=>0
 | x :: r=>nl x + nls r
end
def fl1:D→Bool
 | .list xs=>flats xs
 | d=>flat d
def aF (i:Nat):FE:=fun δ=>match δ[i]? with
 | some (some (.d x))=>some x
 | _=>none
def dC (d:D):FE:=fun _=>some d
def dOp (g:D→D→Option D) (fa fb:FE):FE:=fun δ=>(fa δ).bind fun x=>(fb δ).bind fun y=>g x y
def dUn (g:D→Option D) (fa:FE):FE:=fun δ=>(fa δ).bind g
def bh:FA:=fun _=>some []
def aH (fa:FE) (fr:FA):FA:=fun δ=>(fa δ).bind fun x=>(fr δ).bind fun r=>some (x :: r)
def dTup (fa:FA):FE:=fun δ=>(fa δ).bind fun l=>if l.length ≤ sizeLine then some (.tuple l) else none
def mC (fa:FA):FE:=fun δ=>(fa δ).bind fun l=>if l.length ≤ sizeLine then some (.list l) else none
def dCall (F:List D→Option D) (fa:FA):FE:=fun δ=>(fa δ).bind F
def cR (fa:FE):FE:=fun δ=>(fa δ).bind fun d=>if flat d=true then some d else none
def dN1 (fa:FE):FE:=fun δ=>(fa δ).bind fun d=>if decide (nl d ≤ 1)=true then some d else none
def qg (fa:FE):FE:=fun δ=>(fa δ).bind fun d=>if fl1 d=true then some d else none
def su (fa fb:FE):FE:=fun δ=>(fa δ).bind fun x=>match x with
 | .bool true=>fb δ
 | .bool false=>some (.bool false)
 | _=>none
def dOr (fa fb:FE):FE:=fun δ=>(fa δ).bind fun x=>match x with
 | .bool true=>some (.bool true)
 | .bool false=>fb δ
 | _=>none
def Hj (fa:FE):FE:=fun δ=>(fa δ).bind fun x=>match x with
 | .bool b=>some (.bool (!b))
 | _=>none
def dIf (c:FT) (fa fb:FE):FE:=fun δ=>(c δ).bind fun b=>if b=true then fa δ else fb δ
def bB (fa:FE):FT:=fun δ=>(fa δ).bind fun x=>match x with
 | .bool b=>some b
 | _=>none
def jA (a b:FT):FT:=fun δ=>(a δ).bind fun x=>if x=true then b δ else some false
def tOr (a b:FT):FT:=fun δ=>(a δ).bind fun x=>if x=true then some true else b δ
def n6 (a:FT):FT:=fun δ=>(a δ).map fun x=>!x
def fO:FS:=fun δ=>some (.nx δ)
def b_ (a b:FS):FS:=fun δ=>(a δ).bind fun o=>match o with
 | .nx δ'=>b δ'
 | o=>some o
def R8 (i:Nat) (fe:FE):FS:=fun δ=>(fe δ).bind fun d=>some (.nx (δ.set i (some (.d d))))
def sIf (c:FT) (a b:FS):FS:=fun δ=>(c δ).bind fun t=>if t=true then a δ else b δ
def d8 (fe:FE):FS:=fun δ=>(fe δ).bind fun d=>some (.rt d)
def R9:FS:=fun _=>some (.rt .none)
def tu (fe:FE):FS:=fun δ=>(fe δ).bind fun _=>some (.nx δ)
def sBk:FS:=fun δ=>some (.bk δ)
def sCt:FS:=fun δ=>some (.ct δ)
def gN (i:Nat):FG:=fun d δ=>some (δ.set i (some (.d d)))
def jN:List D→DS→Option DS:=fun l δ=>match l with
 | []=>some δ
 | _=>none
def cM (g:FG) (r:List D→DS→Option DS):List D→DS→Option DS:=fun l δ=>match l with
 | d :: l'=>(g d δ).bind fun δ'=>r l' δ'
 | []=>none
def Fe (fe:FE) (g:FG):FS:=fun δ=>(fe δ).bind fun d=>(g d δ).bind fun δ'=>some (.nx δ')
def iW (g:FG) (b:FS):List D→DS→Option Oc
 | [],δ=>some (.nx δ)
 | d :: r,δ=>(g d δ).bind fun δ1=>(b δ1).bind fun o=>match o with
  | .nx δ'=>iW g b r δ'
  | .ct δ'=>iW g b r δ'
  | .bk δ'=>some (.nx δ')
  | .rt v=>some (.rt v)
  | .ex c f v=>some (.ex c f v)
def mD (fi:FA) (g:FG) (b:FS):FS:=fun δ=>(fi δ).bind fun l=>iW g b l δ
def gM (c:FT) (b:FS):Nat→DS→Option Oc
 | 0,_=>none
 | n + 1,δ=>(c δ).bind fun t=>if t=true then (b δ).bind fun o=>match o with
     | .nx δ'=>gM c b n δ'
     | .ct δ'=>gM c b n δ'
     | .bk δ'=>some (.nx δ')
     | .rt v=>some (.rt v)
     | .ex c f v=>some (.ex c f v)
  else some (.nx δ)
theorem mL {c:FT} {b:FS}:∀ {n:Nat} {δ:DS} {o:Oc},gM c b n δ=some o→∀ {m:Nat},n ≤ m→gM c b m δ=some o
 | 0,_,_,h,_,_=>by simp [gM] at h
 | n + 1,δ,o,h,0,l=>by omega
 | n + 1,δ,o,h,m + 1,l=>by
  rw [gM] at h ⊢
  cases hc:c δ with
  | none=>rw [hc] at h;simp at h
  | some t =>
   rw [hc] at h
   simp only [aL] at h ⊢
   cases t with
   | false=>exact h
   | true =>
    simp only [if_pos] at h ⊢
    cases hb:b δ with
    | none=>rw [hb] at h;simp at h
    | some q =>
     rw [hb] at h
     simp only [aL] at h ⊢
     cases q with
     | nx δ'=>exact mL h (by omega)
     | ct δ'=>exact mL h (by omega)
     | bk δ'=>exact h
     | rt v=>exact h
     | ex c f v=>exact h
theorem Bd {c:FT} {b:FS} {n m:Nat} {δ:DS} {o o':Oc} (h:gM c b n δ=some o) (h':gM c b m δ=some o'):o=o':=by
 have a:=mL h (Nat.le_max_left n m)
 have a':=mL h' (Nat.le_max_right n m)
 rw [a] at a'
 exact cN.inj a'
open Classical in
noncomputable def sy (c:FT) (b:FS):FS:=fun δ=>if h:∃ o n,gM c b n δ=some o then some (Classical.choose h) else none
theorem Fg {c:FT} {b:FS} {n:Nat} {δ:DS} {o:Oc} (h:gM c b n δ=some o):sy c b δ=some o:=by
 have e:∃ o n,gM c b n δ=some o:=⟨o,n,h⟩
 unfold sy
 rw [dif_pos e]
 obtain ⟨m,hm⟩:=Classical.choose_spec e
 rw [Bd hm h]
theorem Bf {c:FT} {b:FS} {δ:DS} {o:Oc} (h:sy c b δ=some o):∃ n,gM c b n δ=some o:=by
 unfold sy at h
 by_cases e:∃ o n,gM c b n δ=some o
 ·rw [dif_pos e] at h
  have:=Classical.choose_spec e
  rw [cN.inj h] at this
  exact this
 ·rw [dif_neg e] at h
  cases h
def fnD (p q:Nat) (b:FS):List D→Option D:=fun ds=>if ds.length=p then match b (ds.map (fun d=>some (.d d))++bG q none) with
    | some (.rt d)=>some d
    | some (.nx _)=>some .none
    | _=>none
 else none
def jj (t:Nat) (ix:List Nat) (δ:DS):DS:=bG t none++ix.map fun j=>(δ[j]?).getD none
def dW (g:FG) (c:FT) (e:FE) (δ:DS):List D→Option (List D)
 | []=>some []
 | d :: r=>(g d δ).bind fun δ1=>(c δ1).bind fun b=>if b=true then (e δ1).bind fun x=>(dW g c e δ r).bind fun l=>some (x :: l) else dW g c e δ r
def gD (fi:FA) (g:FG) (c:FT) (e:FE) (t:Nat) (ix:List Nat):FE:=fun δ=>(fi δ).bind fun l=>if l.length ≤ 100000 then (dW g c e (jj t ix δ) l).bind fun r=>some (.list r) else none
def jM:FT:=fun _=>some true
def gI (g:Int→Int→Option D):D→D→Option D:=fun x y=>match x,y with
 | .int i,.int j=>g i j
 | _,_=>none
def pIx (n:Nat) (i:Int):Option Nat:=if 0 ≤ i then (if i < n then some i.toNat else none) else if -(n:Int) ≤ i then some (i + n).toNat else none
def pAt (xs:List D) (i:Int):Option D:=(pIx xs.length i).bind fun j=>xs[j]?
def isT (c T:String):Bool:=T == c || (T == "bool" && c == "int")
def bW (i:Nat) (fe:FE):FS:=fun δ=>if i < δ.length then R8 i fe δ else none
def jk:D→D→Option D:=gI fun i j=>some (.int (i + j))
def GQ:D→D→Option D:=gI fun i j=>some (.int (i - j))
def uH (i j:Int):Bool:=decide (i.natAbs < 2 ^ 64) || decide (j.natAbs < 2 ^ 64) || (decide (i.natAbs < 2 ^ 30000) && decide (j.natAbs < 2 ^ 30000))
def oA:D→D→Option D:=gI fun i j=>if uH i j=true then some (.int (i * j)) else none
def Bg (_ j:Int):Bool:=decide (j ≠ 0) && decide (j.natAbs < 2 ^ 9000)
def zL:D→D→Option D:=gI fun i j=>if Bg i j=true then some (.int (i.fdiv j)) else none
def qw:D→D→Option D:=gI fun i j=>if decide (j ≠ 0)=true then some (.int (i.fmod j)) else none
def O_ (i j:Int):Bool:=decide (0 ≤ j) && decide (j ≤ 1000) && decide (i.natAbs < 2 ^ 64)
def Pa:D→D→Option D:=gI fun i j=>if O_ i j=true then some (.int (i ^ j.toNat)) else none
def gLt:D→D→Option D:=gI fun i j=>some (.bool (decide (i < j)))
def gLe:D→D→Option D:=gI fun i j=>some (.bool (decide (i ≤ j)))
def gGt:D→D→Option D:=gI fun i j=>some (.bool (decide (j < i)))
def gGe:D→D→Option D:=gI fun i j=>some (.bool (decide (j ≤ i)))
def gEq:D→D→Option D:=fun x y=>if (SeqAt.shaped x && SeqAt.shaped y)=true then some (.bool (PyData.eqv x y)) else none
def gNe:D→D→Option D:=fun x y=>if (SeqAt.shaped x && SeqAt.shaped y)=true then some (.bool (!PyData.eqv x y)) else none
def gNl (i:Nat):FG:=fun d δ=>if i < δ.length then gN i d δ else none
def gTn (n:Nat) (g:List D→DS→Option DS):FG:=fun d δ=>match d with
 | .tuple l=>if l.length=n then g l δ else none
 | _=>none
def xM (i:Nat) (f:FE):FS:=fun δ=>(aF i δ).bind fun x=>(f δ).bind fun d=>match x with
 | .list l=>if l.length < 1000000 then some (.nx (δ.set i (some (.d (.list (l++[d])))))) else none
 | _=>none
def rm (i:Nat) (fk f:FE):FS:=fun δ=>(f δ).bind fun d=>(aF i δ).bind fun x=>(fk δ).bind fun k=>match x,k with
 | .list l,.int j=>(pIx l.length j).bind fun n=>some (.nx (δ.set i (some (.d (.list (l.set n d))))))
 | _,_=>none
def putAt (x:D) (n:Nat) (d:D):D:=match x with
 | .list l=>.list (l.set n d)
 | .tuple l=>.tuple (l.set n d)
 | x=>x
def asList:D→Option (List D)
 | .list l=>some l
 | _=>none
def kI (f:FE):FA:=fun δ=>(f δ).bind asList
def dZ (lo hi:Int):List D:=(aG (hi - lo).toNat).map fun (k:Nat)=>.int (lo + (k:Int))
def qj (i:Int):Bool:=decide (-(2 ^ 62) ≤ i) && decide (i < 2 ^ 62)
def kJ (fa:FA):FA:=fun δ=>(fa δ).bind fun l=>match l with
 | [.int j]=>if qj j=true then some (dZ 0 j) else none
 | _=>none
def zM (fa:FA):FA:=fun δ=>(fa δ).bind fun l=>match l with
 | [.int i,.int j]=>if (qj i && qj j)=true then some (dZ i j) else none
 | _=>none
def gIx:D→D→Option D:=fun x y=>match x,y with
 | .list l,.int i=>pAt l i
 | .tuple l,.int i=>pAt l i
 | _,_=>none
def m5 (g g':D→D→Option D) (fa fb fc:FE):FE:=fun δ=>(fa δ).bind fun x=>(fb δ).bind fun y=>(g x y).bind fun z=>match z with
 | .bool true=>(fc δ).bind fun w=>g' y w
 | .bool false=>some (.bool false)
 | _=>none
def t_ (g g' g'':D→D→Option D) (fa fb fc fd:FE):FE:=fun δ=>(fa δ).bind fun x=>(fb δ).bind fun y=>(g x y).bind fun z=>match z with
 | .bool true=>(fc δ).bind fun w=>(g' y w).bind fun z'=>match z' with
  | .bool true=>(fd δ).bind fun u=>g'' w u
  | .bool false=>some (.bool false)
  | _=>none
 | .bool false=>some (.bool false)
 | _=>none
def isNone:D→Bool
 | .none=>true
 | _=>false
def oE:D→Option D:=fun x=>some (.bool (isNone x))
def mO:D→Option D:=fun x=>some (.bool (!isNone x))
def jm:List D→Option D
 | [.list l]=>some (.int l.length)
 | [.tuple l]=>some (.int l.length)
 | _=>none
def i_:List D→Option (List Int)
 | []=>some []
 | .int i :: r=>(i_ r).map (i :: ·)
 | _=>none
def R_:List D→Option D
 | [.list l]=>(i_ l).map fun ns=>.int ns.sum
 | _=>none
def insI (x:Int):List Int→List Int
 | []=>[x]
 | y :: r=>if x ≤ y then x :: y :: r else y :: insI x r
def nG:List Int→List Int
 | []=>[]
 | x :: r=>insI x (nG r)
def rA:List D→Option D
 | [.list l]=>(i_ l).bind fun ns=>if ns.length < 64 then some (.list ((nG ns).map .int)) else none
 | _=>none
def Bh:List D→Option D
 | [.int i]=>some (.int i)
 | [.bool b]=>some (.int (if b then 1 else 0))
 | _=>none
def Ve:List D→Option D
 | [.int i]=>some (.int (if i < 0 then -i else i))
 | _=>none
def wK:List D→Option D
 | [.int i,.int j]=>some (.int (if j > i then j else i))
 | _=>none
def uI:List D→Option D
 | [.int i,.int j]=>some (.int (if j < i then j else i))
 | _=>none
def tyD:D→String
 | .none => "NoneType"
 | .bool _ => "bool"
 | .int _ => "int"
 | .str _ => "str"
 | .list _ => "list"
 | .tuple _ => "tuple"
 | .dict _ => "dict"
def gIs (c:String):D→Option D:=fun d=>some (.bool (isT c (tyD d)))
def Vf:D→Option D
 | .int i=>some (.int (-i))
 | _=>none
def sE:D→D→Option D:=fun x y=>match x,y with
 | .list l,.list m=>if l.length + m.length ≤ 1000000 then some (.list (l++m)) else none
 | _,_=>none
def Hl:D→D→Option D:=fun x y=>match x,y with
 | .list l,.int k=>if l.length * k.toNat ≤ 1000000∧-(2 ^ 63) ≤ k∧k < 2 ^ 63 then some (.list (bG k.toNat l).flatten) else none
 | _,_=>none
def uJ:D→Option D
 | .list l=>some (.list l)
 | .tuple l=>some (.list l)
 | _=>none
abbrev FO:=DS→Option (Option Int)
def Sd:FO:=fun _=>some none
def Nh (f:FE):FO:=fun δ=>(f δ).bind fun x=>match x with
 | .int i=>some (some i)
 | _=>none
def pSx (n d:Nat):Option Int→Nat
 | none=>d
 | some i=>if i < 0 then (i + n).toNat else min i.toNat n
def cutD (xs:List D) (lo hi:Option Int):List D:=(xs.drop (pSx xs.length 0 lo)).take (pSx xs.length xs.length hi - pSx xs.length 0 lo)
def dSl (f:FE) (lo hi:FO):FE:=fun δ=>(f δ).bind fun x=>(lo δ).bind fun a=>(hi δ).bind fun b=>match x with
 | .list l=>some (.list (cutD l a b))
 | _=>none
def Sg (i j:Nat) (fa:FA):FS:=fun δ=>(fa δ).bind fun l=>match l with
 | [x,y]=>if i < δ.length∧j < δ.length then some (.nx ((δ.set i (some (.d x))).set j (some (.d y)))) else none
 | _=>none
def jV (l:List D):List D:=l.mapIdx fun i x=>.tuple [.int (i:Int),x]
def uK (f:FE):FA:=fun δ=>(f δ).bind fun d=>match d with
 | .list l=>some (jV l)
 | _=>none
def m6:List D→Option (List Bool)
 | []=>some []
 | .bool b :: r=>(m6 r).map (b :: ·)
 | _=>none
def Bj:List D→Option D
 | [.list l]=>(m6 l).map fun bs=>.bool (bs.all id)
 | _=>none
def Kh:List D→List D→List D
 | x :: r,y :: s=>.tuple [x,y] :: Kh r s
 | _,_=>[]
def Sq (f g:FE):FA:=fun δ=>(f δ).bind fun d=>(g δ).bind fun e=>match d,e with
 | .list l,.list m=>some (Kh l m)
 | _,_=>none
theorem insI_perm (x:Int):∀ l,(insI x l).Perm (x :: l)
 | []=>.refl _
 | y :: r=>by
  unfold insI
  split
  ·exact .refl _
  ·exact ((insI_perm x r).cons y).trans (.swap x y r)
theorem jE:∀ l,(nG l).Perm l
 | []=>.refl _
 | x :: r=>(insI_perm x _).trans ((jE r).cons x)
theorem tE (x:Int):∀ l,l.Pairwise (· ≤ ·)→(insI x l).Pairwise (· ≤ ·)
 | [],_=>by simp [insI]
 | y :: r,h=>by
  obtain ⟨h1,h2⟩:=iI.mp h
  unfold insI
  split
  ·next c =>
   refine iI.mpr ⟨fun a ha=>?_,h⟩
   rcases bH.mp ha with rfl | z
   ·exact c
   ·exact Int.le_trans c (h1 a z)
  ·next c =>
   refine iI.mpr ⟨fun a ha=>?_,tE x r h2⟩
   rcases bH.mp ((insI_perm x r).mem_iff.mp ha) with rfl | z
   ·omega
   ·exact h1 a z
theorem o9:∀ l,(nG l).Pairwise (· ≤ ·)
 | []=>.nil
 | x :: r=>tE x _ (o9 r)
end D3
namespace D3
open PySem PySem.Spec PyProof.Rows L2 My
abbrev Ok:=Addr→Prop
abbrev St:=L2.St
class Chg (u:HO):Prop where
 ch:(∃ xs,u = .lst xs)∨(∃ kvs,u = .dK kvs)∨∃ kvs,u = .dT kvs
instance (xs:List V):Chg (.lst xs):=⟨.inl ⟨xs,rfl⟩⟩
instance (kvs:List (Key × V)):Chg (.dK kvs):=⟨.inr (.inl ⟨kvs,rfl⟩)⟩
instance (kvs:List (List Key × V)):Chg (.dT kvs):=⟨.inr (.inr ⟨kvs,rfl⟩)⟩
theorem Chg.frz {o:Obj} {u:HO} (h:Chg (.frz o u)):False:=by
 rcases h.ch with ⟨_,z⟩ | ⟨_,z⟩ | ⟨_,z⟩ <;> cases z
theorem Chg.tup {xs:List V} (h:Chg (.tup xs)):False:=by
 rcases h.ch with ⟨_,z⟩ | ⟨_,z⟩ | ⟨_,z⟩ <;> cases z
def Chd (o:Option HO):Prop:=∃ u,o=some u∧Chg u
theorem Chd.ne {o:Option HO} (h:Chd o):o ≠ none:=by
 obtain ⟨u,rfl,_⟩:=h
 simp
def SqK (K:PySem.W.Frag) (H:Hp) (a:Addr) (xs:List V):Prop:=(∃ o,H a=some (.frz o (.lst xs))) ∨
 ∃ (o:Obj) (its:Array Value) (n:Nat),K.lookup a=some o∧o.cls = .type "list" ∧ o.dict=none∧o.data = .seq its n∧its.size ≤ sizeLine∧Vals xs its.toList
theorem SqK.sq {K:PySem.W.Frag} {H:Hp} {a:Addr} {xs:List V} (h:SqK K H a xs):SqL K H a xs:=by
 rcases h with ⟨o,h⟩ | h
 ·exact .inl (.inr ⟨o,h⟩)
 ·exact .inr h
def jG (H:Hp) (a:Addr) (xs:List V):Prop:=H a=some (.tup xs)
theorem jG.sq {K:PySem.W.Frag} {H:Hp} {a:Addr} {xs:List V} (h:jG H a xs):SqT K H a xs:=.inl (.inl h)
theorem jG.same {H H':Hp} {a:Addr} {xs:List V} (e:Same H H') (h:jG H a xs):jG H' a xs:=e _ _ h
theorem jG.upd {H:Hp} {a b:Addr} {xs:List V} {u o:HO} [cu:Chg u] (h:H a=some u) (q:jG H b xs):jG (upd H a o) b xs:=by
 unfold jG
 rw [cC (CV q h (by intro z;subst z;exact cu.tup))]
 exact q
def dk0:List (D × D)→List (Key × V)
 | []=>[]
 | (.int i,.int j) :: r=>(.inl i,.int j) :: dk0 r
 | (.int i,.bool true) :: r=>(.inl i,.bl true) :: dk0 r
 | _ :: r=>(.inl 0,.non) :: dk0 r
def tkK:List D→Option (List Key)
 | []=>some []
 | .int i :: r=>(tkK r).map (.inl i :: ·)
 | _=>none
def tkD:List (D × D)→Option (List (List Key × V))
 | []=>some []
 | (.tuple l,.bool true) :: r=>(tkK l).bind fun k=>(tkD r).map ((k,.bl true) :: ·)
 | _=>none
def dh0 (kvs:List (D × D)):HO:=match kvs with
 | []=>.dK []
 | q :: r=>match tkD (q :: r) with
  | some ts=>.dT ts
  | none=>.dK (dk0 (q :: r))
theorem Ho (kvs:List (D × D)):(∃ ks,dh0 kvs = .dK ks)∨∃ ks,dh0 kvs = .dT ks:=by
 cases kvs with
 | nil=>exact .inl ⟨_,rfl⟩
 | cons q r =>
  unfold dh0
  dsimp only
  split
  ·exact .inr ⟨_,rfl⟩
  ·exact .inl ⟨_,rfl⟩
instance (kvs:List (D × D)):Chg (dh0 kvs):=⟨by
 rcases Ho kvs with ⟨ks,z⟩ | ⟨ks,z⟩
 ·exact .inr (.inl ⟨ks,z⟩)
 ·exact .inr (.inr ⟨ks,z⟩)⟩
def scV:D→V
 | .int i=>.int i
 | _=>.non
def scs:List D→Bool
 | []=>true
 | .int _ :: r=>scs r
 | .none :: r=>scs r
 | _=>false
def TV (H:Hp) (v:V) (d:D):Prop:=(v = .non∧d = .none)∨∃ b ds,v = .ref b∧d = .tuple ds∧jG H b (ds.map scV)∧scs ds=true
inductive TVs (H:Hp):List (Key × V)→List (D × D)→Prop
 | nil:TVs H [] []
 | cons {i:Int} {v:V} {d:D} {r:List (Key × V)} {r':List (D × D)}:TV H v d→TVs H r r'→TVs H ((.inl i,v) :: r) ((.int i,d) :: r')
theorem TV.imp {H H':Hp} (h:∀ b xs,jG H b xs→jG H' b xs) {v:V} {d:D} (q:TV H v d):TV H' v d:=by
 rcases q with q | ⟨b,ds,h1,h2,h3,h4⟩
 ·exact .inl q
 ·exact .inr ⟨b,ds,h1,h2,h _ _ h3,h4⟩
theorem TVs.imp {H H':Hp} (h:∀ b xs,jG H b xs→jG H' b xs) {ks:List (Key × V)} {kvs:List (D × D)} (q:TVs H ks kvs):TVs H' ks kvs:=by
 induction q with
 | nil=>exact .nil
 | cons t _ ih=>exact .cons (t.imp h) ih
def Bk:List (D × D)→Bool
 | []=>true
 | (_,.int _) :: r=>Bk r
 | (_,.bool _) :: r=>Bk r
 | _=>false
def DH (H:Hp) (u:HO) (kvs:List (D × D)):Prop:=(Bk kvs=true∧u=dh0 kvs)∨∃ ks,u = .dK ks∧TVs H ks kvs
theorem DH.imp {H H':Hp} (h:∀ b xs,jG H b xs→jG H' b xs) {u:HO} {kvs:List (D × D)} (q:DH H u kvs):DH H' u kvs:=by
 rcases q with q | ⟨ks,q1,q2⟩
 ·exact .inl q
 ·exact .inr ⟨ks,q1,q2.imp h⟩
theorem DH.same {H H':Hp} {u:HO} {kvs:List (D × D)} (q:DH H u kvs) (e:Same H H'):DH H' u kvs:=q.imp fun _ _ h=>jG.same e h
theorem DH.upd {H:Hp} {a:Addr} {u o u':HO} [cu:Chg u] {kvs:List (D × D)} (q:DH H u' kvs) (h:H a=some u):DH (upd H a o) u' kvs:=q.imp fun _ _ z=>jG.upd h z
theorem DH.or {H:Hp} {u:HO} {kvs:List (D × D)} (q:DH H u kvs):(∃ ks,u = .dK ks)∨∃ ks,u = .dT ks:=by
 rcases q with ⟨_,rfl⟩ | ⟨ks,rfl,_⟩
 ·exact Ho kvs
 ·exact .inl ⟨ks,rfl⟩
theorem DH.chg {H:Hp} {u:HO} {kvs:List (D × D)} (q:DH H u kvs):Chg u:=⟨.inr q.or⟩
theorem DH.old {H:Hp} {u:HO} {kvs:List (D × D)} (q:DH H u kvs) (h:Bk kvs=true):u=dh0 kvs:=by
 rcases q with q | ⟨ks,rfl,q⟩
 ·exact q.2
 ·cases q with
  | nil=>rfl
  | cons t _ =>
   rcases t with ⟨_,rfl⟩ | ⟨_,_,_,rfl,_,_⟩ <;> cases h
mutual
inductive RA (K:PySem.W.Frag) (ok:Ok) (pl:Bool) (H:Hp):V→D→Prop
 | non:RA K ok pl H .non .none
 | bl (b:Bool):RA K ok pl H (.bl b) (.bool b)
 | int (i:Int):RA K ok pl H (.int i) (.int i)
 | str (x:Str):RA K ok pl H (.str x) (.str x)
 | lst {a:Addr} {xs:List V} {ds:List D}:H a=some (.lst xs)→ok a→RAs K ok pl H xs ds→RA K ok pl H (.ref a) (.list ds)
 | lsk {a:Addr} {xs:List V} {ds:List D}:SqK K H a xs→pl=true→RAs K ok pl H xs ds→RA K ok pl H (.ref a) (.list ds)
 | tup {a:Addr} {xs:List V} {ds:List D}:jG H a xs→RAs K ok pl H xs ds→RA K ok pl H (.ref a) (.tuple ds)
 | dic {a:Addr} {u:HO} {kvs:List (D × D)}:H a=some u→DH H u kvs→ok a→RA K ok pl H (.ref a) (.dict kvs)
 | dik {a:Addr} {u:HO} {kvs:List (D × D)} {o:Obj}:H a=some (.frz o u)→DH H u kvs→pl=true→RA K ok pl H (.ref a) (.dict kvs)
inductive RAs (K:PySem.W.Frag) (ok:Ok) (pl:Bool) (H:Hp):List V→List D→Prop
 | nil:RAs K ok pl H [] []
 | cons {v:V} {d:D} {vs:List V} {ds:List D}:RA K ok pl H v d→RAs K ok pl H vs ds→RAs K ok pl H (v :: vs) (d :: ds)
end
section
variable {K:PySem.W.Frag} {ok ok':Ok} {pl pl':Bool} {H H':Hp}
theorem RA.ind {P:V→D→Prop} {Q:List V→List D→Prop} (c1:P .non .none) (c2:∀ b,P (.bl b) (.bool b)) (c3:∀ i,P (.int i) (.int i)) (c4:∀ x,P (.str x) (.str x))
 (c5:∀ {a:Addr} {xs:List V} {ds:List D},H a=some (.lst xs)→ok a→Q xs ds→P (.ref a) (.list ds)) (c6:∀ {a:Addr} {xs:List V} {ds:List D},SqK K H a xs→pl=true→Q xs ds→P (.ref a) (.list ds)) (c7:∀ {a:Addr} {xs:List V} {ds:List D},jG H a xs→Q xs ds→P (.ref a) (.tuple ds))
 (c8:∀ {a:Addr} {u:HO} {kvs:List (D × D)},H a=some u→DH H u kvs→ok a→P (.ref a) (.dict kvs)) (c9:∀ {a:Addr} {u:HO} {kvs:List (D × D)} {o:Obj},H a=some (.frz o u)→DH H u kvs→pl=true→P (.ref a) (.dict kvs)) (c10:Q [] []) (c11:∀ {v:V} {d:D} {vs:List V} {ds:List D},P v d→Q vs ds→Q (v :: vs) (d :: ds)) :
 (∀ {v:V} {d:D},RA K ok pl H v d→P v d)∧∀ {v:List V} {d:List D},RAs K ok pl H v d→Q v d :=
 ⟨fun h=>RA.rec (motive_1:=fun v d _=>P v d) (motive_2:=fun v d _=>Q v d) c1 c2 c3 c4 (fun h o _ q=>c5 h o q) (fun h o _ q=>c6 h o q) (fun h _ q=>c7 h q) (fun h g o=>c8 h g o) (fun h g o=>c9 h g o) c10 (fun _ _ a q=>c11 a q) h,
  fun h=>RAs.rec (motive_1:=fun v d _=>P v d) (motive_2:=fun v d _=>Q v d) c1 c2 c3 c4 (fun h o _ q=>c5 h o q) (fun h o _ q=>c6 h o q) (fun h _ q=>c7 h q) (fun h g o=>c8 h g o) (fun h g o=>c9 h g o) c10 (fun _ _ a q=>c11 a q) h⟩
theorem RA.imp2 (ho:∀ a,ok a→ok' a) (hp:pl=true→pl'=true):(∀ {v:V} {d:D},RA K ok pl H v d→RA K ok' pl' H v d)∧∀ {v:List V} {d:List D},RAs K ok pl H v d→RAs K ok' pl' H v d :=
 RA.ind .non .bl .int .str (fun h o q=>.lst h (ho _ o) q) (fun h o q=>.lsk h (hp o) q) (fun h q=>.tup h q) (fun h g o=>.dic h g (ho _ o)) (fun h g o=>.dik h g (hp o)) .nil .cons
theorem RA.imp (ho:∀ a,ok a→ok' a) (hp:pl=true→pl'=true) {v:V} {d:D} (h:RA K ok pl H v d):RA K ok' pl' H v d:=(RA.imp2 ho hp).1 h
theorem RAs.imp (ho:∀ a,ok a→ok' a) (hp:pl=true→pl'=true) {v:List V} {d:List D} (h:RAs K ok pl H v d):RAs K ok' pl' H v d:=(RA.imp2 ho hp).2 h
theorem SqK.same {a:Addr} {xs:List V} (e:Same H H') (h:SqK K H a xs):SqK K H' a xs:=by
 rcases h with ⟨o,h⟩ | h
 ·exact .inl ⟨o,e _ _ h⟩
 ·exact .inr h
theorem RA.same2 (e:Same H H'):(∀ {v:V} {d:D},RA K ok pl H v d→RA K ok pl H' v d)∧∀ {v:List V} {d:List D},RAs K ok pl H v d→RAs K ok pl H' v d :=
 RA.ind .non .bl .int .str (fun h o q=>.lst (e _ _ h) o q) (fun h o q=>.lsk (h.same e) o q) (fun h q=>.tup (jG.same e h) q) (fun h g o=>.dic (e _ _ h) (g.same e) o) (fun h g o=>.dik (e _ _ h) (g.same e) o) .nil .cons
theorem RA.same (e:Same H H') {v:V} {d:D} (h:RA K ok pl H v d):RA K ok pl H' v d:=(RA.same2 e).1 h
theorem RAs.same (e:Same H H') {v:List V} {d:List D} (h:RAs K ok pl H v d):RAs K ok pl H' v d:=(RA.same2 e).2 h
theorem RA.flat2:(∀ {v:V} {d:D},RA K ok pl H v d→flat d=true→RA K ok' pl' H v d)∧∀ {v:List V} {d:List D},RAs K ok pl H v d→flats d=true→RAs K ok' pl' H v d :=
 RA.ind (fun _=>.non) (fun b _=>.bl b) (fun i _=>.int i) (fun x _=>.str x) (fun _ _ _ h=>by simp [D3.flat] at h) (fun _ _ _ h=>by simp [D3.flat] at h) (fun t q h=>.tup t (q (by simpa [D3.flat] using h))) (fun _ _ _ h=>by simp [D3.flat] at h) (fun _ _ _ h=>by simp [D3.flat] at h) (fun _=>.nil) fun a q h=>by
  rw [flats,aM] at h
  exact .cons (a h.1) (q h.2)
theorem RA.flat {v:V} {d:D} (hf:flat d=true) (h:RA K ok pl H v d):RA K ok' pl' H v d:=RA.flat2.1 h hf
theorem RAs.flat {v:List V} {d:List D} (hf:flats d=true) (h:RAs K ok pl H v d):RAs K ok' pl' H v d:=RA.flat2.2 h hf
theorem SqK.upd {a b:Addr} {xs:List V} {u o:HO} [cu:Chg u] (h:H a=some u) (q:SqK K H b xs):SqK K (upd H a o) b xs:=by
 rcases q with ⟨o',q⟩ | q
 ·refine .inl ⟨o',?_⟩
  rw [cC (CV q h (by intro z;subst z;first | exact cu.frz | exact cu.tup))]
  exact q
 ·exact .inr q
theorem RA.upd2 {a:Addr} {u o:HO} [cu:Chg u] (h:H a=some u) (na:¬ ok a):(∀ {v:V} {d:D},RA K ok pl H v d→RA K ok pl (upd H a o) v d)∧∀ {v:List V} {d:List D},RAs K ok pl H v d→RAs K ok pl (upd H a o) v d :=
 RA.ind .non .bl .int .str (fun e k q=>.lst (by rw [cC (by intro z;subst z;exact na k)];exact e) k q) (fun e k q=>.lsk (e.upd h) k q) (fun e q=>.tup (jG.upd h e) q) (fun e g k=>.dic (by rw [cC (by intro z;subst z;exact na k)];exact e) (g.upd h) k) (fun e g k=>.dik (by rw [cC (CV e h (by intro z;subst z;exact cu.frz))];exact e) (g.upd h) k) .nil .cons
theorem RA.upd {a:Addr} {u o:HO} [cu:Chg u] (h:H a=some u) (na:¬ ok a) {v:V} {d:D} (r:RA K ok pl H v d):RA K ok pl (upd H a o) v d:=(RA.upd2 h na).1 r
theorem RAs.upd {a:Addr} {u o:HO} [cu:Chg u] (h:H a=some u) (na:¬ ok a) {v:List V} {d:List D} (r:RAs K ok pl H v d):RAs K ok pl (upd H a o) v d:=(RA.upd2 h na).2 r
theorem RA.track2:(∀ {v:V} {d:D},RA K ok pl H v d→RA K (fun b=>ok b∧H b ≠ none) pl H v d)∧∀ {v:List V} {d:List D},RAs K ok pl H v d→RAs K (fun b=>ok b∧H b ≠ none) pl H v d :=
 RA.ind .non .bl .int .str (fun e k q=>.lst e ⟨k,by rw [e];simp⟩ q) (fun e k q=>.lsk e k q) (fun e q=>.tup e q) (fun e g k=>.dic e g ⟨k,by rw [e];simp⟩) (fun e g k=>.dik e g k) .nil .cons
theorem RA.track {v:V} {d:D} (h:RA K ok pl H v d):RA K (fun b=>ok b∧H b ≠ none) pl H v d:=RA.track2.1 h
theorem RAs.track {v:List V} {d:List D} (h:RAs K ok pl H v d):RAs K (fun b=>ok b∧H b ≠ none) pl H v d:=RA.track2.2 h
theorem RAs.length:∀ {v:List V} {d:List D},RAs K ok pl H v d→v.length=d.length
 | _,_,.nil=>rfl
 | _,_,.cons _ q=>by simp [RAs.length q]
theorem RAs.get:∀ {v:List V} {d:List D} {i:Nat} {x:D},RAs K ok pl H v d→d[i]? = some x→∃ y,v[i]? = some y∧RA K ok pl H y x
 | _,_,_,_,.nil,h=>by simp at h
 | _,_,0,_,.cons a _,h=>by simp at h;subst h;exact ⟨_,rfl,a⟩
 | _,_,i + 1,_,.cons _ q,h=>by
  obtain ⟨y,e,r⟩:=RAs.get (i:=i) q (by simpa using h)
  exact ⟨y,by simpa using e,r⟩
theorem RAs.append:∀ {v v':List V} {d d':List D},RAs K ok pl H v d→RAs K ok pl H v' d'→RAs K ok pl H (v++v') (d++d')
 | _,_,_,_,.nil,q=>q
 | _,_,_,_,.cons a r,q=>.cons a (RAs.append r q)
theorem RAs.set {x:V} {y:D} (r:RA K ok pl H x y):∀ {v:List V} {d:List D} (i:Nat),RAs K ok pl H v d→RAs K ok pl H (v.set i x) (d.set i y)
 | _,_,_,.nil=>.nil
 | _,_,0,.cons _ q=>.cons r q
 | _,_,i + 1,.cons a q=>.cons a (RAs.set r i q)
theorem RAs.take:∀ {v:List V} {d:List D} (n:Nat),RAs K ok pl H v d→RAs K ok pl H (v.take n) (d.take n)
 | _,_,0,_=>by simp;exact .nil
 | _,_,_ + 1,.nil=>.nil
 | _,_,n + 1,.cons a q=>.cons a (RAs.take n q)
theorem RAs.drop:∀ {v:List V} {d:List D} (n:Nat),RAs K ok pl H v d→RAs K ok pl H (v.drop n) (d.drop n)
 | _,_,0,q=>q
 | _,_,_ + 1,.nil=>.nil
 | _,_,n + 1,.cons _ q=>RAs.drop n q
theorem RA.rd2:(∀ {v:V} {d:D},RA K ok pl H v d→d.canLay0=true→RdV K H v d)∧∀ {v:List V} {d:List D},RAs K ok pl H v d→PyData.canLayAll0 d=true→RdVs K H v d :=
 RA.ind (fun _=>.non) (fun b _=>.bl b) (fun i _=>.int i) (fun x _=>.str x) (fun e _ q h=>.lst (SqL.of e) (q (by simpa [PyData.canLay0] using h))) (fun e _ q h=>.lst e.sq (q (by simpa [PyData.canLay0] using h))) (fun e q h=>.tup e.sq (q (by simpa [PyData.canLay0] using h))) (fun _ _ _ h=>by simp [PyData.canLay0] at h) (fun _ _ _ h=>by simp [PyData.canLay0] at h) (fun _=>.nil) fun a q h=>by
  rw [PyData.canLayAll0,aM] at h
  exact .cons (a h.1) (q h.2)
theorem RA.rd {v:V} {d:D} (hf:d.canLay0=true) (h:RA K ok pl H v d):RdV K H v d:=RA.rd2.1 h hf
theorem RA.intE {v:V} {i:Int} (h:RA K ok pl H v (.int i)):v = .int i:=by cases h;rfl
theorem RA.blE {v:V} {b:Bool} (h:RA K ok pl H v (.bool b)):v = .bl b:=by cases h;rfl
theorem RA.nonE {v:V} (h:RA K ok pl H v .none):v = .non:=by cases h;rfl
theorem RA.lstE {v:V} {ds:List D} (h:RA K ok pl H v (.list ds)):∃ a xs,v = .ref a∧SqL K H a xs∧RAs K ok pl H xs ds:=by
 cases h with
 | lst e k q=>exact ⟨_,_,rfl,SqL.of e,q⟩
 | lsk e k q=>exact ⟨_,_,rfl,e.sq,q⟩
theorem RA.dicU {v:V} {kvs:List (D × D)} (h:RA K ok pl H v (.dict kvs)):∃ a u,v = .ref a∧L2.Rd H a u∧DH H u kvs:=by
 cases h with
 | dic e g k=>exact ⟨_,_,rfl,.inl e,g⟩
 | dik e g k=>exact ⟨_,_,rfl,.inr ⟨_,e⟩,g⟩
theorem RA.dicE {v:V} {kvs:List (D × D)} (h:RA K ok pl H v (.dict kvs)) (ho:Bk kvs=true):∃ a,v = .ref a∧L2.Rd H a (dh0 kvs):=by
 obtain ⟨a,u,h1,h2,h3⟩:=h.dicU
 rw [h3.old ho] at h2
 exact ⟨a,h1,h2⟩
theorem RA.tupE {v:V} {ds:List D} (h:RA K ok pl H v (.tuple ds)):∃ a xs,v = .ref a∧SqT K H a xs∧RAs K ok pl H xs ds:=by
 cases h with
 | tup e q=>exact ⟨_,_,rfl,e.sq,q⟩
theorem RA.tupE0 {v:V} {ds:List D} (h:RA K ok pl H v (.tuple ds)):∃ a xs,v = .ref a∧jG H a xs∧RAs K ok pl H xs ds:=by
 cases h with
 | tup e q=>exact ⟨_,_,rfl,e,q⟩
end
inductive Fl where
 | A
 | O
 | L
 | N
 | M
 deriving DecidableEq
def isN:Option Fl→Bool
 | some .N=>true
 | some .M=>true
 | _=>false
mutual
inductive RT (K:PySem.W.Frag) (H:Hp):V→D→List Addr→Prop
 | non:RT K H .non .none []
 | bl (b:Bool):RT K H (.bl b) (.bool b) []
 | int (i:Int):RT K H (.int i) (.int i) []
 | str (x:Str):RT K H (.str x) (.str x) []
 | lst {a:Addr} {xs:List V} {ds:List D} {as:List Addr}:H a=some (.lst xs)→RTs K H xs ds as→RT K H (.ref a) (.list ds) (a :: as)
 | tup {a:Addr} {xs:List V} {ds:List D} {as:List Addr}:jG H a xs→RTs K H xs ds as→RT K H (.ref a) (.tuple ds) as
 | dic {a:Addr} {u:HO} {kvs:List (D × D)}:H a=some u→DH H u kvs→RT K H (.ref a) (.dict kvs) [a]
inductive RTs (K:PySem.W.Frag) (H:Hp):List V→List D→List Addr→Prop
 | nil:RTs K H [] [] []
 | cons {v:V} {d:D} {vs:List V} {ds:List D} {as bs:List Addr}:RT K H v d as→RTs K H vs ds bs→RTs K H (v :: vs) (d :: ds) (as++bs)
end
section
variable {K:PySem.W.Frag} {H H':Hp}
theorem RT.ind {P:V→D→List Addr→Prop} {Q:List V→List D→List Addr→Prop} (c1:P .non .none []) (c2:∀ b,P (.bl b) (.bool b) []) (c3:∀ i,P (.int i) (.int i) []) (c4:∀ x,P (.str x) (.str x) [])
 (c5:∀ {a:Addr} {xs:List V} {ds:List D} {as:List Addr},H a=some (.lst xs)→Q xs ds as→P (.ref a) (.list ds) (a :: as)) (c7:∀ {a:Addr} {xs:List V} {ds:List D} {as:List Addr},jG H a xs→Q xs ds as→P (.ref a) (.tuple ds) as)
 (c8:∀ {a:Addr} {u:HO} {kvs:List (D × D)},H a=some u→DH H u kvs→P (.ref a) (.dict kvs) [a]) (c10:Q [] [] []) (c11:∀ {v:V} {d:D} {vs:List V} {ds:List D} {as bs:List Addr},P v d as→Q vs ds bs→Q (v :: vs) (d :: ds) (as++bs)) :
 (∀ {v:V} {d:D} {as:List Addr},RT K H v d as→P v d as)∧∀ {v:List V} {d:List D} {as:List Addr},RTs K H v d as→Q v d as :=
 ⟨fun h=>RT.rec (motive_1:=fun v d as _=>P v d as) (motive_2:=fun v d as _=>Q v d as) c1 c2 c3 c4 (fun h _ q=>c5 h q) (fun h _ q=>c7 h q) (fun h g=>c8 h g) c10 (fun _ _ a q=>c11 a q) h,
  fun h=>RTs.rec (motive_1:=fun v d as _=>P v d as) (motive_2:=fun v d as _=>Q v d as) c1 c2 c3 c4 (fun h _ q=>c5 h q) (fun h _ q=>c7 h q) (fun h g=>c8 h g) c10 (fun _ _ a q=>c11 a q) h⟩
theorem RT.ra2 {ok:Ok} {pl:Bool}:(∀ {v:V} {d:D} {as:List Addr},RT K H v d as→(∀ a ∈ as,ok a)→RA K ok pl H v d)∧∀ {v:List V} {d:List D} {as:List Addr},RTs K H v d as→(∀ a ∈ as,ok a)→RAs K ok pl H v d :=
 RT.ind (fun _=>.non) (fun b _=>.bl b) (fun i _=>.int i) (fun x _=>.str x) (fun e q h=>.lst e (h _ aN) (q fun a ha=>h a (aO _ ha))) (fun e q h=>.tup e (q h)) (fun e g h=>.dic e g (h _ aN)) (fun _=>.nil) fun e q h=>.cons (e fun a ha=>h a (aW _ ha)) (q fun a ha=>h a (aP _ ha))
theorem RT.ra {ok:Ok} {pl:Bool} {v:V} {d:D} {as:List Addr} (r:RT K H v d as) (h:∀ a ∈ as,ok a):RA K ok pl H v d:=RT.ra2.1 r h
theorem RT.same2 (s:Same H H'):(∀ {v:V} {d:D} {as:List Addr},RT K H v d as→RT K H' v d as)∧∀ {v:List V} {d:List D} {as:List Addr},RTs K H v d as→RTs K H' v d as :=
 RT.ind .non .bl .int .str (fun e q=>.lst (s _ _ e) q) (fun e q=>.tup (jG.same s e) q) (fun e g=>.dic (s _ _ e) (g.same s)) .nil .cons
theorem RT.same (s:Same H H') {v:V} {d:D} {as:List Addr} (h:RT K H v d as):RT K H' v d as:=(RT.same2 s).1 h
theorem RT.upd2 {a:Addr} {u o:HO} [cu:Chg u] (h:H a=some u):(∀ {v:V} {d:D} {as:List Addr},RT K H v d as→a ∉ as→RT K (upd H a o) v d as)∧∀ {v:List V} {d:List D} {as:List Addr},RTs K H v d as→a ∉ as→RTs K (upd H a o) v d as :=
 RT.ind (fun _=>.non) (fun b _=>.bl b) (fun i _=>.int i) (fun x _=>.str x) (fun e q na=>.lst (by rw [cC (fun z=>na (by rw [← z];exact aN))];exact e) (q fun z=>na (aO _ z))) (fun e q na=>.tup (jG.upd h e) (q na)) (fun e g na=>.dic (by rw [cC (fun z=>na (by rw [← z];exact aN))];exact e) (g.upd h)) (fun _=>.nil) fun e q na=>.cons (e fun z=>na (aW _ z)) (q fun z=>na (aP _ z))
theorem RT.upd {a:Addr} {u o:HO} [cu:Chg u] (h:H a=some u) {v:V} {d:D} {as:List Addr} (na:a ∉ as) (r:RT K H v d as):RT K (upd H a o) v d as:=(RT.upd2 h).1 r na
theorem RT.chd2:(∀ {v:V} {d:D} {as:List Addr},RT K H v d as→∀ a ∈ as,Chd (H a))∧∀ {v:List V} {d:List D} {as:List Addr},RTs K H v d as→∀ a ∈ as,Chd (H a) :=
 RT.ind (fun _ h=>by cases h) (fun _ _ h=>by cases h) (fun _ _ h=>by cases h) (fun _ _ h=>by cases h) (fun e q a h=>by
  rcases bH.mp h with rfl | z
  ·exact ⟨_,e,inferInstance⟩
  ·exact q a z) (fun _ q=>q) (fun e g a h=>by rw [aK.mp h];exact ⟨_,e,g.chg⟩) (fun _ h=>by cases h) fun e q a h=>by
  rcases aV.mp h with z | z
  ·exact e a z
  ·exact q a z
theorem RT.chd {v:V} {d:D} {as:List Addr} (r:RT K H v d as):∀ a ∈ as,Chd (H a):=RT.chd2.1 r
theorem RTs.chd {v:List V} {d:List D} {as:List Addr} (r:RTs K H v d as):∀ a ∈ as,Chd (H a):=RT.chd2.2 r
theorem RT.tracked {v:V} {d:D} {as:List Addr} (h:RT K H v d as) (a:Addr) (ha:a ∈ as):H a ≠ none:=(h.chd a ha).ne
theorem RA.rt2 {ok:Ok}:(∀ {v:V} {d:D},RA K ok false H v d→∃ as,RT K H v d as∧as.length=nl d∧∀ a ∈ as,ok a)∧∀ {v:List V} {d:List D},RAs K ok false H v d→∃ as,RTs K H v d as∧as.length=nls d∧∀ a ∈ as,ok a :=
 RA.ind ⟨[],.non,rfl,fun _ h=>by cases h⟩ (fun b=>⟨[],.bl b,rfl,fun _ h=>by cases h⟩) (fun i=>⟨[],.int i,rfl,fun _ h=>by cases h⟩) (fun x=>⟨[],.str x,rfl,fun _ h=>by cases h⟩) (fun e k q=>by
  obtain ⟨as,h1,h2,h3⟩:=q
  refine ⟨_ :: as,.lst e h1,by rw [bM,h2,nl],fun a ha=>?_⟩
  rcases bH.mp ha with rfl | z
  ·exact k
  ·exact h3 a z) (fun _ k _=>by cases k) (fun e q=>by
  obtain ⟨as,h1,h2,h3⟩:=q
  exact ⟨as,.tup e h1,by rw [h2,nl],h3⟩) (fun e g k=>⟨[_],.dic e g,by simp [nl],fun a ha=>by rw [aK.mp ha];exact k⟩) (fun _ _ k=>by cases k) ⟨[],.nil,rfl,fun _ h=>by cases h⟩ fun e q=>by
  obtain ⟨as,h1,h2,h3⟩:=e
  obtain ⟨bs,g1,g2,g3⟩:=q
  refine ⟨as++bs,.cons h1 g1,by rw [bQ,h2,g2,nls],fun a ha=>?_⟩
  rcases aV.mp ha with z | z
  ·exact h3 a z
  ·exact g3 a z
theorem RA.rt {ok:Ok} {v:V} {d:D} (h:RA K ok false H v d):∃ as,RT K H v d as∧as.length=nl d∧∀ a ∈ as,ok a:=RA.rt2.1 h
end
def tabs:List (Addr × Str × Pos):=[(187, "still_to_come.<locals>.<lambda>", ⟨70,30,70,59⟩)]
def Tb (H:Hp):Prop:=∀ t ∈ tabs,H t.1=some (.tbl t.2.1 t.2.2)
theorem Tb.same {H H':Hp} (t:Tb H) (s:Same H H'):Tb H':=fun x hx=>s _ _ (t x hx)
structure Gh where
 H0:Hp
 HF:Hp
 pk:Nat→Option Addr
 pn:Nat→List Addr
 tb:Tb H0
structure Ow where
 s:Nat→Option Addr
 n:Nat→List Addr:=fun _=>[]
instance:CoeFun Ow (fun _=>Nat→Option Addr):=⟨Ow.s⟩
abbrev ow0:Ow:=⟨fun _=>none,fun _=>[]⟩
def okA (ow:Ow):Ok:=fun a=>(∀ i,ow i ≠ some a)∧∀ i,a ∉ ow.n i
structure Rel (K:PySem.W.Frag) (fl:List Fl) (G:Gh) (ow:Ow) (σ:St) (H:Hp) (δ:DS):Prop where
 s0:Same G.H0 G.HF
 s1:Same G.HF H
 len:σ.length=δ.length
 own:∀ i a,ow i=some a→G.H0 a=none∧((fl[i]? = some .O∧G.HF a=none)∨(fl[i]? = some .L∧∃ xs,G.HF a=some (.lst xs))) ∧
  ∃ xs ds,σ[i]? = some (some (.ref a))∧H a=some (.lst xs)∧RAs K (okA ow) true H xs ds∧δ[i]? = some (some (.d (.list ds)))
 inj:∀ i j a,ow i=some a→ow j=some a→i=j
 pin:∀ i,fl[i]? = some .L→ow i=G.pk i
 dat:∀ i d,δ[i]? = some (some (.d d))→isN fl[i]? = false→ow i=none→∃ v,σ[i]? = some (some v)∧RA K (okA ow) true H v d
 oo:∀ i d,δ[i]? = some (some (.d d))→isN fl[i]? = false→fl[i]? ≠ some .A→ow i=none→flat d=true
 nt:∀ i a,a ∈ ow.n i→G.H0 a=none∧Chd (H a)∧((fl[i]? = some .N∧G.HF a=none)∨fl[i]? = some .M)
 nd:∀ i j a,a ∈ ow.n i→a ∈ ow.n j→i=j
 ns:∀ i j a,a ∈ ow.n i→ow j ≠ some a
 np:∀ i,fl[i]? = some .M→ow.n i=G.pn i
 nr:∀ i d,isN fl[i]? = true→δ[i]? = some (some (.d d))→∃ v,σ[i]? = some (some v)∧RT K H v d (ow.n i)∧(ow.n i).Nodup
theorem Rel.tb {K:PySem.W.Frag} {fl:List Fl} {G:Gh} {ow:Ow} {σ:St} {H:Hp} {δ:DS} (R:Rel K fl G ow σ H δ):Tb H:=G.tb.same (R.s0.trans R.s1)
theorem Rel.same0 {K:PySem.W.Frag} {fl:List Fl} {G:Gh} {ow:Ow} {σ:St} {H:Hp} {δ:DS} (R:Rel K fl G ow σ H δ):Same G.H0 H:=R.s0.trans R.s1
theorem Rel.grow {K:PySem.W.Frag} {fl:List Fl} {G:Gh} {ow:Ow} {σ:St} {H H':Hp} {δ:DS} (R:Rel K fl G ow σ H δ) (e:Same H H'):Rel K fl G ow σ H' δ :=
 ⟨R.s0,R.s1.trans e,R.len,fun i a h=>by
  obtain ⟨h0,hf,xs,ds,h1,h2,h3,h4⟩:=R.own i a h
  exact ⟨h0,hf,xs,ds,h1,e _ _ h2,h3.same e,h4⟩,R.inj,R.pin,fun i d h1 hn h2=>by
  obtain ⟨v,h3,h4⟩:=R.dat i d h1 hn h2
  exact ⟨v,h3,h4.same e⟩,R.oo,fun i a h=>by
  obtain ⟨h1,h2,h3⟩:=R.nt i a h
  exact ⟨h1,(let ⟨u,z,c⟩:=h2;⟨u,e _ _ z,c⟩),h3⟩,R.nd,R.ns,R.np,fun i d h1 h2=>by
  obtain ⟨v,h3,h4,h5⟩:=R.nr i d h1 h2
  exact ⟨v,h3,h4.same e,h5⟩⟩
inductive Kd where
 | P
 | B (L:List Nat)
 | A
 | R
 | F
 | C
 | FC
 | T
def ok1:Ok:=fun _=>True
def ok0:Ok:=fun _=>False
def okN (H:Hp):Ok:=fun a=>H a=none
def Rs (K:PySem.W.Frag) (H0:Hp) (ow:Ow) (Hb H:Hp):Kd→V→D→Prop
 | .P,v,d=>RA K ok1 true H v d
 | .B L,v,d=>RA K (okA ow) true H v d∨∃ i ∈ L,∃ a xs ds,ow i=some a∧v = .ref a∧d = .list ds∧H a=some (.lst xs)∧RAs K (okA ow) true H xs ds
 | .A,v,d=>RA K (okA ow) true H v d
 | .R,v,d=>RA K (okN H0) false H v d
 | .F,v,d=>(flat d=true∧RA K ok0 false H v d)∨∃ a xs ds,v = .ref a∧d = .list ds∧Hb a=none∧H a=some (.lst xs)∧RAs K (fun b=>okA ow b∧b ≠ a) true H xs ds
 | .C,v,d=>RA K (okN Hb) false H v d
 | .T,v,d=>∃ as,RT K H v d as∧as.Nodup∧∀ a ∈ as,Hb a=none
 | .FC,v,d=>(flat d=true∧RA K ok0 false H v d)∨∃ a xs ds,v = .ref a∧d = .list ds∧Hb a=none∧H a=some (.lst xs)∧RAs K (fun b=>okN Hb b∧b ≠ a) false H xs ds
section
variable {K:PySem.W.Frag} {Hb H H':Hp} {fl:List Fl} {G:Gh} {ow:Ow} {σ:St} {δ:DS} {v:V} {d:D}
theorem xO (R:Rel K fl G ow σ Hb δ) {a:Addr} (h:Hb a=none):okA ow a:=⟨fun i e=>(by
 obtain ⟨_,_,xs,_,_,h2,_⟩:=R.own i a e
 rw [h] at h2
 cases h2),fun i e=>(R.nt i a e).2.1.ne h⟩
theorem Sv (R:Rel K fl G ow σ Hb δ) {a:Addr} (h:Hb a=none):okN G.H0 a:=R.same0.free h
theorem Rs.FC_F (R:Rel K fl G ow σ Hb δ) (h:Rs K G.H0 ow Hb H .FC v d):Rs K G.H0 ow Hb H .F v d:=by
 rcases h with h | ⟨a,xs,ds,h1,h2,h3,h4,h5⟩
 ·exact .inl h
 ·exact .inr ⟨a,xs,ds,h1,h2,h3,h4,h5.imp (fun b z=>⟨xO R z.1,z.2⟩) (fun _=>rfl)⟩
theorem Rs.FC_C (h:Rs K G.H0 ow Hb H .FC v d):Rs K G.H0 ow Hb H .C v d:=by
 rcases h with h | ⟨a,xs,ds,rfl,rfl,h3,h4,h5⟩
 ·exact RA.flat h.1 h.2
 ·exact .lst h4 h3 (h5.imp (fun b z=>z.1) (fun z=>z))
theorem Rs.F_A (R:Rel K fl G ow σ Hb δ) (h:Rs K G.H0 ow Hb H .F v d):Rs K G.H0 ow Hb H .A v d:=by
 rcases h with h | ⟨a,xs,ds,rfl,rfl,h3,h4,h5⟩
 ·exact RA.flat h.1 h.2
 ·exact .lst h4 (xO R h3) (h5.imp (fun b z=>z.1) (fun z=>z))
theorem Rs.C_A (R:Rel K fl G ow σ Hb δ) (h:Rs K G.H0 ow Hb H .C v d):Rs K G.H0 ow Hb H .A v d:=RA.imp (fun _ z=>xO R z) (fun _=>rfl) h
theorem Rs.C_R (R:Rel K fl G ow σ Hb δ) (h:Rs K G.H0 ow Hb H .C v d):Rs K G.H0 ow Hb H .R v d:=RA.imp (fun _ z=>Sv R z) (fun z=>z) h
theorem Rs.A_B (L:List Nat) (h:Rs K G.H0 ow Hb H .A v d):Rs K G.H0 ow Hb H (.B L) v d:=.inl h
theorem Rs.B_P {L:List Nat} (h:Rs K G.H0 ow Hb H (.B L) v d):Rs K G.H0 ow Hb H .P v d:=by
 rcases h with h | ⟨i,_,a,xs,ds,_,rfl,rfl,h4,h5⟩
 ·exact RA.imp (fun _ _=>trivial) (fun z=>z) h
 ·exact .lst h4 trivial (h5.imp (fun _ _=>trivial) (fun z=>z))
theorem Rs.P_flat (hf:flat d=true) (h:Rs K G.H0 ow Hb H .P v d):Rs K G.H0 ow Hb H .FC v d:=.inl ⟨hf,RA.flat hf h⟩
theorem Rs.C_fl1 (hf:fl1 d=true) (h:Rs K G.H0 ow Hb H .C v d):Rs K G.H0 ow Hb H .FC v d:=by
 by_cases e:∃ ds,d = .list ds
 ·obtain ⟨ds,rfl⟩:=e
  cases h with
  | lst e k q=>exact .inr ⟨_,_,_,rfl,rfl,k,e,RAs.flat hf q⟩
  | lsk e k q=>cases k
 ·have hf':flat d=true:=by
   cases d <;> first | exact hf | exact absurd ⟨_,rfl⟩ e
  exact .inl ⟨hf',RA.flat hf' h⟩
end
def tD (K:PySem.W.Frag) (fl:List Fl) (k:Kd) (f:FE):TE:=fun σ H Q=>∃ G ow δ d,Rel K fl G ow σ H δ∧f δ=some d∧∀ v H',Same H H'→Rs K G.H0 ow H H' k v d→Q v H'
abbrev DE (X:Cx) (fl:List Fl) (k:Kd) (e:Expr) (f:FE):Prop:=PE X e (tD X.K fl k f)
def tDA (K:PySem.W.Frag) (fl:List Fl) (f:FA):TA:=fun σ H Q=>∃ G ow δ ds,Rel K fl G ow σ H δ∧f δ=some ds∧∀ vs H',Same H H'→RAs K ok1 true H' vs ds→Q vs H'
abbrev DA (X:Cx) (fl:List Fl) (es:List Expr) (f:FA):Prop:=PA X es (tDA X.K fl f)
def tDT (K:PySem.W.Frag) (fl:List Fl) (f:FT):TT:=fun σ H Q=>∃ G ow δ b,Rel K fl G ow σ H δ∧f δ=some b∧∀ H',Same H H'→Q b H'
abbrev DT (X:Cx) (fl:List Fl) (e:Expr) (f:FT):Prop:=PT X e (tDT X.K fl f)
abbrev DW (X:Cx) (fl:List Fl) (e:Expr) (f:FT):Prop:=PW X e (tDT X.K fl f)
def Bm (K:PySem.W.Frag) (fl:List Fl) (G:Gh) (Dn:Ends):Oc→Prop
 | .nx δ'=>∀ ow' σ' H',Rel K fl G ow' σ' H' δ'→Dn.nx σ' H'
 | .rt d=>∀ v H',Same G.H0 H'→RA K (okN G.H0) false H' v d→Dn.rt v H'
 | .bk δ'=>∀ ow' σ' H',Rel K fl G ow' σ' H' δ'→Dn.bk σ' H'
 | .ct δ'=>∀ ow' σ' H',Rel K fl G ow' σ' H' δ'→Dn.ct σ' H'
 | .ex _ _ d=>∀ v H',Same G.H0 H'→RA K ok1 true H' v d→Dn.rt v H'
def tDS (K:PySem.W.Frag) (fl:List Fl) (f:FS):TS:=fun Dn σ H=>∃ G ow δ o,Rel K fl G ow σ H δ∧f δ=some o∧Bm K fl G Dn o
abbrev DS1 (X:Cx) (fl:List Fl) (s:Stmt) (f:FS):Prop:=PS X s (tDS X.K fl f)
abbrev DSs (X:Cx) (fl:List Fl) (s:List Stmt) (f:FS):Prop:=PSs X s (tDS X.K fl f)
def tDG (K:PySem.W.Frag) (fl:List Fl) (tg:List Nat) (g:FG):TG:=fun v σ H Q=>∃ G ow δ d δ',Rel K fl G ow σ H δ∧RA K (okA ow) true H v d∧g d δ=some δ'∧∀ σ',Rel K fl G ow σ' H δ'→(∀ j,j ∉ tg→σ'[j]? = σ[j]?)→Q σ' H
abbrev DG (X:Cx) (fl:List Fl) (tg:List Nat) (e:Expr) (g:FG):Prop:=PG X e (tDG X.K fl tg g)
section
variable {X:Cx} {e:Expr} {es:List Expr} {st:Stmt} {sts:List Stmt}
theorem PE.imp {t t':TE} (h:PE X e t) (i:∀ σ H Q,t' σ H Q→t σ H Q):PE X e t':=fun pins s σ H Q I q=>h pins s σ H Q I (i σ H Q q)
theorem PT.imp {t t':TT} (h:PT X e t) (i:∀ σ H Q,t' σ H Q→t σ H Q):PT X e t':=fun pins s σ H Q I q=>h pins s σ H Q I (i σ H Q q)
theorem PW.imp {t t':TT} (h:PW X e t) (i:∀ σ H Q,t' σ H Q→t σ H Q):PW X e t':=fun w pins s σ H Q I q=>h w pins s σ H Q I (i σ H Q q)
theorem PA.imp {t t':TA} (h:PA X es t) (i:∀ σ H Q,t' σ H Q→t σ H Q):PA X es t':=fun p pins s σ H Q I q=>h p pins s σ H Q I (i σ H Q q)
theorem PS.imp {t t':TS} (h:PS X st t) (i:∀ D σ H,t' D σ H→t D σ H):PS X st t':=fun pins s σ H D I q=>h pins s σ H D I (i D σ H q)
theorem PSs.imp {t t':TS} (h:PSs X sts t) (i:∀ D σ H,t' D σ H→t D σ H):PSs X sts t':=fun pins s σ H D I q=>h pins s σ H D I (i D σ H q)
theorem PG.imp {t t':TG} (h:PG X e t) (i:∀ v σ H Q,t' v σ H Q→t v σ H Q):PG X e t':=fun pins s σ H v u Q I r q=>h pins s σ H v u Q I r (i v σ H Q q)
end
end D3
namespace D3
open PySem PySem.Spec PyProof.Rows L2 My
section
variable {X:Cx} {fl:List Fl} {e a b c:Expr} {es:List Expr} {k:Kd} {f fa fb fc:FE} {pos:Pos}
theorem lD {i:Nat} {δ:DS} {d:D} (h:aF i δ=some d):δ[i]? = some (some (.d d)):=by
 unfold aF at h
 split at h
 ·next x e=>rw [e];cases h;rfl
 ·cases h
theorem jO (i:Nat) {x:Str} (hN:X.N[i]? = some x:=by rfl) (hv:Vis X.env.scope x:=by first | exact Or.inl rfl | exact Or.inr (Or.inl rfl) | exact Or.inr (Or.inr rfl)) (hd:(x == ("__debug__" : Str))=false:=by decide)
 (hcd:(x == ("__classdict__" : Str))=false:=by decide) (hn:isN fl[i]? = false:=by rfl):DE X fl (.B [i]) (.Name x pos) (aF i):=by
 refine PE.imp (mY hN hv hd hcd) fun σ H Q h=>?_
 obtain ⟨G,ow,δ,d,R,hf,q⟩:=h
 have e:=lD hf
 cases ho:ow i with
 | none =>
  obtain ⟨v,h1,h2⟩:=R.dat i d e hn ho
  exact ⟨v,h1,q v H (Same.refl H) (.inl h2)⟩
 | some a =>
  obtain ⟨h0,_,xs,ds,h1,h2,h3,h4⟩:=R.own i a ho
  rw [e] at h4
  cases h4
  exact ⟨_,h1,q _ H (Same.refl H) (.inr ⟨i,aK.mpr rfl,a,xs,ds,ho,rfl,rfl,h2,h3⟩)⟩
theorem xP (i:Nat) (hfl:fl[i]? = some .A) {x:Str} (hN:X.N[i]? = some x:=by rfl) (hv:Vis X.env.scope x:=by first | exact Or.inl rfl | exact Or.inr (Or.inl rfl) | exact Or.inr (Or.inr rfl)) (hd:(x == ("__debug__" : Str))=false:=by decide)
 (hcd:(x == ("__classdict__" : Str))=false:=by decide):DE X fl .A (.Name x pos) (aF i):=by
 refine PE.imp (mY hN hv hd hcd) fun σ H Q h=>?_
 obtain ⟨G,ow,δ,d,R,hf,q⟩:=h
 have e:=lD hf
 cases ho:ow i with
 | none =>
  obtain ⟨v,h1,h2⟩:=R.dat i d e (by rw [hfl];rfl) ho
  exact ⟨v,h1,q v H (Same.refl H) h2⟩
 | some a =>
  obtain ⟨h0,hz,_⟩:=R.own i a ho
  rw [hfl] at hz
  rcases hz with ⟨z,_⟩ | ⟨z,_⟩ <;> cases z
theorem mQ (i:Nat) (hfl:fl[i]? ≠ some .A) {x:Str} (hN:X.N[i]? = some x:=by rfl) (hv:Vis X.env.scope x:=by first | exact Or.inl rfl | exact Or.inr (Or.inl rfl) | exact Or.inr (Or.inr rfl)) (hd:(x == ("__debug__" : Str))=false:=by decide)
 (hcd:(x == ("__classdict__" : Str))=false:=by decide) (hn:isN fl[i]? = false:=by rfl):DE X fl .R (.Name x pos) (qg (aF i)):=by
 refine PE.imp (mY hN hv hd hcd) fun σ H Q h=>?_
 obtain ⟨G,ow,δ,d,R,hf,q⟩:=h
 unfold qg at hf
 cases hv':aF i δ with
 | none=>rw [hv'] at hf;cases hf
 | some d' =>
  rw [hv',aL] at hf
  by_cases hc:fl1 d'=true
  ·rw [if_pos hc] at hf
   cases hf
   have e:=lD hv'
   cases ho:ow i with
   | none =>
    obtain ⟨v,h1,h2⟩:=R.dat i d e hn ho
    exact ⟨v,h1,q v H (Same.refl H) (RA.flat (R.oo i d e hn hfl ho) h2)⟩
   | some a =>
    obtain ⟨h0,_,xs,ds,h1,h2,h3,h4⟩:=R.own i a ho
    rw [e] at h4
    cases h4
    exact ⟨_,h1,q _ H (Same.refl H) (.lst h2 h0 (RAs.flat hc h3))⟩
  ·rw [if_neg hc] at hf
   cases hf
theorem oF {k k':Kd} (h:DE X fl k e f) (hc:∀ (Hb H:Hp) (G:Gh) (ow:Ow) (σ:St) (δ:DS) (v:V) (d:D),Rel X.K fl G ow σ Hb δ→Rs X.K G.H0 ow Hb H k v d→Rs X.K G.H0 ow Hb H k' v d):DE X fl k' e f:=by
 refine PE.imp h fun σ H Q h=>?_
 obtain ⟨G,ow,δ,d,R,hf,q⟩:=h
 exact ⟨G,ow,δ,d,R,hf,fun v H' s r=>q v H' s (hc _ _ G ow σ δ v d R r)⟩
theorem zN {k k':Kd} {p:D→Bool} (h:DE X fl k e f) (hc:∀ (Hb H:Hp) (G:Gh) (ow:Ow) (σ:St) (δ:DS) (v:V) (d:D),p d=true→Rel X.K fl G ow σ Hb δ→Rs X.K G.H0 ow Hb H k v d→Rs X.K G.H0 ow Hb H k' v d) :
 DE X fl k' e (fun δ=>(f δ).bind fun d=>if p d=true then some d else none):=by
 refine PE.imp h fun σ H Q h=>?_
 obtain ⟨G,ow,δ,d,R,hf,q⟩:=h
 dsimp only at hf
 cases hv:f δ with
 | none=>rw [hv] at hf;cases hf
 | some d' =>
  rw [hv,aL] at hf
  by_cases hp:p d'=true
  ·rw [if_pos hp] at hf
   cases hf
   exact ⟨G,ow,δ,d,R,hv,fun v H' s r=>q v H' s (hc _ _ G ow σ δ v d hp R r)⟩
  ·rw [if_neg hp] at hf
   cases hf
theorem o_ (h:DE X fl .FC e f):DE X fl .F e f:=oF h fun _ _ _ _ _ _ _ _ R r=>r.FC_F R
theorem g_ (h:DE X fl .FC e f):DE X fl .C e f:=oF h fun _ _ _ _ _ _ _ _ R r=>r.FC_C
theorem rB (h:DE X fl .F e f):DE X fl .A e f:=oF h fun _ _ _ _ _ _ _ _ R r=>r.F_A R
theorem jF (h:DE X fl .C e f):DE X fl .A e f:=oF h fun _ _ _ _ _ _ _ _ R r=>r.C_A R
theorem wL (h:DE X fl .C e f):DE X fl .R e f:=oF h fun _ _ _ _ _ _ _ _ R r=>r.C_R R
theorem dY (h:DE X fl .A e f):DE X fl (.B []) e f:=oF h fun _ _ _ _ _ _ _ _ R r=>Rs.A_B [] r
theorem pq {L:List Nat} (h:DE X fl (.B L) e f):DE X fl .P e f:=oF h fun _ _ _ _ _ _ _ _ R r=>r.B_P
theorem eV (h:DE X fl .P e f):DE X fl .FC e (cR f):=zN h fun _ _ _ _ _ _ _ _ hf R r=>r.P_flat hf
theorem Bo (h:DE X fl .C e f):DE X fl .FC e (qg f):=zN h fun _ _ _ _ _ _ _ _ hf R r=>r.C_fl1 hf
theorem gh (h:DE X fl .FC e f):DE X fl .A e f:=rB (o_ h)
theorem cJ (h:DE X fl .FC e f):DE X fl .R e f:=wL (g_ h)
theorem cT (h:DE X fl .A e f):DE X fl .P e f:=pq (dY h)
theorem fU (h:DE X fl .C e f):DE X fl .P e f:=cT (jF h)
theorem bK (h:DE X fl .FC e f):DE X fl .P e f:=cT (gh h)
theorem Ni (h:DE X fl .F e f):DE X fl .P e f:=cT (rB h)
theorem uL {v:V} {d:D} (h:PE X e (tC v)) (hf:flat d=true) (hr:∀ H,RA X.K ok0 false H v d):DE X fl .FC e (dC d):=by
 refine PE.imp h fun σ H Q h=>?_
 obtain ⟨G,ow,δ,d',R,hd,q⟩:=h
 cases hd
 exact q v H (Same.refl H) (.inl ⟨hf,hr H⟩)
theorem Hq {i j pos}:DE X fl .FC (.Constant (.int i) j pos) (dC (.int i)):=uL N6 rfl fun _=>.int _
theorem wM {b j pos}:DE X fl .FC (.Constant (.bool b) j pos) (dC (.bool b)):=uL CW rfl fun _=>.bl _
theorem xQ {j pos}:DE X fl .FC (.Constant .none j pos) (dC .none):=uL Gz rfl fun _=>.non
theorem xR {x j pos}:DE X fl .FC (.Constant (.str x) j pos) (dC (.str x)):=uL N7 rfl fun _=>.str _
theorem Kl {x:Str} {i:Int} {pos:Pos} (h:∃ t,X.mg x=some (.int i t)) (hg:Gl X x:=by rfl) (hd:(x == ("__debug__" : Str))=false:=by decide):DE X fl .FC (.Name x pos) (dC (.int i)):=by
 obtain ⟨t,h⟩:=h
 exact uL (JW (v:=.int i) hg h ⟨t,rfl⟩ hd) rfl fun _=>.int _
def BrO (K:PySem.W.Frag) (r:R2) (g:D→D→Option D):Prop:=∀ (H:Hp) (x y:V) (dx dy d:D) (Q:VK),RA K ok1 true H x dx→RA K ok1 true H y dy→g dx dy=some d→(∀ v,flat d=true→RA K ok0 false H v d→Q v H)→r x y H Q
theorem zO {fa fb:FE} {g:D→D→Option D} {δ:DS} {d:D} (h:dOp g fa fb δ=some d):∃ x y,fa δ=some x∧fb δ=some y∧g x y=some d:=by
 unfold dOp at h
 cases ha:fa δ with
 | none=>rw [ha] at h;cases h
 | some x =>
  rw [ha,aL] at h
  cases hb:fb δ with
  | none=>rw [hb] at h;cases h
  | some y =>
   rw [hb,aL] at h
   exact ⟨x,y,rfl,rfl,h⟩
theorem bind1 {α β:Type} {x:Option α} {g:α→Option β} {d:β} (h:x.bind g=some d):∃ y,x=some y∧g y=some d:=by
 cases x with
 | none=>cases h
 | some y=>exact ⟨y,rfl,h⟩
theorem sG {r:R2} {g:D→D→Option D} {σ:St} {H:Hp} {Q:VK} (hb:BrO X.K r g) (h:tD X.K fl .FC (dOp g fa fb) σ H Q):tOp r (tD X.K fl .P fa) (tD X.K fl .P fb) σ H Q:=by
 obtain ⟨G,ow,δ,d,R,hf,q⟩:=h
 obtain ⟨x,y,e1,e2,e3⟩:=zO hf
 refine ⟨G,ow,δ,x,R,e1,fun v H1 s1 r1=>⟨G,ow,δ,y,R.grow s1,e2,fun u H2 s2 r2=>?_⟩⟩
 exact hb H2 v u x y d Q (RA.same s2 r1) r2 e3 fun z hz rz=>q z H2 (s1.trans s2) (.inl ⟨hz,rz⟩)
theorem dM {op:Operator} {r:R2} {g:D→D→Option D} (ho:OpR X (binaryOp op) r) (hb:BrO X.K r g) (h1:DE X fl .P a fa) (h2:DE X fl .P b fb):DE X fl .FC (.BinOp a op b pos) (dOp g fa fb) :=
 PE.imp (G3 ho h1 h2) fun _ _ _ h=>sG hb h
theorem oG {op:CmpOp} {r:R2} {g:D→D→Option D} (ho:OpR X (compareOp op) r) (hb:BrO X.K r g) (h1:DE X fl .P a fa) (h2:DE X fl .P b fb) (hm:behindInMarks op b=false):DE X fl .FC (.Compare a [op] [b] pos) (dOp g fa fb) :=
 PE.imp (J6 ho h1 h2 hm) fun _ _ _ h=>sG hb h
theorem dD {op:CmpOp} {r:R2} {g:D→D→Option D} (ho:OpR X (compareOp op) r) (hb:BrO X.K r g) (h1:DE X fl .P a fa) (h2:DE X fl .P b fb) (hm:behindInMarks op b=false):DT X fl (.Compare a [op] [b] pos) (bB (dOp g fa fb)):=by
 refine PT.imp (J7 ho h1 h2 hm) fun σ H Q h=>?_
 obtain ⟨G,ow,δ,c,R,hf,q⟩:=h
 obtain ⟨d,e1,e2⟩:=bind1 hf
 cases d <;> first | (cases e2;done) | skip
 cases e2
 refine sG (fl:=fl) (fa:=fa) (fb:=fb) hb ⟨G,ow,δ,_,R,e1,fun v H' s r=>?_⟩
 obtain rfl:=(Rs.FC_C r).blE
 exact ⟨_,rfl,q H' s⟩
theorem lW (h:DE X fl .P e f) (he:∀ whole,isTrue e X.env whole=(do let v ← whole;standAt e.pos;holding [v] (truthy v)):=by intro _;rfl):DT X fl e (bB f):=by
 refine PT.imp (N_ h he) fun σ H Q h=>?_
 obtain ⟨G,ow,δ,c,R,hf,q⟩:=h
 obtain ⟨d,e1,e2⟩:=bind1 hf
 cases d <;> first | (cases e2;done) | skip
 cases e2
 refine ⟨G,ow,δ,_,R,e1,fun v H' s r=>?_⟩
 obtain rfl:=RA.blE r
 exact ⟨_,rfl,q H' s⟩
theorem wN {K:PySem.W.Frag} {h:Int→Int→V} {g:Int→Int→D} (hf:∀ i j,flat (g i j)=true) (hr:∀ H i j,RA K ok0 false H (h i j) (g i j)):BrO K (rI0 h) (gI fun i j=>some (g i j)):=by
 intro H x y dx dy d Q rx ry e q
 unfold gI at e
 split at e
 ·next i j =>
  cases e
  exact ⟨i,j,rx.intE,ry.intE,q _ (hf i j) (hr H i j)⟩
 ·cases e
theorem Km {K:PySem.W.Frag} {C:Int→Int→Prop} {h:Int→Int→V} {g:Int→Int→D} {c:Int→Int→Bool} (hc:∀ i j,c i j=true→C i j) (hf:∀ i j,flat (g i j)=true) (hr:∀ H i j,RA K ok0 false H (h i j) (g i j)) :
 BrO K (rI C h) (gI fun i j=>if c i j=true then some (g i j) else none):=by
 intro H x y dx dy d Q rx ry e q
 unfold gI at e
 split at e
 ·next i j =>
  dsimp only at e
  by_cases z:c i j=true
  ·rw [if_pos z] at e
   cases e
   exact ⟨i,j,rx.intE,ry.intE,hc i j z,q _ (hf i j) (hr H i j)⟩
  ·rw [if_neg z] at e
   cases e
 ·cases e
end
section
variable {X:Cx} {K:PySem.W.Frag}
theorem Ko {i j:Int} (h:uH i j=true):IntMulOk i j:=by
 unfold uH at h
 rw [Bool.or_eq_true,Bool.or_eq_true,aM] at h
 rcases h with (h | h) | ⟨h1,h2⟩
 ·exact IntMulOk.of_left (PySem.intBits_le_iff.mpr (of_decide_eq_true h))
 ·exact IntMulOk.of_right (PySem.intBits_le_iff.mpr (of_decide_eq_true h))
 ·exact PySem.IntMulOk.of_le (PySem.intBits_le_iff.mpr (of_decide_eq_true h1)) (PySem.intBits_le_iff.mpr (of_decide_eq_true h2)) (by decide)
theorem lE:OpR X (binaryOp .Mult) (rI (fun i j=>uH i j=true) fun i j=>.int (i * j)):=opI fun _ _ _ _ _ _ _ hc q=>mul_int q (Ko hc)
theorem Dj:OpR X (binaryOp .FloorDiv) (rI (fun i j=>Bg i j=true) fun i j=>.int (i.fdiv j)):=opI fun i j _ _ _ _ _ hc q=>by
 unfold Bg at hc
 rw [aM] at hc
 have h1:=of_decide_eq_true hc.1
 have h2:=of_decide_eq_true hc.2
 refine floordiv_int h1 q (.inl (PyProof.noPylong_of_log2 ?_))
 exact (Nat.log2_lt (by omega)).mpr h2
theorem Kp {i j:Int} (h:O_ i j=true):Oz i j:=by
 unfold O_ at h
 rw [aM,aM] at h
 have h1:=of_decide_eq_true h.1.1
 have h2:=of_decide_eq_true h.1.2
 exact ⟨h1,by omega,of_decide_eq_true h.2⟩
theorem jt:BrO K (rI0 fun i j=>.int (i + j)) jk:=wN (fun _ _=>rfl) fun _ _ _=>.int _
theorem Sw:BrO K (rI0 fun i j=>.int (i - j)) GQ:=wN (fun _ _=>rfl) fun _ _ _=>.int _
theorem rC:BrO K (rI (fun i j=>uH i j=true) fun i j=>.int (i * j)) oA:=Km (fun _ _ h=>h) (fun _ _=>rfl) fun _ _ _=>.int _
theorem Nj:BrO K (rI (fun i j=>Bg i j=true) fun i j=>.int (i.fdiv j)) zL:=Km (fun _ _ h=>h) (fun _ _=>rfl) fun _ _ _=>.int _
theorem rD:BrO K (rI (fun _ j=>j ≠ 0) fun i j=>.int (i.fmod j)) qw:=Km (fun _ _ h=>of_decide_eq_true h) (fun _ _=>rfl) fun _ _ _=>.int _
theorem Sx:BrO K (rI Oz fun i j=>.int (i ^ j.toNat)) Pa:=Km (fun _ _ h=>Kp h) (fun _ _=>rfl) fun _ _ _=>.int _
theorem b_lt:BrO K (rI0 fun i j=>.bl (decide (i < j))) gLt:=wN (fun _ _=>rfl) fun _ _ _=>.bl _
theorem tV:BrO K (rI0 fun i j=>.bl (decide (i ≤ j))) gLe:=wN (fun _ _=>rfl) fun _ _ _=>.bl _
theorem Hr:BrO K (rI0 fun i j=>.bl (decide (j < i))) gGt:=wN (fun _ _=>rfl) fun _ _ _=>.bl _
theorem Sy:BrO K (rI0 fun i j=>.bl (decide (j ≤ i))) gGe:=wN (fun _ _=>rfl) fun _ _ _=>.bl _
theorem vJ:BrO K (R6 K) gEq:=by
 intro H x y dx dy d Q rx ry e q
 unfold gEq at e
 by_cases z:(SeqAt.shaped dx && SeqAt.shaped dy)=true
 ·rw [if_pos z] at e
  cases e
  rw [aM] at z
  exact ⟨dx,dy,rx.rd (SeqAt.canLay_of_shaped z.1),ry.rd (SeqAt.canLay_of_shaped z.2),z.1,z.2,q _ rfl (.bl _)⟩
 ·rw [if_neg z] at e
  cases e
theorem Hs:BrO K (R7 K) gNe:=by
 intro H x y dx dy d Q rx ry e q
 unfold gNe at e
 by_cases z:(SeqAt.shaped dx && SeqAt.shaped dy)=true
 ·rw [if_pos z] at e
  cases e
  rw [aM] at z
  exact ⟨dx,dy,rx.rd (SeqAt.canLay_of_shaped z.1),ry.rd (SeqAt.canLay_of_shaped z.2),z.1,z.2,q _ rfl (.bl _)⟩
 ·rw [if_neg z] at e
  cases e
end
end D3
namespace D3
open PySem PySem.Spec PyProof.Rows L2 My
section
variable {X:Cx} {fl:List Fl} {e a b c:Expr} {es:List Expr} {st:Stmt} {sts body orelse:List Stmt} {k:Kd} {f fa fb fc:FE} {fs gs:FS} {ft gt:FT} {pos:Pos}
theorem Bm.nx_imp {K:PySem.W.Frag} {G:Gh} {Dn:Ends} {N:St→Hp→Prop} {o:Oc} (h:Bm K fl G Dn o) (hn:∀ δ',o ≠ .nx δ'):Bm K fl G { Dn with nx:=N } o:=by
 cases o with
 | nx δ'=>exact absurd rfl (hn δ')
 | rt d=>exact h
 | bk δ'=>exact h
 | ct δ'=>exact h
 | ex c f v=>exact h
theorem cW:DSs X fl [] fO:=PSs.imp J1 fun Dn σ H h=>by
 obtain ⟨G,ow,δ,o,R,hf,q⟩:=h
 cases hf
 exact q ow σ H R
theorem aU (h1:DS1 X fl st fs) (h2:DSs X fl sts gs):DSs X fl (st :: sts) (b_ fs gs):=PSs.imp (GF h1 h2) fun Dn σ H h=>by
 obtain ⟨G,ow,δ,o,R,hf,q⟩:=h
 obtain ⟨o1,e1,e2⟩:=bind1 hf
 refine ⟨G,ow,δ,o1,R,e1,?_⟩
 cases o1 with
 | nx δ'=>exact fun ow' σ' H' R'=>⟨G,ow',δ',o,R',e2,q⟩
 | rt d=>cases e2;exact Bm.nx_imp q (fun _ z=>by cases z)
 | bk d=>cases e2;exact Bm.nx_imp q (fun _ z=>by cases z)
 | ct d=>cases e2;exact Bm.nx_imp q (fun _ z=>by cases z)
 | ex c f v=>cases e2;exact q
theorem aX (h1:DS1 X fl st fs):DSs X fl [st] fs:=PSs.imp (J2 h1) fun _ _ _ h=>h
theorem cF (h:DE X fl .R e f):DS1 X fl (.Return (some e) pos) (d8 f):=PS.imp (Oi h) fun Dn σ H h=>by
 obtain ⟨G,ow,δ,o,R,hf,q⟩:=h
 obtain ⟨d,e1,e2⟩:=bind1 hf
 cases e2
 exact ⟨G,ow,δ,d,R,e1,fun v H' s r=>q v H' (R.same0.trans s) r⟩
theorem rE (h:DE X fl .P e f) (hs:swapsWith e none pos.line X.env=pure false:=by rfl):DS1 X fl (.Expr e pos) (tu f):=PS.imp (tY h hs) fun Dn σ H h=>by
 obtain ⟨G,ow,δ,o,R,hf,q⟩:=h
 obtain ⟨d,e1,e2⟩:=bind1 hf
 cases e2
 exact ⟨G,ow,δ,d,R,e1,fun v H' s r=>q ow σ H' (R.grow s)⟩
theorem gF (hc:DT X fl c ft) (h1:DSs X fl body fs) (h2:DSs X fl orelse gs):DS1 X fl (.If c body orelse pos) (sIf ft fs gs):=PS.imp (RG hc h1 h2) fun Dn σ H h=>by
 obtain ⟨G,ow,δ,o,R,hf,q⟩:=h
 obtain ⟨t,e1,e2⟩:=bind1 hf
 refine ⟨G,ow,δ,t,R,e1,fun H' s=>?_⟩
 cases t with
 | true=>exact zJ ⟨G,ow,δ,o,R.grow s,e2,q⟩
 | false=>exact zH ⟨G,ow,δ,o,R.grow s,e2,q⟩
theorem gR {α:Type} {l:List (Option α)} {i j:Nat} {x y:α} (h:(l.set i (some x))[j]? = some (some y)):(j=i∧x=y)∨(j ≠ i∧l[j]? = some (some y)):=by
 rw [mG] at h
 by_cases e:i=j
 ·subst e
  rw [if_pos rfl] at h
  by_cases z:i < l.length
  ·rw [if_pos z] at h
   cases h
   exact .inl ⟨rfl,rfl⟩
  ·rw [if_neg z] at h
   cases h
 ·rw [if_neg e] at h
  exact .inr ⟨fun z=>e z.symm,h⟩
theorem Rel.setA {K:PySem.W.Frag} {G:Gh} {ow:Ow} {σ:St} {H:Hp} {δ:DS} {i:Nat} {v:V} {d:D} (R:Rel K fl G ow σ H δ) (hfl:fl[i]? = some .A) (hi:i < σ.length) (r:RA K (okA ow) true H v d) :
 Rel K fl G ow (σ.set i (some v)) H (δ.set i (some (.d d))):=by
 have no:∀ a,ow i ≠ some a:=fun a z=>by
  obtain ⟨_,hz,_⟩:=R.own i a z
  rw [hfl] at hz
  rcases hz with ⟨z,_⟩ | ⟨z,_⟩ <;> cases z
 refine ⟨R.s0,R.s1,by rw [dB,dB];exact R.len,fun j a h=>?_,R.inj,R.pin,fun j d' h1 hn h2=>?_,fun j d' h1 hn h2 h3=>?_,R.nt,R.nd,R.ns,R.np,fun j d' hn h1=>?_⟩
 ·have hj:j ≠ i:=fun z=>no a (z ▸ h)
  obtain ⟨h0,hf,xs,ds,h1,h2,h3,h4⟩:=R.own j a h
  exact ⟨h0,hf,xs,ds,by rw [bD (Ne.symm hj)];exact h1,h2,h3,by rw [bD (Ne.symm hj)];exact h4⟩
 ·rcases gR h1 with ⟨rfl,e⟩ | ⟨hj,e⟩
  ·cases e
   exact ⟨v,by rw [cV hi],r⟩
  ·obtain ⟨v',h3,h4⟩:=R.dat j d' e hn h2
   exact ⟨v',by rw [bD (Ne.symm hj)];exact h3,h4⟩
 ·rcases gR h1 with ⟨rfl,e⟩ | ⟨hj,e⟩
  ·exact absurd hfl h2
  ·exact R.oo j d' e hn h2 h3
 ·rcases gR h1 with ⟨rfl,e⟩ | ⟨hj,e⟩
  ·rw [hfl] at hn;cases hn
  ·obtain ⟨v',h3,h4⟩:=R.nr j d' hn e
   exact ⟨v',by rw [bD (Ne.symm hj)];exact h3,h4⟩
def tG (ow:Ow) (i:Nat) (a:Option Addr):Ow:=⟨fun j=>if j=i then a else ow j,ow.n⟩
theorem iQ {ow:Ow} {i:Nat} {a:Option Addr}:tG ow i a i=a:=if_pos rfl
theorem fK {ow:Ow} {i j:Nat} {a:Option Addr} (h:j ≠ i):tG ow i a j=ow j:=if_neg h
theorem Rel.setO {K:PySem.W.Frag} {G:Gh} {ow:Ow} {σ:St} {H H':Hp} {δ:DS} {i:Nat} {v:V} {d:D} (R:Rel K fl G ow σ H δ) (s:Same H H') (hfl:fl[i]? = some .O) (hi:i < σ.length) (r:Rs K G.H0 ow H H' .F v d) :
 ∃ ow',Rel K fl G ow' (σ.set i (some v)) H' (δ.set i (some (.d d))):=by
 have R':=R.grow s
 have sub0:∀ b,okA ow b→okA (tG ow i none) b:=fun b z=>⟨fun j e=>by
  by_cases hj:j=i
  ·subst hj;rw [iQ] at e;cases e
  ·rw [fK hj] at e;exact z.1 j e,z.2⟩
 have nrs:∀ j d',isN fl[j]? = true→(δ.set i (some (.d d)))[j]? = some (some (.d d'))→∃ v',(σ.set i (some v))[j]? = some (some v')∧RT K H' v' d' (ow.n j)∧(ow.n j).Nodup:=fun j d' hn h1=>by
  rcases gR h1 with ⟨rfl,e⟩ | ⟨hj,e⟩
  ·rw [hfl] at hn;cases hn
  ·obtain ⟨v',h3,h4⟩:=R'.nr j d' hn e
   exact ⟨v',by rw [bD (Ne.symm hj)];exact h3,h4⟩
 rcases r with ⟨hfd,r⟩ | ⟨a,xs,ds,rfl,rfl,ha,hx,hr⟩
 ·refine ⟨tG ow i none,R'.s0,R'.s1,by rw [dB,dB];exact R.len,fun j a h=>?_,fun j j' a h h'=>?_,fun j h=>?_,fun j d' h1 hn h2=>?_,fun j d' h1 hn h2 h3=>?_,R'.nt,R'.nd,fun j j' a h h'=>?_,R'.np,nrs⟩
  ·have hj:j ≠ i:=fun z=>by subst z;rw [iQ] at h;cases h
   rw [fK hj] at h
   obtain ⟨h0,hf,xs,ds,h1,h2,h3,h4⟩:=R'.own j a h
   exact ⟨h0,hf,xs,ds,by rw [bD (Ne.symm hj)];exact h1,h2,h3.imp sub0 (fun z=>z),by rw [bD (Ne.symm hj)];exact h4⟩
  ·have hj:j ≠ i:=fun z=>by subst z;rw [iQ] at h;cases h
   have hj':j' ≠ i:=fun z=>by subst z;rw [iQ] at h';cases h'
   rw [fK hj] at h
   rw [fK hj'] at h'
   exact R.inj j j' a h h'
  ·have hj:j ≠ i:=fun z=>by subst z;rw [hfl] at h;cases h
   rw [fK hj]
   exact R.pin j h
  ·rcases gR h1 with ⟨rfl,e⟩ | ⟨hj,e⟩
   ·cases e
    exact ⟨v,by rw [cV hi],RA.flat hfd r⟩
   ·rw [fK hj] at h2
    obtain ⟨v',h3,h4⟩:=R'.dat j d' e hn h2
    exact ⟨v',by rw [bD (Ne.symm hj)];exact h3,h4.imp sub0 (fun z=>z)⟩
  ·rcases gR h1 with ⟨rfl,e⟩ | ⟨hj,e⟩
   ·cases e
    exact hfd
   ·rw [fK hj] at h3
    exact R.oo j d' e hn h2 h3
  ·by_cases hj:j'=i
   ·subst hj;rw [iQ] at h';cases h'
   ·rw [fK hj] at h';exact R.ns j j' a h h'
 ·have sub:∀ b,okA ow b∧b ≠ a→okA (tG ow i (some a)) b:=fun b z=>⟨fun j e=>by
   by_cases hj:j=i
   ·subst hj;rw [iQ] at e;exact z.2 (cN.inj e).symm
   ·rw [fK hj] at e;exact z.1.1 j e,z.1.2⟩
  have old:∀ {v:V} {d:D},RA K (okA ow) true H v d→RA K (okA (tG ow i (some a))) true H' v d:=fun r=>(r.track.imp (fun b z=>sub b ⟨z.1,fun e=>z.2 (e ▸ ha)⟩) (fun z=>z)).same s
  have olds:∀ {v:List V} {d:List D},RAs K (okA ow) true H v d→RAs K (okA (tG ow i (some a))) true H' v d:=fun r=>(r.track.imp (fun b z=>sub b ⟨z.1,fun e=>z.2 (e ▸ ha)⟩) (fun z=>z)).same s
  have nota:∀ j,ow j ≠ some a:=fun j z=>by
   obtain ⟨_,_,_,_,_,h2,_⟩:=R.own j a z
   rw [ha] at h2
   cases h2
  have hF:G.HF a=none:=R.s1.free ha
  refine ⟨tG ow i (some a),R'.s0,R'.s1,by rw [dB,dB];exact R.len,fun j b h=>?_,fun j j' b h h'=>?_,fun j h=>?_,fun j d' h1 hn h2=>?_,fun j d' h1 hn h2 h3=>?_,R'.nt,R'.nd,fun j j' b h h'=>?_,R'.np,nrs⟩
  ·by_cases hj:j=i
   ·subst hj
    rw [iQ] at h
    cases h
    exact ⟨R.same0.free ha,.inl ⟨hfl,hF⟩,xs,ds,by rw [cV hi],hx,hr.imp sub (fun z=>z),by rw [cV (by rw [← R.len];exact hi)]⟩
   ·rw [fK hj] at h
    obtain ⟨h0,hf,ys,ds',h1,h2,h3,h4⟩:=R.own j b h
    exact ⟨h0,hf,ys,ds',by rw [bD (Ne.symm hj)];exact h1,s _ _ h2,olds h3,by rw [bD (Ne.symm hj)];exact h4⟩
  ·by_cases hj:j=i
   ·by_cases hj':j'=i
    ·rw [hj,hj']
    ·subst hj
     rw [iQ] at h
     cases h
     rw [fK hj'] at h'
     exact absurd h' (nota j')
   ·rw [fK hj] at h
    by_cases hj':j'=i
    ·subst hj'
     rw [iQ] at h'
     cases h'
     exact absurd h (nota j)
    ·rw [fK hj'] at h'
     exact R.inj j j' b h h'
  ·have hj:j ≠ i:=fun z=>by subst z;rw [hfl] at h;cases h
   rw [fK hj]
   exact R.pin j h
  ·rcases gR h1 with ⟨rfl,e⟩ | ⟨hj,e⟩
   ·rw [iQ] at h2;cases h2
   ·rw [fK hj] at h2
    obtain ⟨v',h3,h4⟩:=R.dat j d' e hn h2
    exact ⟨v',by rw [bD (Ne.symm hj)];exact h3,old h4⟩
  ·rcases gR h1 with ⟨rfl,e⟩ | ⟨hj,e⟩
   ·rw [iQ] at h3;cases h3
   ·rw [fK hj] at h3
    exact R.oo j d' e hn h2 h3
  ·by_cases hj:j'=i
   ·subst hj
    rw [iQ] at h'
    cases h'
    exact (R.nt j a h).2.1.ne ha
   ·rw [fK hj] at h';exact R.ns j j' b h h'
theorem Rel.mut {K:PySem.W.Frag} {G:Gh} {ow:Ow} {σ:St} {H:Hp} {δ:DS} {i:Nat} {a:Addr} {ys:List V} {ds:List D} (R:Rel K fl G ow σ H δ) (hfl:fl[i]? = some .O) (ho:ow i=some a) (r:RAs K (okA ow) true H ys ds) :
 Rel K fl G ow σ (upd H a (.lst ys)) (δ.set i (some (.d (.list ds)))):=by
 obtain ⟨h0,hz,xs,ds0,e1,e2,e3,e4⟩:=R.own i a ho
 have na:¬ okA ow a:=fun z=>z.1 i ho
 have hF:G.HF a=none:=by
  rcases hz with ⟨_,z⟩ | ⟨z,_⟩
  ·exact z
  ·rw [hfl] at z;cases z
 have hi:i < δ.length:=by
  rcases jh i δ.length with z | z
  ·exact z
  ·rw [bA z] at e4;cases e4
 refine ⟨R.s0,fun b o hb=>?_,by rw [dB];exact R.len,fun j b h=>?_,R.inj,R.pin,fun j d' h1 hn h2=>?_,fun j d' h1 hn h2 h3=>?_,fun j b h=>?_,R.nd,R.ns,R.np,fun j d' hn h1=>?_⟩
 ·rw [cC (fun z=>by subst z;rw [hF] at hb;cases hb)]
  exact R.s1 b o hb
 ·by_cases hj:j=i
  ·subst hj
   rw [ho] at h
   cases h
   exact ⟨h0,hz,ys,ds,e1,cQ,r.upd e2 na,by rw [cV hi]⟩
  ·obtain ⟨h0',hf',zs,ds',h1,h2,h3,h4⟩:=R.own j b h
   have hb:b ≠ a:=fun z=>hj (R.inj j i a (z ▸ h) ho)
   exact ⟨h0',hf',zs,ds',h1,by rw [cC hb];exact h2,h3.upd e2 na,by rw [bD (Ne.symm hj)];exact h4⟩
 ·rcases gR h1 with ⟨rfl,e⟩ | ⟨hj,e⟩
  ·rw [ho] at h2;cases h2
  ·obtain ⟨v',h3,h4⟩:=R.dat j d' e hn h2
   exact ⟨v',h3,h4.upd e2 na⟩
 ·rcases gR h1 with ⟨rfl,e⟩ | ⟨hj,e⟩
  ·rw [ho] at h3;cases h3
  ·exact R.oo j d' e hn h2 h3
 ·obtain ⟨g1,g2,g3⟩:=R.nt j b h
  refine ⟨g1,?_,g3⟩
  by_cases hb:b=a
  ·rw [hb,cQ];exact ⟨_,rfl,inferInstance⟩
  ·rw [cC hb];exact g2
 ·rcases gR h1 with ⟨rfl,e⟩ | ⟨hj,e⟩
  ·rw [hfl] at hn;cases hn
  ·obtain ⟨v',h3,h4,h5⟩:=R.nr j d' hn e
   exact ⟨v',h3,h4.upd e2 (fun z=>R.ns j i a z ho),h5⟩
theorem pK {K:PySem.W.Frag} {G:Gh} {ow:Ow} {σ:St} {H:Hp} {δ:DS} {i:Nat} (R:Rel K fl G ow σ H δ) (h:i < δ.length):i < σ.length:=by rw [R.len];exact h
theorem Kq {i:Nat} {x:Str} {pos':Pos} (hfl:fl[i]? = some .A) (hN:X.N.Nodup) (hi:X.N[i]? = some x) (hv:X.env.scope.names.lookup x=some .local∨X.env.scope.names.lookup x=some .cell) (h:DE X fl .A e f)
 (hs:swapsWith e (some (.Name x pos')) pos.line X.env=pure false:=by rfl) (hfn:X.fn x=true∨X.env.scope.names.lookup x=some .local:=by first | exact .inl rfl | exact .inr rfl) :
 DS1 X fl (.Assign [.Name x pos'] e pos) (bW i f):=PS.imp (Ay (i:=i) hN hi hv h hs hfn) fun Dn σ H h=>by
 obtain ⟨G,ow,δ,o,R,hf,q⟩:=h
 unfold bW at hf
 by_cases hl:i < δ.length
 ·rw [if_pos hl] at hf
  obtain ⟨d,e1,e2⟩:=bind1 hf
  cases e2
  exact ⟨G,ow,δ,d,R,e1,fun v H' s r=>q ow _ H' ((R.grow s).setA hfl (pK R hl) r)⟩
 ·rw [if_neg hl] at hf
  cases hf
theorem j_ {i:Nat} {x:Str} {pos':Pos} (hfl:fl[i]? = some .O) (hN:X.N.Nodup) (hi:X.N[i]? = some x) (hv:X.env.scope.names.lookup x=some .local∨X.env.scope.names.lookup x=some .cell) (h:DE X fl .F e f)
 (hs:swapsWith e (some (.Name x pos')) pos.line X.env=pure false:=by rfl) (hfn:X.fn x=true∨X.env.scope.names.lookup x=some .local:=by first | exact .inl rfl | exact .inr rfl) :
 DS1 X fl (.Assign [.Name x pos'] e pos) (bW i f):=PS.imp (Ay (i:=i) hN hi hv h hs hfn) fun Dn σ H h=>by
 obtain ⟨G,ow,δ,o,R,hf,q⟩:=h
 unfold bW at hf
 by_cases hl:i < δ.length
 ·rw [if_pos hl] at hf
  obtain ⟨d,e1,e2⟩:=bind1 hf
  cases e2
  refine ⟨G,ow,δ,d,R,e1,fun v H' s r=>?_⟩
  obtain ⟨ow',R'⟩:=R.setO s hfl (pK R hl) r
  exact q ow' _ H' R'
 ·rw [if_neg hl] at hf
  cases hf
theorem Kr {i:Nat} {x:Str} {pos:Pos} (hfl:fl[i]? = some .A) (hN:X.N.Nodup) (hi:X.N[i]? = some x) (hv:X.env.scope.names.lookup x=some .local∨X.env.scope.names.lookup x=some .cell)
 (hfn:X.fn x=true∨X.env.scope.names.lookup x=some .local:=by first | exact .inl rfl | exact .inr rfl):DG X fl [i] (.Name x pos) (gNl i) :=
 PG.imp (J3 (i:=i) hN hi hv hfn) fun v σ H Q h=>by
 obtain ⟨G,ow,δ,d,δ',R,r,hf,q⟩:=h
 unfold gNl at hf
 by_cases hl:i < δ.length
 ·rw [if_pos hl] at hf
  cases hf
  exact q _ (R.setA hfl (pK R hl) r) fun j hj=>bD (fun z=>hj (by rw [z];exact aK.mpr rfl))
 ·rw [if_neg hl] at hf
  cases hf
def Vg (K:PySem.W.Frag) (fl:List Fl) (tg:List Nat) (g:List D→DS→Option DS):TGs:=fun vs σ H Q=>∃ G ow δ ds δ',Rel K fl G ow σ H δ∧RAs K (okA ow) true H vs ds∧g ds δ=some δ'∧∀ σ',Rel K fl G ow σ' H δ'→(∀ j,j ∉ tg→σ'[j]? = σ[j]?)→Q σ' H
theorem PGs.imp {t t':TGs} (h:PGs X es t) (i:∀ v σ H Q,t' v σ H Q→t v σ H Q):PGs X es t':=fun pins s σ H v u Q I r q=>h pins s σ H v u Q I r (i v σ H Q q)
abbrev DGs (X:Cx) (fl:List Fl) (tg:List Nat) (es:List Expr) (g:List D→DS→Option DS):Prop:=PGs X es (Vg X.K fl tg g)
theorem oH:DGs X fl [] [] jN:=PGs.imp J4 fun vs σ H Q h=>by
 obtain ⟨G,ow,δ,ds,δ',R,r,hf,q⟩:=h
 cases r with
 | nil=>cases hf;exact ⟨rfl,q σ R fun _ _=>rfl⟩
 | cons _ _=>cases hf
theorem fY {tg tg':List Nat} {g:FG} {gs:List D→DS→Option DS} (h1:DG X fl tg e g) (h2:DGs X fl tg' es gs) (hs:(assignEach (e :: es) X.env).map (·.2)=assign e X.env :: (assignEach es X.env).map (·.2):=by rfl) :
 DGs X fl (tg++tg') (e :: es) (cM g gs):=PGs.imp (GP h1 h2 hs) fun vs σ H Q h=>by
 obtain ⟨G,ow,δ,ds,δ',R,r,hf,q⟩:=h
 cases r with
 | nil=>cases hf
 | cons r1 r2 =>
  obtain ⟨δ1,e1,e2⟩:=bind1 hf
  refine ⟨_,_,rfl,G,ow,δ,_,δ1,R,r1,e1,fun σ' R' k1=>⟨G,ow,δ1,_,δ',R',r2,e2,fun σ'' R'' k2=>q σ'' R'' fun j hj=>?_⟩⟩
  rw [k2 j fun z=>hj (aP _ z),k1 j fun z=>hj (aW _ z)]
theorem qx {tg:List Nat} {gs:List D→DS→Option DS} {k n:Nat} (hc:X.calm=true) (h:DGs X fl tg es gs) (hn:(assignEach es X.env).length=n:=by rfl) (hst:(assignEach es X.env).findIdx? (·.1)=none:=by rfl) :
 DG X fl tg (.Tuple es k pos) (gTn n gs):=PG.imp (Oo (n:=n) hc h hn hst) fun v σ H Q h=>by
 obtain ⟨G,ow,δ,d,δ',R,r,hf,q⟩:=h
 unfold gTn at hf
 split at hf
 ·next l =>
  by_cases z:l.length=n
  ·rw [if_pos z] at hf
   obtain ⟨a,xs,rfl,hx,hr⟩:=r.tupE
   exact ⟨a,xs,rfl,hx,by rw [hr.length];exact z,G,ow,δ,l,δ',R,hr,hf,q⟩
  ·rw [if_neg z] at hf
   cases hf
 ·cases hf
theorem Pb {tg:List Nat} {g:FG} {t:Expr} (h:DE X fl .A e f) (hg:DG X fl tg t g) (hs:swapsWithSole [t] e pos.line X.env=pure false:=by rfl) (hw:swappedStores [t] e X.env=pure none:=by rfl)
 (h1:(assignEach [t] X.env).map (·.2)=[assign t X.env]:=by rfl):DS1 X fl (.Assign [t] e pos) (Fe f g):=PS.imp (Ax h hg hs hw h1) fun Dn σ H h=>by
 obtain ⟨G,ow,δ,o,R,hf,q⟩:=h
 obtain ⟨d,e1,e2⟩:=bind1 hf
 obtain ⟨δ',e3,e4⟩:=bind1 e2
 cases e4
 exact ⟨G,ow,δ,d,R,e1,fun v H' s r=>⟨G,ow,δ,d,δ',R.grow s,r,e3,fun σ' R' _=>q ow σ' H' R'⟩⟩
end
end D3
namespace D3
open PySem PySem.Spec PyProof.Rows L2 My
section
variable {X:Cx} {fl:List Fl} {e a b c:Expr} {es:List Expr} {st:Stmt} {sts body orelse:List Stmt} {k:Kd} {f fa fb fc:FE} {fs gs:FS} {ft gt:FT} {pos:Pos}
theorem Bp {K:PySem.W.Frag} {G:Gh} {ow:Ow} {σ:St} {H:Hp} {δ:DS} {i:Nat} {l:List D} (R:Rel K fl G ow σ H δ) (hfl:fl[i]? = some .O) (h:aF i δ=some (.list l)) :
 ∃ a xs,ow i=some a∧σ[i]? = some (some (.ref a))∧H a=some (.lst xs)∧RAs K (okA ow) true H xs l:=by
 have e:=lD h
 cases ho:ow i with
 | none =>
  have z:=R.oo i _ e (by rw [hfl];rfl) (by rw [hfl];simp) ho
  simp [flat] at z
 | some a =>
  obtain ⟨h0,_,xs,ds,h1,h2,h3,h4⟩:=R.own i a ho
  rw [e] at h4
  cases h4
  exact ⟨a,xs,rfl,h1,h2,h3⟩
theorem pL {i:Nat} {x:Str} {vpos apos cpos:Pos} (hfl:fl[i]? = some .O) (h:DE X fl .A e f) (hN:X.N[i]? = some x) (hv:Vis X.env.scope x:=by first | exact Or.inl rfl | exact Or.inr (Or.inl rfl) | exact Or.inr (Or.inr rfl)) (hd:(x == ("__debug__" : Str))=false:=by decide)
 (hcd:(x == ("__classdict__" : Str))=false:=by decide)
 (hs:swapsWith (.Call (.Attribute (.Name x vpos) "append" apos) [e] [] cpos) none pos.line X.env=pure false:=by rfl)
 (hbase:attributeBase (.Name x vpos) "append" X.env (eval (.Name x vpos) X.env)=eval (.Name x vpos) X.env:=by rfl)
 (hfew:((backTo cpos (starEach [e] X.env)).all (fun x=>!x.1) && (backToKw cpos (keywordEach [] X.env)).all (fun x=>x.1.isSome)
  && decide (([e]:List Expr).length + ([]:List Keyword).length + (if ([]:List Keyword).isEmpty then 0 else 1) < 30))=true:=by rfl)
 (hline:(apos.endLine == cpos.line)=true:=by rfl) (hst:starEach [e] X.env=(false,eval e X.env) :: starEach [] X.env:=by rfl) (hplain:(backTo cpos (starEach [] X.env)).any (·.1)=false:=by rfl) :
 DS1 X fl (.Expr (.Call (.Attribute (.Name x vpos) "append" apos) [e] [] cpos) pos) (xM i f) :=
 PS.imp (tY (Ng PySem.F.plainAttrs_list PySem.F.slot_list_append PySem.F.type_list_append wI (mY hN hv hd hcd) (mK h rZ hst) hbase hfew hline hst hplain) hs) fun Dn σ H h=>by
 obtain ⟨G,ow,δ,o,R,hf,q⟩:=h
 obtain ⟨x,e1,hf1⟩:=bind1 hf
 obtain ⟨d,e2,hf2⟩:=bind1 hf1
 clear hf hf1
 have hf:=hf2
 clear hf2
 split at hf
 case h_2=>cases hf
 next l =>
 by_cases hl:l.length < 1000000
 ·rw [if_pos hl] at hf
  cases hf
  obtain ⟨a,xs,ho,h1,h2,h3⟩:=Bp R hfl e1
  refine ⟨_,h1,.inl ⟨rfl,_,SqL.of h2⟩,G,ow,δ,d,R,e2,fun v H' s r=>?_⟩
  have R':=R.grow s
  refine ⟨a,xs,v,rfl,rfl,s _ _ h2,by rw [h3.length];exact jg hl (by decide),?_⟩
  exact q ow σ _ (R'.mut hfl ho ((h3.same s).append (.cons r .nil)))
 ·rw [if_neg hl] at hf
  cases hf
theorem sH {i:Nat} {x:Str} {vpos spos:Pos} {ke:Expr} {fk:FE} (hfl:fl[i]? = some .O) (h:DE X fl .A e f) (hk:DE X fl .P ke fk) (hN:X.N[i]? = some x) (hv:Vis X.env.scope x:=by first | exact Or.inl rfl | exact Or.inr (Or.inl rfl) | exact Or.inr (Or.inr rfl)) (hd:(x == ("__debug__" : Str))=false:=by decide)
 (hcd:(x == ("__classdict__" : Str))=false:=by decide) (ha:∀ v,assign (.Subscript (.Name x vpos) ke spos) X.env v=(do
  let ov ← holding [v] (eval (.Name x vpos) X.env)
  let iv ← holding [v,ov] (eval ke X.env)
  standAt spos
  holding [v,ov,iv] (setItem ov iv v)
  release [v,ov,iv] []):=by intro _;rfl)
 (hs:swapsWithSole [.Subscript (.Name x vpos) ke spos] e pos.line X.env=pure false:=by rfl) (hw:swappedStores [.Subscript (.Name x vpos) ke spos] e X.env=pure none:=by rfl)
 (h1:(assignEach [.Subscript (.Name x vpos) ke spos] X.env).map (·.2)=[assign (.Subscript (.Name x vpos) ke spos) X.env]:=by rfl) :
 DS1 X fl (.Assign [.Subscript (.Name x vpos) ke spos] e pos) (rm i fk f) :=
 PS.imp (Ax h (GR (mY hN hv hd hcd) hk set_list ha) hs hw h1) fun Dn σ H h=>by
 obtain ⟨G,ow,δ,o,R,hf,q⟩:=h
 obtain ⟨d,e2,hf1⟩:=bind1 hf
 obtain ⟨x,e1,hf2⟩:=bind1 hf1
 obtain ⟨k,e3,hf3⟩:=bind1 hf2
 clear hf hf1 hf2
 have hf:=hf3
 clear hf3
 split at hf
 case h_2=>cases hf
 next l j =>
 obtain ⟨n,e4,e5⟩:=bind1 hf
 cases e5
 obtain ⟨a,xs,ho,h1,h2,h3⟩:=Bp R hfl e1
 refine ⟨G,ow,δ,d,R,e2,fun v H' s r=>⟨_,h1,G,ow,δ,_,R.grow s,e3,fun u H2 s2 r2=>?_⟩⟩
 obtain rfl:=RA.intE r2
 have R2:=R.grow (s.trans s2)
 refine ⟨a,xs,j,n,rfl,rfl,(s.trans s2) _ _ h2,by rw [h3.length];exact e4,?_⟩
 exact q ow σ _ (R2.mut hfl ho (RAs.set (RA.same s2 r) n (h3.same (s.trans s2))))
def Nk (K:PySem.W.Frag) (ow:Ow) (L:List Nat) (H1:Hp) (J:It) (l:List D):Prop:=∀ H2:Hp,(∀ b o,H1 b=some o→(∀ i,ow i=some b→i ∈ L)→(∀ i,b ∉ ow.n i)→H2 b=some o)→∀ i:Nat,
 (∀ d,l[i]? = some d→J.go i H2∧∀ x H3,J.yld i H2 x H3→Same H2 H3∧RA K (fun b=>okA ow b∧H1 b ≠ none) true H3 x d)∧(l.length ≤ i→J.stop i H2)
def tDI (K:PySem.W.Frag) (fl:List Fl) (L:List Nat) (fi:FA):TI:=fun σ H R'=>∃ G ow δ l,Rel K fl G ow σ H δ∧fi δ=some l∧∀ J H1,Same H H1→Nk K ow L H1 J l→R' J H1
abbrev DI (X:Cx) (fl:List Fl) (L:List Nat) (tg iter:Expr) (fi:FA):Prop:=PI X tg iter (tDI X.K fl L fi)
theorem PI.imp {tg iter:Expr} {t t':TI} (h:PI X tg iter t) (i:∀ σ H R',t' σ H R'→t σ H R'):PI X tg iter t':=fun pins s σ H R' I q=>h pins s σ H R' I (i σ H R' q)
section
variable {K:PySem.W.Frag} {ok:Ok} {pl:Bool} {H1 H2:Hp} {ow:Ow} {L:List Nat}
theorem nm {b:Addr} {o:HO} (hl:∀ i b,ow i=some b→∃ xs,H1 b=some (.lst xs)) (h:H1 b=some o) (hn:∀ xs,o ≠ .lst xs):∀ i,ow i=some b→i ∈ L:=fun i e=>by
 obtain ⟨xs,z⟩:=hl i b e
 rw [h] at z
 exact absurd (cN.inj z) (hn xs)
theorem nm2 {b:Addr} {o:HO} (hl:∀ i b,b ∈ ow.n i→Chd (H1 b)) (h:H1 b=some o) (hn:Chg o→False):∀ i,b ∉ ow.n i:=fun i e=>by
 obtain ⟨u,z,c⟩:=hl i b e
 rw [h] at z
 cases z
 exact hn c
mutual
theorem RA.keep (hk:∀ b o,H1 b=some o→(∀ i,ow i=some b→i ∈ L)→(∀ i,b ∉ ow.n i)→H2 b=some o) (hl:∀ i b,ow i=some b→∃ xs,H1 b=some (.lst xs)) (hm:∀ i b,b ∈ ow.n i→Chd (H1 b)) (ho:∀ b,ok b→okA ow b):∀ {v:V} {d:D},RA K ok pl H1 v d→RA K ok pl H2 v d
 | _,_,.non=>.non
 | _,_,.bl b=>.bl b
 | _,_,.int i=>.int i
 | _,_,.str x=>.str x
 | _,_,.lst e k q=>.lst (hk _ _ e (fun i z=>absurd z ((ho _ k).1 i)) (ho _ k).2) k (RAs.keep hk hl hm ho q)
 | _,_,.lsk e k q=>.lsk (by
  rcases e with ⟨o,e⟩ | e
  ·exact .inl ⟨o,hk _ _ e (nm hl e (by intro xs z;cases z)) (nm2 hm e Chg.frz)⟩
  ·exact .inr e) k (RAs.keep hk hl hm ho q)
 | _,_,.tup e q=>.tup (hk _ _ e (nm hl e (by intro xs z;cases z)) (nm2 hm e Chg.tup)) (RAs.keep hk hl hm ho q)
 | _,_,.dic e g k=>.dic (hk _ _ e (fun i z=>absurd z ((ho _ k).1 i)) (ho _ k).2) (g.imp fun _ _ t=>hk _ _ t (nm hl t (by intro xs z;cases z)) (nm2 hm t Chg.tup)) k
 | _,_,.dik e g k=>.dik (hk _ _ e (nm hl e (by intro xs z;cases z)) (nm2 hm e Chg.frz)) (g.imp fun _ _ t=>hk _ _ t (nm hl t (by intro xs z;cases z)) (nm2 hm t Chg.tup)) k
theorem RAs.keep (hk:∀ b o,H1 b=some o→(∀ i,ow i=some b→i ∈ L)→(∀ i,b ∉ ow.n i)→H2 b=some o) (hl:∀ i b,ow i=some b→∃ xs,H1 b=some (.lst xs)) (hm:∀ i b,b ∈ ow.n i→Chd (H1 b)) (ho:∀ b,ok b→okA ow b):∀ {v:List V} {d:List D},RAs K ok pl H1 v d→RAs K ok pl H2 v d
 | _,_,.nil=>.nil
 | _,_,.cons e q=>.cons (RA.keep hk hl hm ho e) (RAs.keep hk hl hm ho q)
end
end
theorem Rel.ownL {K:PySem.W.Frag} {G:Gh} {ow:Ow} {σ:St} {H:Hp} {δ:DS} (R:Rel K fl G ow σ H δ):∀ i b,ow i=some b→∃ xs,H b=some (.lst xs):=fun i b e=>by
 obtain ⟨_,_,xs,_,_,h2,_⟩:=R.own i b e
 exact ⟨xs,h2⟩
theorem Rel.ownC {K:PySem.W.Frag} {G:Gh} {ow:Ow} {σ:St} {H:Hp} {δ:DS} (R:Rel K fl G ow σ H δ):∀ i b,b ∈ ow.n i→Chd (H b):=fun i b e=>(R.nt i b e).2.1
theorem Bq {K:PySem.W.Frag} {G:Gh} {ow:Ow} {σ:St} {H Hb:Hp} {δ:DS} {L:List Nat} {v:V} {l:List D} (R:Rel K fl G ow σ H δ) (r:Rs K G.H0 ow Hb H (.B L) v (.list l)):∃ a xs,v = .ref a∧SqL K H a xs ∧
 ∀ H2:Hp,(∀ b o,H b=some o→(∀ i,ow i=some b→i ∈ L)→(∀ i,b ∉ ow.n i)→H2 b=some o)→SqL K H2 a xs∧RAs K (fun b=>okA ow b∧H b ≠ none) true H2 xs l:=by
 rcases r with r | ⟨i,hi,a,xs,ds,ho,rfl,e,hx,hr⟩
 ·cases r with
  | lst e k q=>exact ⟨_,_,rfl,SqL.of e,fun H2 hk=>⟨SqL.of (hk _ _ e (fun i z=>absurd z (k.1 i)) k.2),RAs.keep hk R.ownL R.ownC (fun b z=>z.1) q.track⟩⟩
  | lsk e k q=>exact ⟨_,_,rfl,e.sq,fun H2 hk=>⟨SqK.sq (by
   rcases e with ⟨o,e⟩ | e
   ·exact .inl ⟨o,hk _ _ e (nm R.ownL e (by intro xs z;cases z)) (nm2 R.ownC e Chg.frz)⟩
   ·exact .inr e),RAs.keep hk R.ownL R.ownC (fun b z=>z.1) q.track⟩⟩
 ·cases e
  exact ⟨a,xs,rfl,SqL.of hx,fun H2 hk=>⟨SqL.of (hk _ _ hx (fun j z=>by rw [R.inj j i a z ho];exact hi) (fun j z=>R.ns j i a z ho)),RAs.keep hk R.ownL R.ownC (fun b z=>z.1) hr.track⟩⟩
theorem fV {tg:Expr} {L:List Nat} (h:DE X fl (.B L) e f):DI X fl L tg e (kI f):=PI.imp (C_ h) fun σ H R' h=>by
 obtain ⟨G,ow,δ,l,R,hf,q⟩:=h
 obtain ⟨d,e1,e2⟩:=bind1 hf
 cases d <;> first | (cases e2;done) | skip
 cases e2
 refine ⟨G,ow,δ,_,R,e1,fun v H1 s r=>?_⟩
 obtain ⟨a,xs,rfl,hx,keep⟩:=Bq (R.grow s) r
 refine ⟨a,rfl,⟨xs,hx⟩,q _ _ s fun H2 k2 i=>?_⟩
 obtain ⟨k3,k4⟩:=keep H2 k2
 refine ⟨fun d hd=>?_,fun hl=>⟨xs,k3,by rw [k4.length];exact hl⟩⟩
 obtain ⟨y,hy,ry⟩:=k4.get hd
 refine ⟨⟨xs,y,k3,hy⟩,fun x H3 hyl=>?_⟩
 obtain ⟨e,hz⟩:=hyl
 subst e
 have:some y=some x:=hy.symm.trans (hz xs k3)
 cases this
 exact ⟨Same.refl _,ry⟩
theorem Ht (lo hi:Int):(dZ lo hi).length=(hi - lo).toNat:=by simp [dZ]
theorem zP {K:PySem.W.Frag} {ow:Ow} {L:List Nat} {H1:Hp} (lo hi:Int):Nk K ow L H1 (Itr lo (hi - lo).toNat) (dZ lo hi):=by
 intro H2 _ i
 refine ⟨fun d hd=>?_,fun hl=>by rw [Ht] at hl;exact hl⟩
 unfold dZ at hd
 rw [aQ] at hd
 by_cases hi':i < (hi - lo).toNat
 ·rw [bU hi'] at hd
  cases hd
  refine ⟨hi',fun x H3 hy=>?_⟩
  obtain ⟨e,e2⟩:=hy
  subst e e2
  exact ⟨Same.refl _,.int _⟩
 ·rw [bA (by simpa using hi')] at hd
  cases hd
theorem pN {i:Int} (h:qj i=true) : -(2 ^ 62) ≤ i∧i < 2 ^ 62:=by
 unfold qj at h
 rw [aM] at h
 exact ⟨of_decide_eq_true h.1,of_decide_eq_true h.2⟩
theorem iB {tg:Expr} {L:List Nat} {p:Pos} {fa:FA} (hg:Gl X "range") (hm:X.mg "range" = none) (h:DA X fl [a] fa) (hs:starEach [a] X.env=[(false,eval a X.env)]:=by rfl):DI X fl L tg (.Call (.Name "range" p) [a] [] pos) (kJ fa) :=
 PI.imp (Es hg hm h hs) fun σ H R' h=>by
 obtain ⟨G,ow,δ,l,R,hf,q⟩:=h
 obtain ⟨ds,e1,e2⟩:=bind1 hf
 split at e2
 ·next j =>
  by_cases z:qj j=true
  ·rw [if_pos z] at e2
   cases e2
   refine ⟨G,ow,δ,_,R,e1,fun vs H1 s r=>?_⟩
   cases r with
   | cons r1 r2 =>
    cases r2
    obtain rfl:=r1.intE
    refine ⟨j,rfl,(pN z).1,(pN z).2,?_⟩
    have w:=zP (K:=X.K) (ow:=ow) (L:=L) (H1:=H1) 0 j
    rw [qQ] at w
    exact q _ _ s w
  ·rw [if_neg z] at e2
   cases e2
 ·cases e2
theorem wO {tg:Expr} {L:List Nat} {p:Pos} {fa:FA} (hg:Gl X "range") (hm:X.mg "range" = none) (h:DA X fl [a,b] fa) (hs:starEach [a,b] X.env=[(false,eval a X.env),(false,eval b X.env)]:=by rfl) (hs2:starEach [b] X.env=[(false,eval b X.env)]:=by rfl) :
 DI X fl L tg (.Call (.Name "range" p) [a,b] [] pos) (zM fa):=PI.imp (Et hg hm h hs hs2) fun σ H R' h=>by
 obtain ⟨G,ow,δ,l,R,hf,q⟩:=h
 obtain ⟨ds,e1,e2⟩:=bind1 hf
 split at e2
 ·next i j =>
  by_cases z:(qj i && qj j)=true
  ·rw [if_pos z] at e2
   cases e2
   rw [aM] at z
   refine ⟨G,ow,δ,_,R,e1,fun vs H1 s r=>?_⟩
   cases r with
   | cons r1 r2 =>
    cases r2 with
    | cons r2 r3 =>
     cases r3
     obtain rfl:=r1.intE
     obtain rfl:=r2.intE
     exact ⟨i,j,rfl,⟨(pN z.1).1,(pN z.1).2,(pN z.2).1,(pN z.2).2⟩,q _ _ s (zP i j)⟩
  ·rw [if_neg z] at e2
   cases e2
 ·cases e2
def lock (L:List Nat) (fl:List Fl):List Fl:=fl.mapIdx fun i x=>if x = .O∧i ∈ L then .L else x
theorem kO {L:List Nat} {i:Nat}:(lock L fl)[i]? = (fl[i]?).map fun x=>if x = .O∧i ∈ L then .L else x:=by
 unfold lock
 rw [iY]
theorem Hu {L:List Nat} {i:Nat}:(lock L fl)[i]? = some .A↔fl[i]? = some .A:=by
 rw [kO]
 cases h:fl[i]? with
 | none=>simp
 | some x =>
  cases x <;> simp
  by_cases z:i ∈ L <;> simp [z]
theorem Br {L:List Nat} {i:Nat} (h:(lock L fl)[i]? = some .O):fl[i]? = some .O∧i ∉ L:=by
 rw [kO] at h
 cases e:fl[i]? with
 | none=>rw [e] at h;simp at h
 | some x =>
  rw [e] at h
  cases x <;> simp at h
  by_cases z:i ∈ L
  ·simp [z] at h
  ·exact ⟨rfl,z⟩
theorem Bt {L:List Nat} {i:Nat} (h:fl[i]? = some .L):(lock L fl)[i]? = some .L:=by
 rw [kO,h]
 simp
theorem Dk {L:List Nat} {i:Nat} (h:fl[i]? = some .O) (hi:i ∈ L):(lock L fl)[i]? = some .L:=by
 rw [kO,h]
 simp [hi]
theorem Dm {L:List Nat} {i:Nat} (h:fl[i]? = some .O) (hi:i ∉ L):(lock L fl)[i]? = some .O:=by
 rw [kO,h]
 simp [hi]
theorem xT {L:List Nat} {i:Nat}:(lock L fl)[i]? = some .N↔fl[i]? = some .N:=by
 rw [kO]
 cases h:fl[i]? with
 | none=>simp
 | some x =>
  cases x <;> simp
  by_cases z:i ∈ L <;> simp [z]
theorem Bu {L:List Nat} {i:Nat}:(lock L fl)[i]? = some .M↔fl[i]? = some .M:=by
 rw [kO]
 cases h:fl[i]? with
 | none=>simp
 | some x =>
  cases x <;> simp
  by_cases z:i ∈ L <;> simp [z]
theorem nJ {L:List Nat} {i:Nat}:isN (lock L fl)[i]? = isN fl[i]?:=by
 rw [kO]
 cases h:fl[i]? with
 | none=>rfl
 | some x =>
  cases x <;> simp [isN]
  by_cases z:i ∈ L <;> simp [z]
def Let (fl':List Fl) (ow:Ow) (b:Addr):Prop:=(∃ j,ow j=some b∧fl'[j]? = some .O)∨∃ j,b ∈ ow.n j∧fl'[j]? = some .N
open Classical in
noncomputable def ghL (fl':List Fl) (G:Gh) (ow:Ow) (H:Hp):Gh:=⟨G.H0,fun b=>if Let fl' ow b then none else H b,ow,ow.n,G.tb⟩
open Classical in
theorem oJ {fl':List Fl} {G:Gh} {ow:Ow} {H:Hp} {b:Addr} (h:¬ Let fl' ow b):(ghL fl' G ow H).HF b=H b:=by
 unfold ghL
 dsimp only
 rw [if_neg h]
open Classical in
theorem Bv {fl':List Fl} {G:Gh} {ow:Ow} {H:Hp} {b:Addr} (h:Let fl' ow b):(ghL fl' G ow H).HF b=none:=by
 unfold ghL
 dsimp only
 rw [if_pos h]
theorem Rel.lock {K:PySem.W.Frag} {G:Gh} {ow:Ow} {σ:St} {H:Hp} {δ:DS} (L:List Nat) (R:Rel K fl G ow σ H δ):Rel K (lock L fl) (ghL (lock L fl) G ow H) ow σ H δ:=by
 refine ⟨fun b o hb=>?_,fun b o hb=>?_,R.len,fun i a h=>?_,R.inj,fun i h=>rfl,fun i d h1 hn h2=>R.dat i d h1 (by rw [nJ] at hn;exact hn) h2,fun i d h1 hn h2 h3=>R.oo i d h1 (by rw [nJ] at hn;exact hn) (fun z=>h2 (Hu.mpr z)) h3,fun i a h=>?_,R.nd,R.ns,fun i h=>rfl,fun i d hn h1=>R.nr i d (by rw [nJ] at hn;exact hn) h1⟩
 ·have hb':G.H0 b=some o:=hb
  rw [oJ]
  ·exact R.same0 b o hb'
  ·rintro (⟨j,e,_⟩ | ⟨j,e,_⟩)
   ·have:=(R.own j b e).1
    rw [hb'] at this
    cases this
   ·have:=(R.nt j b e).1
    rw [hb'] at this
    cases this
 ·by_cases z:Let (D3.lock L fl) ow b
  ·rw [Bv z] at hb;cases hb
  ·rw [oJ z] at hb;exact hb
 ·obtain ⟨h0,hf,xs,ds,h1,h2,h3,h4⟩:=R.own i a h
  refine ⟨h0,?_,xs,ds,h1,h2,h3,h4⟩
  have out:(D3.lock L fl)[i]? = some .L→(ghL (D3.lock L fl) G ow H).HF a=H a:=fun hl=>oJ (by
   rintro (⟨j,e,hj⟩ | ⟨j,e,hj⟩)
   ·rw [R.inj j i a e h,hl] at hj
    cases hj
   ·exact R.ns j i a e h)
  rcases hf with ⟨hf,_⟩ | ⟨hf,_⟩
  ·by_cases hi:i ∈ L
   ·exact .inr ⟨Dk hf hi,xs,by rw [out (Dk hf hi)];exact h2⟩
   ·exact .inl ⟨Dm hf hi,Bv (.inl ⟨i,h,Dm hf hi⟩)⟩
  ·exact .inr ⟨Bt hf,xs,by rw [out (Bt hf)];exact h2⟩
 ·obtain ⟨g1,g2,g3⟩:=R.nt i a h
  refine ⟨g1,g2,?_⟩
  rcases g3 with ⟨z,_⟩ | z
  ·exact .inl ⟨xT.mpr z,Bv (.inr ⟨i,h,xT.mpr z⟩)⟩
  ·exact .inr (Bu.mpr z)
theorem Rel.unlock {K:PySem.W.Frag} {G:Gh} {ow ow':Ow} {σ σ':St} {H H':Hp} {δ δ':DS} {L:List Nat} (R:Rel K fl G ow σ H δ) (R':Rel K (D3.lock L fl) (ghL (D3.lock L fl) G ow H) ow' σ' H' δ'):Rel K fl G ow' σ' H' δ':=by
 have sub:Same G.HF (ghL (D3.lock L fl) G ow H).HF:=fun b o hb=>by
  rw [oJ]
  ·exact R.s1 b o hb
  ·rintro (⟨j,e,hj⟩ | ⟨j,e,hj⟩)
   ·rcases (R.own j b e).2.1 with ⟨_,z⟩ | ⟨z,_⟩
    ·rw [hb] at z;cases z
    ·have:=(Br hj).1
     rw [z] at this
     cases this
   ·rcases (R.nt j b e).2.2 with ⟨_,z⟩ | z
    ·rw [hb] at z;cases z
    ·have:=xT.mp hj
     rw [z] at this
     cases this
 refine ⟨R.s0,sub.trans R'.s1,R'.len,fun i a h=>?_,R'.inj,fun i h=>?_,fun i d h1 hn h2=>R'.dat i d h1 (by rw [nJ];exact hn) h2,fun i d h1 hn h2 h3=>R'.oo i d h1 (by rw [nJ];exact hn) (fun z=>h2 (Hu.mp z)) h3,fun i a h=>?_,R'.nd,R'.ns,fun i h=>?_,fun i d hn h1=>R'.nr i d (by rw [nJ];exact hn) h1⟩
 ·obtain ⟨h0,hf,rest⟩:=R'.own i a h
  refine ⟨h0,?_,rest⟩
  rcases hf with ⟨hf,hz⟩ | ⟨hf,_⟩
  ·exact .inl ⟨(Br hf).1,sub.free hz⟩
  ·have e:ow' i=ow i:=R'.pin i hf
   rw [e] at h
   exact (R.own i a h).2.1
 ·have e:ow' i=ow i:=R'.pin i (Bt h)
  rw [e]
  exact R.pin i h
 ·obtain ⟨g1,g2,g3⟩:=R'.nt i a h
  rcases g3 with ⟨z,hz⟩ | z
  ·exact ⟨g1,g2,.inl ⟨xT.mp z,sub.free hz⟩⟩
  ·exact ⟨g1,g2,.inr (Bu.mp z)⟩
 ·have e:ow'.n i=ow.n i:=R'.np i (Bu.mpr h)
  rw [e]
  exact R.np i h
theorem jc {tg iter:Expr} {L:List Nat} {T:List Nat} {fi:FA} {g:FG} (hp:PassesOwn (model X.prog X.w) X.A X.env X.xe) (hc:X.calm=true) (hi:DI X fl L tg iter fi) (hg:DG X (lock L fl) T tg g) (hb:DSs X (lock L fl) body fs)
 (hs:∀ x,foldedSetIterable iter X.env x=pure x:=by intro _;rfl):DS1 X fl (.For tg iter body [] pos) (mD fi g fs):=PS.imp (Ov hp hc hi hg hb hs) fun Dn σ H h=>by
 obtain ⟨G,ow,δ,o,R0,hf,q⟩:=h
 obtain ⟨l,e1,e2⟩:=bind1 hf
 refine ⟨G,ow,δ,l,R0,e1,fun J H1 s wk=>?_⟩
 have R1:=R0.grow s
 have RL:=R1.lock L
 refine ⟨fun i m σ' H'=>m=l.length - i∧∃ ow' δ',Rel X.K (lock L fl) (ghL (lock L fl) G ow H1) ow' σ' H' δ'∧iW g fs (l.drop i) δ'=some o,⟨_,rfl,ow,δ,RL,by simpa using e2⟩,?_⟩
 rintro i m σ' H' ⟨rfl,ow',δ',R',hd⟩
 have kept:∀ b o,H1 b=some o→(∀ i,ow i=some b→i ∈ L)→(∀ i,b ∉ ow.n i)→H' b=some o:=fun b o hb hl hn=>R'.s1 b o (by
  rw [oJ]
  ·exact hb
  ·rintro (⟨j,e,hj⟩ | ⟨j,e,_⟩)
   ·exact (Br hj).2 (hl j e)
   ·exact hn j e)
 obtain ⟨w1,w2⟩:=wk H' kept i
 by_cases hlt:i < l.length
 ·have hdrop:l.drop i=l[i] :: l.drop (i + 1):=mz hlt
  rw [hdrop,iW] at hd
  obtain ⟨δ1,e3,hd⟩:=bind1 hd
  obtain ⟨o1,e4,hd⟩:=bind1 hd
  obtain ⟨go,yl⟩:=w1 l[i] (aZ hlt)
  refine .inr ⟨go,fun σ' H'=>∃ ow' δ',Rel X.K (lock L fl) (ghL (lock L fl) G ow H1) ow' σ' H' δ'∧iW g fs (l.drop (i + 1)) δ'=some o,fun σ2 H2 ⟨ow2,δ2,R2,h2⟩=>⟨l.length - (i + 1),by omega,rfl,ow2,δ2,R2,h2⟩,fun x H3 hy=>?_⟩
  obtain ⟨s3,r3⟩:=yl x H3 hy
  have sub:∀ b,okA ow b∧H1 b ≠ none→okA ow' b:=fun b z=>by
   obtain ⟨z1,z2⟩:=z
   refine ⟨fun j e=>?_,fun j e=>?_⟩
   ·rcases (R'.own j b e).2.1 with ⟨_,hz⟩ | ⟨hz,_⟩
    ·have:(ghL (lock L fl) G ow H1).HF b=H1 b:=oJ (by rintro (⟨j',e',_⟩ | ⟨j',e',_⟩);exact z1.1 j' e';exact z1.2 j' e')
     rw [this] at hz
     exact z2 hz
    ·have e':ow' j=ow j:=R'.pin j hz
     rw [e'] at e
     exact z1.1 j e
   ·rcases (R'.nt j b e).2.2 with ⟨_,hz⟩ | w
    ·have:(ghL (lock L fl) G ow H1).HF b=H1 b:=oJ (by rintro (⟨j',e',_⟩ | ⟨j',e',_⟩);exact z1.1 j' e';exact z1.2 j' e')
     rw [this] at hz
     exact z2 hz
    ·have e':ow'.n j=ow.n j:=R'.np j w
     rw [e'] at e
     exact z1.2 j e
  refine ⟨_,ow',δ',_,δ1,R'.grow s3,r3.imp sub (fun z=>z),e3,fun σ4 R4 _=>⟨_,ow',δ1,o1,R4,e4,?_⟩⟩
  ·cases o1 with
   | nx δ2=>exact fun ow2 σ2 H2 R2=>⟨ow2,δ2,R2,hd⟩
   | ct δ2=>exact fun ow2 σ2 H2 R2=>⟨ow2,δ2,R2,hd⟩
   | bk δ2=>cases hd;exact fun ow2 σ2 H2 R2=>q ow2 σ2 H2 (R1.unlock R2)
   | rt d=>cases hd;exact q
   | ex c f v=>cases hd;exact q
 ·have e:l.drop i=[]:=nT (by omega)
  rw [e,iW] at hd
  cases hd
  exact .inl ⟨w2 (by omega),q ow' σ' H' (R1.unlock R')⟩
theorem Hv (hp:PassesOwn (model X.prog X.w) X.A X.env X.xe) (hc:DT X fl c ft) (hb:DSs X fl body fs):DS1 X fl (.While c body [] pos) (sy ft fs):=PS.imp (GX hp hc hb) fun Dn σ H h=>by
 obtain ⟨G,ow,δ,o,R0,hf,q⟩:=h
 obtain ⟨n,hn⟩:=Bf hf
 refine ⟨fun m σ' H'=>∃ ow' δ',Rel X.K fl G ow' σ' H' δ'∧gM ft fs m δ'=some o,⟨n,ow,δ,R0,hn⟩,?_⟩
 rintro m σ' H' ⟨ow',δ',R',hw⟩
 cases m with
 | zero=>simp [gM] at hw
 | succ m =>
  rw [gM] at hw
  obtain ⟨t,e1,hw⟩:=bind1 hw
  refine ⟨G,ow',δ',t,R',e1,fun H1 s=>?_⟩
  cases t with
  | false =>
   rw [if_neg dg] at hw ⊢
   cases hw
   exact q ow' σ' H1 (R'.grow s)
  | true =>
   rw [if_pos rfl] at hw ⊢
   obtain ⟨o1,e2,hw⟩:=bind1 hw
   refine ⟨fun σ2 H2=>∃ ow2 δ2,Rel X.K fl G ow2 σ2 H2 δ2∧gM ft fs m δ2=some o,fun σ2 H2 ⟨ow2,δ2,R2,h2⟩=>⟨m,nq m,ow2,δ2,R2,h2⟩,G,ow',δ',o1,R'.grow s,e2,?_⟩
   cases o1 with
   | nx δ2=>exact fun ow2 σ2 H2 R2=>⟨ow2,δ2,R2,hw⟩
   | ct δ2=>exact fun ow2 σ2 H2 R2=>⟨ow2,δ2,R2,hw⟩
   | bk δ2=>cases hw;exact q
   | rt d=>cases hw;exact q
   | ex c f v=>cases hw;exact q
end
end D3
namespace D3
open PySem PySem.Spec PyProof.Rows L2 My
def notStar:Expr→Bool
 | .Starred _ _=>false
 | _=>true
theorem oK {e:Expr} {es:List Expr} {env:Env} (h:notStar e=true):starEach (e :: es) env=(false,eval e env) :: starEach es env:=by
 cases e <;> first | rfl | cases h
theorem Hw {es:List Expr} {env:Env} {pos:Pos} (h:es.all notStar=true):(backTo pos (starEach es env)).any (·.1)=false:=by
 induction es with
 | nil=>rfl
 | cons e es ih =>
  rw [mX,aM] at h
  rw [oK h.1]
  have:=ih h.2
  unfold backTo at this ⊢
  rw [bC,jw,this]
  rfl
def isR:Kd→Bool
 | .P=>true
 | .A=>true
 | .R=>true
 | .C=>true
 | _=>false
def Hy (H0:Hp) (ow:Ow) (Hb:Hp):Kd→Ok
 | .P=>ok1
 | .A=>okA ow
 | .R=>okN H0
 | _=>okN Hb
def Pg:Kd→Bool
 | .P=>true
 | .A=>true
 | _=>false
section
variable {K:PySem.W.Frag} {H0 Hb Hc H:Hp} {ow:Ow} {v:V} {d:D} {k:Kd}
theorem Rs.ra (hk:isR k=true) (h:Rs K H0 ow Hb H k v d):RA K (Hy H0 ow Hb k) (Pg k) H v d:=by
 cases k <;> first | exact h | cases hk
theorem Rs.of_ra (hk:isR k=true) (h:RA K (Hy H0 ow Hb k) (Pg k) H v d):Rs K H0 ow Hb H k v d:=by
 cases k <;> first | exact h | cases hk
theorem Fi (s:Same Hb Hc) (hk:isR k=true):∀ a,Hy H0 ow Hc k a→Hy H0 ow Hb k a:=fun a z=>by
 cases k <;> first | exact z | exact s.free z | cases hk
theorem Rs.of_flat (hf:flat d=true) (h:RA K ok0 false H v d):Rs K H0 ow Hb H k v d:=by
 cases k with
 | P=>exact RA.flat hf h
 | B L=>exact .inl (RA.flat hf h)
 | A=>exact RA.flat hf h
 | R=>exact RA.flat hf h
 | F=>exact .inl ⟨hf,h⟩
 | C=>exact RA.flat hf h
 | FC=>exact .inl ⟨hf,h⟩
 | T =>
  obtain ⟨as,h1,_,h3⟩:=RA.rt h
  cases as with
  | nil=>exact ⟨[],h1,.nil,fun _ z=>by cases z⟩
  | cons a r=>exact (h3 a aN).elim
theorem Rs.back (s:Same Hb Hc) (h:Rs K H0 ow Hc H k v d):Rs K H0 ow Hb H k v d:=by
 cases k with
 | P=>exact h
 | B L=>exact h
 | A=>exact h
 | R=>exact h
 | F =>
  rcases h with h | ⟨a,xs,ds,h1,h2,h3,h4⟩
  ·exact .inl h
  ·exact .inr ⟨a,xs,ds,h1,h2,s.free h3,h4⟩
 | C=>exact RA.imp (fun a z=>s.free z) (fun z=>z) h
 | FC =>
  rcases h with h | ⟨a,xs,ds,h1,h2,h3,h4,h5⟩
  ·exact .inl h
  ·exact .inr ⟨a,xs,ds,h1,h2,s.free h3,h4,h5.imp (fun b z=>⟨s.free z.1,z.2⟩) (fun z=>z)⟩
 | T =>
  obtain ⟨as,h1,h2,h3⟩:=h
  exact ⟨as,h1,h2,fun a z=>s.free (h3 a z)⟩
end
def tDB (K:PySem.W.Frag) (fl:List Fl) (k:Kd) (f:FA):TA:=fun σ H Q=>∃ G ow δ ds,Rel K fl G ow σ H δ∧f δ=some ds∧∀ vs H',Same H H'→RAs K (Hy G.H0 ow H k) (Pg k) H' vs ds→Q vs H'
abbrev DB (X:Cx) (fl:List Fl) (k:Kd) (es:List Expr) (f:FA):Prop:=PA X es (tDB X.K fl k f)
section
variable {X:Cx} {fl:List Fl} {e a b c:Expr} {es rest:List Expr} {k:Kd} {f fa fb fc:FE} {ft gt:FT} {pos:Pos}
theorem Hz:DB X fl k [] bh:=PA.imp rZ fun σ H Q h=>by
 obtain ⟨G,ow,δ,ds,R,hf,q⟩:=h
 cases hf
 exact q [] H (Same.refl H) .nil
theorem Ks {fr:FA} (hk:isR k=true) (h:DE X fl k e f) (hr:DB X fl k es fr) (hs:starEach (e :: es) X.env=(false,eval e X.env) :: starEach es X.env:=by exact oK rfl):DB X fl k (e :: es) (aH f fr):=PA.imp (mK h hr hs) fun σ H Q h=>by
 obtain ⟨G,ow,δ,ds,R,hf,q⟩:=h
 obtain ⟨d,e1,hf⟩:=bind1 hf
 obtain ⟨r,e2,hf⟩:=bind1 hf
 cases hf
 refine ⟨G,ow,δ,d,R,e1,fun v H1 s1 r1=>⟨G,ow,δ,r,R.grow s1,e2,fun vs H2 s2 r2=>?_⟩⟩
 exact q _ H2 (s1.trans s2) (.cons ((r1.ra hk).same s2) (r2.imp (Fi s1 hk) (fun z=>z)))
theorem nM (h:DB X fl .P es fa'):DA X fl es fa':=PA.imp h fun σ H Q h=>by
 obtain ⟨G,ow,δ,ds,R,hf,q⟩:=h
 exact ⟨G,ow,δ,ds,R,hf,fun vs H' s r=>q vs H' s r⟩
theorem m7 {x1} {fa:FA} (hk:isR k=true) (h:DB X fl k es fa):DE X fl k (.Tuple es x1 pos) (dTup fa):=PE.imp (O1 h) fun σ H Q h=>by
 obtain ⟨G,ow,δ,d,R,hf,q⟩:=h
 obtain ⟨l,e1,e2⟩:=bind1 hf
 by_cases z:l.length ≤ sizeLine
 ·rw [if_pos z] at e2
  cases e2
  refine ⟨G,ow,δ,l,R,e1,fun vs H' s r=>⟨by rw [r.length];exact z,fun p hp=>?_⟩⟩
  have g:=dG hp (.tup vs)
  exact q _ _ (s.trans g) (Rs.of_ra hk (.tup cQ (r.same g)))
 ·rw [if_neg z] at e2
  cases e2
theorem rF {fa:FA} (h:DB X fl .A es fa):DE X fl .F (.List es pos) (mC fa):=PE.imp (G7 h) fun σ H Q h=>by
 obtain ⟨G,ow,δ,d,R,hf,q⟩:=h
 obtain ⟨l,e1,e2⟩:=bind1 hf
 by_cases z:l.length ≤ sizeLine
 ·rw [if_pos z] at e2
  cases e2
  refine ⟨G,ow,δ,l,R,e1,fun vs H' s r=>⟨by rw [r.length];exact z,fun p hp=>?_⟩⟩
  have g:=dG hp (.lst vs)
  exact q _ _ (s.trans g) (.inr ⟨p,vs,l,rfl,rfl,s.free hp,cQ,(r.track.imp (fun b w=>⟨w.1,fun e=>w.2 (e ▸ hp)⟩) (fun z=>z)).same g⟩)
 ·rw [if_neg z] at e2
  cases e2
theorem jP {fa:FA} (h:DB X fl .C es fa):DE X fl .FC (.List es pos) (mC fa):=PE.imp (G7 h) fun σ H Q h=>by
 obtain ⟨G,ow,δ,d,R,hf,q⟩:=h
 obtain ⟨l,e1,e2⟩:=bind1 hf
 by_cases z:l.length ≤ sizeLine
 ·rw [if_pos z] at e2
  cases e2
  refine ⟨G,ow,δ,l,R,e1,fun vs H' s r=>⟨by rw [r.length];exact z,fun p hp=>?_⟩⟩
  have g:=dG hp (.lst vs)
  exact q _ _ (s.trans g) (.inr ⟨p,vs,l,rfl,rfl,s.free hp,cQ,(r.track.imp (fun b w=>⟨w.1,fun e=>w.2 (e ▸ hp)⟩) (fun z=>z)).same g⟩)
 ·rw [if_neg z] at e2
  cases e2
theorem RAs.at {K:PySem.W.Frag} {ok:Ok} {pl:Bool} {H:Hp} {vs:List V} {l:List D} {i:Int} {d:D} (r:RAs K ok pl H vs l) (h:pAt l i=some d):∃ v,atI vs i=some v∧RA K ok pl H v d:=by
 unfold pAt at h
 unfold atI
 obtain ⟨j,e1,e2⟩:=bind1 h
 obtain ⟨y,e3,ry⟩:=r.get e2
 exact ⟨y,by rw [r.length,show ixN l.length i=some j from e1];exact e3,ry⟩
theorem SJ {L:List Nat} (ha:DE X fl (.B L) a fa) (hb:DE X fl .P b fb) (hs:xJ b):DE X fl .A (.Subscript a b pos) (dOp gIx fa fb):=PE.imp (RV O5 ha hb hs) fun σ H Q h=>by
 obtain ⟨G,ow,δ,d,R,hf,q⟩:=h
 obtain ⟨x,y,e1,e2,e3⟩:=zO hf
 refine ⟨G,ow,δ,x,R,e1,fun v H1 s1 r1=>⟨G,ow,δ,y,R.grow s1,e2,fun u H2 s2 r2=>?_⟩⟩
 unfold gIx at e3
 split at e3
 ·next l i =>
  obtain rfl:=RA.intE r2
  rcases r1 with r1 | ⟨i',_,p,xs,ds,ho,rfl,ez,hx,hr⟩
  ·obtain ⟨p,xs,rfl,hx,hr⟩:=RA.lstE (RA.same s2 r1)
   obtain ⟨z,ez,rz⟩:=hr.at e3
   exact .inl ⟨p,xs,i,z,rfl,rfl,hx,ez,q z H2 (s1.trans s2) rz⟩
  ·cases ez
   obtain ⟨z,ez,rz⟩:=(hr.same s2).at e3
   exact .inl ⟨p,xs,i,z,rfl,rfl,SqL.of (s2 _ _ hx),ez,q z H2 (s1.trans s2) rz⟩
 ·next l i =>
  obtain rfl:=RA.intE r2
  rcases r1 with r1 | ⟨i',_,p,xs,ds,ho,rfl,ez,hx,hr⟩
  ·obtain ⟨p,xs,rfl,hx,hr⟩:=RA.tupE (RA.same s2 r1)
   obtain ⟨z,ez,rz⟩:=hr.at e3
   exact .inr (.inl ⟨p,xs,i,z,rfl,rfl,hx,ez,q z H2 (s1.trans s2) rz⟩)
  ·cases ez
 ·cases e3
theorem sI {op:BoolOp} (h:DE X fl k a f):DE X fl k (.BoolOp op [a] pos) f:=Oe h
theorem m8 (h1:DE X fl .P a fa) (h2:DE X fl k (.BoolOp .And (b :: rest) pos) fb):DE X fl k (.BoolOp .And (a :: b :: rest) pos) (su fa fb):=PE.imp (Og h1 h2) fun σ H Q h=>by
 obtain ⟨G,ow,δ,d,R,hf,q⟩:=h
 obtain ⟨x,e1,e2⟩:=bind1 hf
 refine ⟨G,ow,δ,x,R,e1,fun v H1 s1 r1=>?_⟩
 split at e2
 ·obtain rfl:=RA.blE r1
  exact ⟨true,rfl,zJ ⟨G,ow,δ,d,R.grow s1,e2,fun u H2 s2 r2=>q u H2 (s1.trans s2) (r2.back s1)⟩⟩
 ·obtain rfl:=RA.blE r1
  cases e2
  exact ⟨false,rfl,zH (q _ H1 s1 (Rs.of_flat rfl (.bl _)))⟩
 ·cases e2
theorem HB (h1:DE X fl .P a fa):DE X fl .FC (.UnaryOp .Not a pos) (Hj fa):=PE.imp (Oh h1) fun σ H Q h=>by
 obtain ⟨G,ow,δ,d,R,hf,q⟩:=h
 obtain ⟨x,e1,e2⟩:=bind1 hf
 refine ⟨G,ow,δ,x,R,e1,fun v H1 s1 r1=>?_⟩
 split at e2
 ·next c =>
  obtain rfl:=RA.blE r1
  cases e2
  exact ⟨c,rfl,q _ H1 s1 (Rs.of_flat rfl (.bl _))⟩
 ·cases e2
theorem m9 (h:DT X fl a ft):DT X fl (.UnaryOp .Not a pos) (n6 ft):=PT.imp (Od h) fun σ H Q h=>by
 obtain ⟨G,ow,δ,t,R,hf,q⟩:=h
 unfold n6 at hf
 cases e:ft δ with
 | none=>rw [e] at hf;cases hf
 | some x =>
  rw [e] at hf
  cases hf
  exact ⟨G,ow,δ,x,R,e,fun H' s=>q H' s⟩
theorem mR (h:DT X fl a ft):DW X fl (.BoolOp .And [a] pos) ft:=J0 h
theorem uM (h:DT X fl a ft):DW X fl (.BoolOp .Or [a] pos) ft:=Oa h
theorem m_ (h1:DT X fl a ft) (h2:DW X fl (.BoolOp .And (b :: rest) pos) gt):DW X fl (.BoolOp .And (a :: b :: rest) pos) (jA ft gt):=PW.imp (Ob h1 h2) fun σ H Q h=>by
 obtain ⟨G,ow,δ,t,R,hf,q⟩:=h
 obtain ⟨x,e1,e2⟩:=bind1 hf
 refine ⟨G,ow,δ,x,R,e1,fun H1 s1=>?_⟩
 cases x with
 | true=>exact zJ ⟨G,ow,δ,t,R.grow s1,e2,fun H2 s2=>q H2 (s1.trans s2)⟩
 | false=>cases e2;exact zH (q H1 s1)
theorem uN (h1:DT X fl a ft) (h2:DW X fl (.BoolOp .Or (b :: rest) pos) gt):DW X fl (.BoolOp .Or (a :: b :: rest) pos) (tOr ft gt):=PW.imp (Rx h1 h2) fun σ H Q h=>by
 obtain ⟨G,ow,δ,t,R,hf,q⟩:=h
 obtain ⟨x,e1,e2⟩:=bind1 hf
 refine ⟨G,ow,δ,x,R,e1,fun H1 s1=>?_⟩
 cases x with
 | true=>cases e2;exact zJ (q H1 s1)
 | false=>exact zH ⟨G,ow,δ,t,R.grow s1,e2,fun H2 s2=>q H2 (s1.trans s2)⟩
theorem sJ (h:DW X fl a ft):DT X fl a ft:=PW.pt h
theorem zQ {op op':CmpOp} {r r':R2} {g g':D→D→Option D} (ho:OpR X (compareOp op) r) (ho':OpR X (compareOp op') r') (hb:BrO X.K r g) (hb':BrO X.K r' g') (h1:DE X fl .P a fa) (h2:DE X fl .P b fb) (h3:DE X fl .P c fc)
 (hm:lastMarks [op,op'] [b,c]=false:=by with_unfolding_all rfl):DE X fl .FC (.Compare a [op,op'] [b,c] pos) (m5 g g' fa fb fc):=PE.imp (G5 ho ho' h1 h2 h3 hm) fun σ H Q h=>by
 obtain ⟨G,ow,δ,d,R,hf,q⟩:=h
 obtain ⟨x,e1,hf⟩:=bind1 hf
 obtain ⟨y,e2,hf⟩:=bind1 hf
 obtain ⟨z,e3,hf⟩:=bind1 hf
 refine ⟨G,ow,δ,x,R,e1,fun v H1 s1 r1=>⟨G,ow,δ,y,R.grow s1,e2,fun u H2 s2 r2=>?_⟩⟩
 refine hb H2 v u x y z _ (RA.same s2 r1) r2 e3 fun zv hz rz=>?_
 split at hf
 ·obtain rfl:=rz.blE
  obtain ⟨w,e4,e5⟩:=bind1 hf
  refine ⟨true,rfl,zJ ⟨G,ow,δ,w,R.grow (s1.trans s2),e4,fun wv H3 s3 r3=>?_⟩⟩
  exact hb' H3 u wv y w d Q (RA.same s3 r2) r3 e5 fun z hz rz=>q z H3 (s1.trans (s2.trans s3)) (.inl ⟨hz,rz⟩)
 ·obtain rfl:=rz.blE
  cases hf
  exact ⟨false,rfl,zH (q _ H2 (s1.trans s2) (.inl ⟨rfl,.bl _⟩))⟩
 ·cases hf
theorem Fj {op op' op'':CmpOp} {r r' r'':R2} {g g' g'':D→D→Option D} {d:Expr} {fd:FE} (ho:OpR X (compareOp op) r) (ho':OpR X (compareOp op') r') (ho'':OpR X (compareOp op'') r'') (hb:BrO X.K r g) (hb':BrO X.K r' g') (hb'':BrO X.K r'' g'') (h1:DE X fl .P a fa) (h2:DE X fl .P b fb) (h3:DE X fl .P c fc) (h4:DE X fl .P d fd)
 (hm:lastMarks [op,op',op''] [b,c,d]=false:=by with_unfolding_all rfl):DE X fl .FC (.Compare a [op,op',op''] [b,c,d] pos) (t_ g g' g'' fa fb fc fd):=PE.imp (Fb ho ho' ho'' h1 h2 h3 h4 hm) fun σ H Q h=>by
 obtain ⟨G,ow,δ,dd,R,hf,q⟩:=h
 obtain ⟨x,e1,hf⟩:=bind1 hf
 obtain ⟨y,e2,hf⟩:=bind1 hf
 obtain ⟨z,e3,hf⟩:=bind1 hf
 refine ⟨G,ow,δ,x,R,e1,fun v H1 s1 r1=>⟨G,ow,δ,y,R.grow s1,e2,fun u H2 s2 r2=>?_⟩⟩
 refine hb H2 v u x y z _ (RA.same s2 r1) r2 e3 fun zv hz rz=>?_
 split at hf
 ·obtain rfl:=rz.blE
  obtain ⟨w,e4,hf⟩:=bind1 hf
  obtain ⟨z',e5,hf⟩:=bind1 hf
  refine ⟨true,rfl,zJ ⟨G,ow,δ,w,R.grow (s1.trans s2),e4,fun wv H3 s3 r3=>?_⟩⟩
  refine hb' H3 u wv y w z' _ (RA.same s3 r2) r3 e5 fun zv' hz' rz'=>?_
  split at hf
  ·obtain rfl:=rz'.blE
   obtain ⟨t,e6,e7⟩:=bind1 hf
   refine ⟨true,rfl,zJ ⟨G,ow,δ,t,R.grow (s1.trans (s2.trans s3)),e6,fun tv H4 s4 r4=>?_⟩⟩
   exact hb'' H4 wv tv w t dd Q (RA.same s4 r3) r4 e7 fun z hz rz=>q z H4 (s1.trans (s2.trans (s3.trans s4))) (.inl ⟨hz,rz⟩)
  ·obtain rfl:=rz'.blE
   cases hf
   exact ⟨false,rfl,zH (q _ H3 (s1.trans (s2.trans s3)) (.inl ⟨rfl,.bl _⟩))⟩
  ·cases hf
 ·obtain rfl:=rz.blE
  cases hf
  exact ⟨false,rfl,zH (q _ H2 (s1.trans s2) (.inl ⟨rfl,.bl _⟩))⟩
 ·cases hf
theorem Bw {K:PySem.W.Frag} {ok:Ok} {pl:Bool} {H:Hp} {v:V} {d:D} (r:RA K ok pl H v d):decide (v = .non)=isNone d:=by
 cases r <;> rfl
theorem Ph {j pos'} (h:DE X fl .P a f):DE X fl .FC (.Compare a [.Is] [.Constant .none j pos'] pos) (dUn oE f):=PE.imp (N8 (GC h)) fun σ H Q h=>by
 obtain ⟨G,ow,δ,d,R,hf,q⟩:=h
 obtain ⟨x,e1,e2⟩:=bind1 hf
 cases e2
 refine ⟨G,ow,δ,x,R,e1,fun v H1 s1 r1=>?_⟩
 show Q (.bl (decide (v = .non))) H1
 rw [Bw (RA.same (Same.refl H1) r1)]
 exact q _ H1 s1 (.inl ⟨rfl,.bl _⟩)
def BrC (K:PySem.W.Frag) (r:List V→Hp→VK→Prop) (g:List D→Option D):Prop:=∀ (H:Hp) (xs:List V) (ds:List D) (d:D) (Q:VK),RAs K ok1 true H xs ds→g ds=some d→(∀ v,flat d=true→RA K ok0 false H v d→Q v H)→r xs H Q
theorem eG {id:String} {r:List V→Hp→VK→Prop} {g:List D→Option D} {x:Str} {p:Pos} {fa:FA} (hc:mJ X (.builtin id) r) (hb:BrC X.K r g) (hg:Gl X x) (hm:X.mg x=none) (hv:bootBuiltins x=some (.builtin id)) (ha:DB X fl .P (e :: es) fa) (hn:x ≠ "__name__" := by decide) (hdb:(x == ("__debug__" : Str))=false:=by decide)
 (he:starEach (e :: es) X.env=(false,eval e X.env) :: starEach es X.env:=by exact oK rfl) (hpl:(backTo pos (starEach es X.env)).any (·.1)=false:=by exact Hw rfl):DE X fl .FC (.Call (.Name x p) (e :: es) [] pos) (dCall g fa) :=
 PE.imp (nF hc hg hm hv ha hn hdb he hpl) fun σ H Q h=>by
 obtain ⟨G,ow,δ,d,R,hf,q⟩:=h
 obtain ⟨ds,e1,e2⟩:=bind1 hf
 exact ⟨G,ow,δ,ds,R,e1,fun vs H' s r'=>hb H' vs ds d Q r' e2 fun v hv rv=>q v H' s (.inl ⟨hv,rv⟩)⟩
theorem ju {K:PySem.W.Frag}:BrC K (fun xs H Q=>∃ p ys,xs=[.ref p]∧(SqL K H p ys∨SqT K H p ys)∧Q (.int ys.length) H) jm:=by
 intro H xs ds d Q r e q
 unfold jm at e
 split at e
 ·next l =>
  cases e
  cases r with
  | cons r1 r2 =>
   cases r2
   obtain ⟨a,ys,rfl,hx,hr⟩:=r1.lstE
   refine ⟨a,ys,rfl,.inl hx,?_⟩
   rw [hr.length]
   exact q _ rfl (.int _)
 ·next l =>
  cases e
  cases r with
  | cons r1 r2 =>
   cases r2
   obtain ⟨a,ys,rfl,hx,hr⟩:=r1.tupE
   refine ⟨a,ys,rfl,.inr hx,?_⟩
   rw [hr.length]
   exact q _ rfl (.int _)
 ·cases e
theorem HD {K:PySem.W.Frag}:BrC K (fun xs H Q=>∃ i j,xs=[.int i,.int j]∧Q (.int (if j > i then j else i)) H) wK:=by
 intro H xs ds d Q r e q
 unfold wK at e
 split at e
 ·cases e
  cases r with
  | cons r1 r2 =>
   cases r2 with
   | cons r2 r3 =>
    cases r3
    obtain rfl:=r1.intE
    obtain rfl:=r2.intE
    exact ⟨_,_,rfl,q _ rfl (.int _)⟩
 ·cases e
theorem xU {K:PySem.W.Frag}:BrC K (fun xs H Q=>∃ i j,xs=[.int i,.int j]∧Q (.int (if j < i then j else i)) H) uI:=by
 intro H xs ds d Q r e q
 unfold uI at e
 split at e
 ·cases e
  cases r with
  | cons r1 r2 =>
   cases r2 with
   | cons r2 r3 =>
    cases r3
    obtain rfl:=r1.intE
    obtain rfl:=r2.intE
    exact ⟨_,_,rfl,q _ rfl (.int _)⟩
 ·cases e
theorem Ku (d:D):tyD d = "NoneType" ∨ tyD d = "bool" ∨ tyD d = "int" ∨ tyD d = "str" ∨ tyD d = "list" ∨ tyD d = "tuple" ∨ tyD d = "dict" := by
 cases d <;> simp [tyD]
def Vh (K:PySem.W.Frag):List V→Hp→VK→Prop:=fun xs H Q=>∃ x c d,xs=[x,.ty c]∧(c = "int" ∨ c = "bool" ∨ c = "tuple" ∨ c = "list" ∨ c = "str")∧RA K ok1 true H x d∧Q (.bl (isT c (tyD d))) H
theorem HJ:mJ X (.builtin "isinstance") (Vh X.K):=by
 intro pins s σ H xs us Q I r h
 obtain ⟨x,c,d,rfl,hc,ra,q⟩:=h
 obtain ⟨u,w',rfl,rx,rc⟩:=vals2 r
 cases rc
 have kn:=O8 (K:=X.K) hc (Ku d)
 have fin:∀ tk,EP X pins σ Q (.bool (isT c (tyD d))) { s with toks:=tk }:=fun tk=>⟨.bl _,H,I.tok _,rfl,q⟩
 cases ra with
 | non=>cases (show u=Value.none from rx);exact PySem.W.kia_one PySem.W.kitx_none I.kIn True.intro kn (fun z=>nomatch z) fin
 | bl b=>cases (show u=Value.bool b from rx);exact PySem.W.kia_one PySem.W.kitx_bool I.kIn True.intro kn (fun z=>nomatch z) fin
 | int i=>obtain ⟨t,z⟩:=(show ∃ t,u=Value.int i t from rx);cases z;exact PySem.W.kia_one PySem.W.kitx_int I.kIn True.intro kn (fun z=>nomatch z) fin
 | str y=>obtain ⟨t,z⟩:=(show ∃ t,u=Value.str y t from rx);cases z;exact PySem.W.kia_one PySem.W.kitx_str I.kIn True.intro kn (fun z=>nomatch z) fin
 | @lst a xs ds e k q' =>
  cases (show u=Value.ref a from rx)
  obtain ⟨its,_,⟨o,n,e1,e2,_⟩,_⟩:=I.list (SqL.of e)
  exact PySem.W.kia_one PySem.W.kitx_list I.kIn ⟨_,e1,e2⟩ kn (fun z=>nomatch z) fin
 | @lsk a xs ds e k q' =>
  cases (show u=Value.ref a from rx)
  obtain ⟨its,_,⟨o,n,e1,e2,_⟩,_⟩:=I.list e.sq
  exact PySem.W.kia_one PySem.W.kitx_list I.kIn ⟨_,e1,e2⟩ kn (fun z=>nomatch z) fin
 | @tup a xs ds e q' =>
  cases (show u=Value.ref a from rx)
  obtain ⟨its,_,⟨o,e1,e2,_⟩,_⟩:=I.tuple e.sq
  exact PySem.W.kia_one PySem.W.kitx_tuple I.kIn ⟨_,e1,e2⟩ kn (fun z=>nomatch z) fin
 | @dic a u0 kvs e g k =>
  rcases g.or with ⟨ks,z⟩ | ⟨ks,z⟩
  ·rw [z] at e;exact wA I rx (TyOf.dK e) kn fin
  ·rw [z] at e;exact wA I rx (TyOf.dT e) kn fin
 | @dik a u0 kvs ob e g k =>
  cases (show u=Value.ref a from rx)
  have ob:=(show gB X.prog X.w H s.heap a u0 from (show L2.Rd H a u0 from .inr ⟨_,e⟩).ok I.hok)
  rcases g.or with ⟨ks,z⟩ | ⟨ks,z⟩
  ·rw [z] at ob
   obtain ⟨_,_,vs,_,dd⟩:=ob
   obtain ⟨o1,_,_,h1,h2,_⟩:=dd
   exact PySem.W.kia_one PySem.W.kitx_dict I.kIn ⟨_,h1,h2.1⟩ kn (fun z=>nomatch z) fin
  ·rw [z] at ob
   obtain ⟨_,_,xs,_,o1,_,_,h1,h2,_⟩:=ob
   exact PySem.W.kia_one PySem.W.kitx_dict I.kIn ⟨_,h1,h2.1⟩ kn (fun z=>nomatch z) fin
theorem qy {T:String} {x:Str} {p p':Pos} (hc:T = "int" ∨ T = "bool" ∨ T = "tuple" ∨ T = "list" ∨ T = "str") (h:DE X fl .P a f) (hg:Gl X "isinstance") (hm:X.mg "isinstance" = none) (hg':Gl X x) (hm':X.mg x=none) (hv':bootBuiltins x=some (.type T))
 (hn':x ≠ "__name__" := by decide) (hd':(x == ("__debug__" : Str))=false:=by decide)
 (he:starEach [a,.Name x p'] X.env=(false,eval a X.env) :: starEach [.Name x p'] X.env:=by rfl) (he2:starEach [.Name x p'] X.env=(false,eval (.Name x p') X.env) :: starEach [] X.env:=by rfl) (hpl:(backTo pos (starEach [.Name x p'] X.env)).any (·.1)=false:=by rfl) :
 DE X fl .FC (.Call (.Name "isinstance" p) [a,.Name x p'] [] pos) (dUn (gIs T) f) :=
 PE.imp (nF HJ hg hm boot_isinstance (mK h (mK (JX (v:=.ty T) hg' hm' hv' rfl hn' hd') rZ he2) he) (by decide) (by decide) he hpl) fun σ H Q h=>by
 obtain ⟨G,ow,δ,d,R,hf,q⟩:=h
 obtain ⟨x,e1,e2⟩:=bind1 hf
 cases e2
 exact ⟨G,ow,δ,x,R,e1,fun v H1 s1 r1=>⟨v,T,x,rfl,hc,r1,q _ H1 s1 (.inl ⟨rfl,.bl _⟩)⟩⟩
end
def spD (K:PySem.W.Frag) (F:List D→Option D):Sp:=fun vs H Q _=>∃ ds d,(Tb H∧RAs K ok1 true H vs ds)∧F ds=some d∧∀ v H',Same H H'→RA K (okN H) false H' v d→Q v H'
section
variable {P:Program} {w:World} {K:PySem.W.Frag} {mg:Str→Option Value} {base:Heap} {x:Str} {ps N:List Str} {st:Stmt} {k n:Nat} {fs:FS} {fl:List Fl}
theorem pQ {vs:List V} {ds:List D} {H:Hp} (p:Nat) (hp:∀ i,i < p→fl[i]? = some .A) (hl:ds.length=p) (hN:p ≤ N.length) (r':Tb H∧RAs K ok1 true H vs ds) :
 Rel K fl ⟨H,H,fun _=>none,fun _=>[],r'.1⟩ ow0 (L2.start N vs) H (ds.map (fun d=>some (.d d))++bG (N.length - p) none):=by
 have r:=r'.2
 have hv:vs.length=p:=by rw [r.length];exact hl
 have get:∀ i d,(ds.map (fun d=>some (U.d d))++bG (N.length - p) none)[i]? = some (some (.d d))→i < p∧ds[i]? = some d:=fun i d h=>by
  by_cases hi:i < p
  ·rw [dF (by rw [aJ,hl];exact hi),aQ] at h
   cases e:ds[i]? with
   | none=>rw [e] at h;cases h
   | some z=>rw [e] at h;cases h;exact ⟨hi,rfl⟩
  ·rw [dh (by rw [aJ,hl];omega),fP] at h
   split at h <;> cases h
 refine ⟨Same.refl H,Same.refl H,?_,fun i a h=>(by cases h),fun i j a h=>(by cases h),fun i h=>rfl,fun i d h _ _=>?_,fun i d h _ h2 _=>?_,fun i a h=>(by cases h),fun i j a h=>(by cases h),fun i j a h=>(by cases h),fun i h=>rfl,fun i d hn h=>?_⟩
 ·unfold L2.start
  simp only [bQ,aJ,bZ,hv,hl]
 ·obtain ⟨hi,e⟩:=get i d h
  obtain ⟨v,e1,e2⟩:=r.get e
  refine ⟨v,?_,e2.imp (fun _ _=>⟨fun i z=>(by cases z),fun i z=>(by cases z)⟩) (fun z=>z)⟩
  unfold L2.start
  rw [dF (by rw [aJ,hv];exact hi),aQ,e1]
  rfl
 ·exact absurd (hp i (get i d h).1) h2
 ·rw [hp i (get i d h).1] at hn
  cases hn
end
section
variable {X:Cx} {fl:List Fl} {e:Expr} {es:List Expr} {pos p:Pos} {x:Str} {ps:List Str} {n:Nat} {F:List D→Option D} {fa:FA}
theorem bJ (h:Has X.prog X.w X.K X.mg X.base n x ps (spD X.K F)) (hr:Room n X.A) (ha:DB X fl .P (e :: es) fa) (hg:Gl X x:=by rfl) (hdb:(x == ("__debug__" : Str))=false:=by decide)
 (he:starEach (e :: es) X.env=(false,eval e X.env) :: starEach es X.env:=by exact oK rfl) (hpl:(backTo pos (starEach es X.env)).any (·.1)=false:=by exact Hw rfl) :
 DE X fl .C (.Call (.Name x p) (e :: es) [] pos) (dCall F fa):=PE.imp (Hg h hr ha hg hdb he hpl) fun σ H Q h=>by
 obtain ⟨G,ow,δ,d,R,hf,q⟩:=h
 obtain ⟨ds,e1,e2⟩:=bind1 hf
 refine ⟨G,ow,δ,ds,R,e1,fun vs H' s r=>?_⟩
 show spD X.K F (vs++[]) H' Q E0
 rw [cP]
 exact ⟨ds,d,⟨R.tb.same s,r⟩,e2,fun v H2 s2 r2=>q v H2 (s.trans s2) (RA.imp (fun a z=>s.free z) (fun z=>z) r2)⟩
end
end D3
namespace D3
open PySem PySem.Spec PyProof.Rows L2 My
section
variable {X:Cx} {fl fl':List Fl} {e a b c elt tg iter:Expr} {es ifs:List Expr} {k:Kd} {f fa fb fc:FE} {ft gt:FT} {pos:Pos} {scope:Scope} {ix L TT:List Nat} {fi:FA} {g:FG}
theorem lG:PTs X [] (tDT X.K fl D3.jM):=fun pins s σ H Q I h=>by
 obtain ⟨G,ow,δ,b,R,hf,q⟩:=h
 cases hf
 exact Kf pins s σ H Q I (q H (Same.refl H))
theorem Kv {K:PySem.W.Frag} {G:Gh} {ow:Ow} {σ:St} {H H1:Hp} {δ:DS} (t:Nat) (ix:List Nat) (hfl:∀ i,i < t + ix.length→fl'[i]? = some .A) (R:Rel K fl G ow σ H δ) (s:Same H H1) :
 Rel K fl' ⟨H,H,fun _=>none,fun _=>[],R.tb⟩ ow0 (vI t ix σ) H1 (jj t ix δ):=by
 have get:∀ i d,(jj t ix δ)[i]? = some (some (.d d))→i < t + ix.length∧∃ j,ix[i - t]? = some j∧t ≤ i∧δ[j]? = some (some (.d d)):=fun i d h=>by
  unfold jj at h
  by_cases hi:i < t
  ·rw [dF (by rw [bZ];exact hi),fP,if_pos hi] at h
   cases h
  ·rw [dh (by rw [bZ];omega),bZ,aQ] at h
   cases e:ix[i - t]? with
   | none=>rw [e] at h;cases h
   | some j =>
    rw [e] at h
    have hl:i - t < ix.length:=by
     rcases jh (i - t) ix.length with z | z
     ·exact z
     ·rw [bA z] at e;cases e
    refine ⟨by omega,j,rfl,by omega,?_⟩
    have h':(δ[j]?).getD none=some (.d d):=by simpa using h
    cases q:δ[j]? with
    | none=>rw [q] at h';cases h'
    | some o=>rw [q] at h';simp at h';rw [h']
 refine ⟨Same.refl H,s,?_,fun i a h=>(by cases h),fun i j a h=>(by cases h),fun i h=>rfl,fun i d h _ _=>?_,fun i d h _ h2 _=>absurd (hfl i (get i d h).1) h2,fun i a h=>(by cases h),fun i j a h=>(by cases h),fun i j a h=>(by cases h),fun i h=>rfl,fun i d hn h=>(by rw [hfl i (get i d h).1] at hn;cases hn)⟩
 ·unfold vI jj
  simp
 ·obtain ⟨hi,j,ej,ht,ed⟩:=get i d h
  have key:∃ v,σ[j]? = some (some v)∧RA K ok1 true H v d:=by
   cases hN:isN fl[j]? with
   | true =>
    obtain ⟨v,h1,h2,_⟩:=R.nr j d hN ed
    exact ⟨v,h1,h2.ra fun _ _=>trivial⟩
   | false =>
   cases ho:ow j with
   | none =>
    obtain ⟨v,h1,h2⟩:=R.dat j d ed hN ho
    exact ⟨v,h1,h2.imp (fun _ _=>trivial) (fun z=>z)⟩
   | some a =>
    obtain ⟨_,_,xs,ds,h1,h2,h3,h4⟩:=R.own j a ho
    rw [ed] at h4
    cases h4
    exact ⟨_,h1,.lst h2 trivial (h3.imp (fun _ _=>trivial) (fun z=>z))⟩
  obtain ⟨v,h1,h2⟩:=key
  refine ⟨v,?_,(h2.imp (fun _ _=>⟨fun i z=>(by cases z),fun i z=>(by cases z)⟩) (fun z=>z)).same s⟩
  unfold vI
  rw [dh (by rw [bZ];omega),bZ,aQ,ej]
  show some ((σ[j]?).getD none)=_
  rw [h1]
  rfl
theorem pA {σ:St} {H:Hp} {Q:VK} {t:Nat} (hfl:∀ i,i < t + ix.length→fl'[i]? = some .A) (htg:∀ j ∈ TT,j < t)
 (h:tD X.K fl .FC (gD fi g ft f t ix) σ H Q):Dh (tDI X.K fl L fi) (tDG X.K fl' TT g) (tDT X.K fl' ft) (tD X.K fl' .C f) t (vI t ix) σ H Q:=by
 obtain ⟨G,ow,δ,d,R,hf,q⟩:=h
 obtain ⟨l,e1,e2⟩:=bind1 hf
 by_cases hl:l.length ≤ 100000
 case neg=>rw [if_neg hl] at e2;cases e2
 rw [if_pos hl] at e2
 obtain ⟨r,e3,e4⟩:=bind1 e2
 cases e4
 refine ⟨G,ow,δ,l,R,e1,fun J H1 s1 wk Dl hD=>?_⟩
 have R1:=R.grow s1
 let okD:Ok:=fun b=>okN H b∧b ≠ Dl
 refine ⟨fun i m xs H2=>m=l.length - i∧H2 Dl=some (.lst xs)∧Same H1 H2∧xs.length ≤ i∧i ≤ l.length∧∃ ds rest,RAs X.K okD false H2 xs ds∧dW g ft f (jj t ix δ) (l.drop i)=some rest∧r=ds++rest,
  ⟨_,rfl,cQ,dG hD _,bf _,dU _,[],r,.nil,by simpa using e3,rfl⟩,?_⟩
 rintro i m xs H2 ⟨rfl,hDl,s2,hxl,hil,ds,rest,hr,hc,rfl⟩
 refine ⟨hDl,?_⟩
 obtain ⟨w1,w2⟩:=wk H2 (fun b o hb _ _=>s2 b o hb) i
 by_cases hlt:i < l.length
 ·have hdrop:l.drop i=l[i] :: l.drop (i + 1):=mz hlt
  rw [hdrop,dW] at hc
  obtain ⟨δ1,e5,hc⟩:=bind1 hc
  obtain ⟨bb,e6,hc⟩:=bind1 hc
  obtain ⟨go,yl⟩:=w1 l[i] (aZ hlt)
  refine .inr ⟨go,Nat.lt_of_le_of_lt (bT hxl (bT hil hl)) (by decide),fun x H3 hy=>?_⟩
  obtain ⟨s3,r3⟩:=yl x H3 hy
  have s13:=s2.trans s3
  have Rb:=(Kv t ix hfl R1 (Same.refl H1)).grow s13
  refine ⟨_,_,_,_,δ1,Rb,r3.imp (fun _ _=>⟨fun i z=>(by cases z),fun i z=>(by cases z)⟩) (fun z=>z),e5,fun σ4 R4 keep4=>⟨?_,?_⟩⟩
  ·apply d7
   intro n
   rw [lQ,lQ]
   exact keep4 (t + n) fun z=>absurd (htg _ z) (by omega)
  ·refine ⟨_,_,δ1,bb,R4,e6,fun H5 s5=>?_⟩
   cases bb with
   | false =>
    rw [if_neg dg] at hc ⊢
    have s35:=s3.trans s5
    exact ⟨l.length - (i + 1),by omega,rfl,s35 _ _ hDl,s2.trans s35,by omega,hlt,ds,rest,hr.same s35,hc,rfl⟩
   | true =>
    rw [if_pos rfl] at hc ⊢
    obtain ⟨y,e7,hc⟩:=bind1 hc
    obtain ⟨l',e8,hc⟩:=bind1 hc
    cases hc
    refine ⟨_,_,δ1,y,R4.grow s5,e7,fun v H6 s6 r6=>?_⟩
    have s35:=s3.trans s5
    have s36:=s35.trans s6
    refine ⟨s36 _ _ hDl,l.length - (i + 1),by omega,rfl,cQ,?_,by rw [bQ,oX];omega,hlt,ds++[y],l',?_,e8,by simp⟩
    ·intro b o hb
     rw [cC (fun z=>by subst z;rw [hD] at hb;cases hb)]
     exact (s2.trans s36) b o hb
    ·have nd:¬ okD Dl:=fun z=>z.2 rfl
     have s05:Same H H5:=s1.trans (s2.trans s35)
     have ry:RA X.K okD false H6 v y:=RA.imp (fun b z=>⟨s05.free z,fun e=>by subst e;rw [okN,s35 _ _ hDl] at z;cases z⟩) (fun z=>z) r6
     exact ((hr.same s36).append (.cons ry .nil)).upd (s36 _ _ hDl) nd
 ·have ed:l.drop i=[]:=nT (by omega)
  rw [ed,dW] at hc
  cases hc
  refine .inl ⟨w2 (by omega),?_⟩
  rw [cP] at q
  exact q (.ref Dl) H2 (s1.trans s2) (.inr ⟨Dl,xs,ds,rfl,rfl,s1.free hD,hDl,hr⟩)
theorem iV (hc:X.calm=true) (T Vn:List Str) (ix:List Nat) (hi:DI X fl L tg iter fi)
 (hg:∀ cl C s3 H3 fp,DG (blk X (T++Vn) scope cl C s3 H3 fp) fl' TT tg g) (ht:∀ cl C s3 H3 fp,PTs (blk X (T++Vn) scope cl C s3 H3 fp) ifs (tDT X.K fl' ft)) (he:∀ cl C s3 H3 fp,DE (blk X (T++Vn) scope cl C s3 H3 fp) fl' .C elt f)
 (hfl:∀ i,i < T.length + ix.length→fl'[i]? = some .A:=by decide) (htg:∀ j ∈ TT,j < T.length:=by decide)
 (hB:tU X.N X.env.scope.names scope.names Vn ix=true:=by rfl) (hk:scope.kind = .function:=by rfl) (hcell:∀ y ∈ scope.names,y.2 ≠ .cell:=by decide +kernel)
 (hnames:∀ x ∈ scope.names,x.2 = .local→scope.names.lookup x.1=some .local:=by decide +kernel)
 (hfr:∀ x ∈ scope.names,x.2 = .free→x.1 ∈ Vn:=by decide +kernel) (hs:∀ x,foldedSetIterable iter X.env x=pure x:=by intro _;rfl) :
 DE X fl .FC (.ListComp elt [⟨tg,iter,ifs,0⟩] scope pos) (gD fi g ft f T.length ix) :=
 PE.imp (Kg hc T Vn ix hi hg ht he hB hk hcell hnames hfr hs) fun _ _ _ h=>pA hfl htg h
theorem pB {i:Nat} {x:Str} {pos' spos:Pos} (hfx:fl[i]? = some .A) (hN:X.N.Nodup) (hi':X.N[i]? = some x) (hx:X.env.scope.names.lookup x=some .local) (hc:X.calm=true) (T Vn:List Str) (ix:List Nat) (hi:DI X fl L tg iter fi)
 (hg:∀ cl C s3 H3 fp,DG (blk X (T++Vn) scope cl C s3 H3 fp) fl' TT tg g) (ht:∀ cl C s3 H3 fp,PTs (blk X (T++Vn) scope cl C s3 H3 fp) ifs (tDT X.K fl' ft)) (he:∀ cl C s3 H3 fp,DE (blk X (T++Vn) scope cl C s3 H3 fp) fl' .C elt f)
 (hfl:∀ i,i < T.length + ix.length→fl'[i]? = some .A:=by decide) (htg:∀ j ∈ TT,j < T.length:=by decide)
 (hsw:swapsWith (.ListComp elt [⟨tg,iter,ifs,0⟩] scope pos) (some (.Name x pos')) spos.line X.env=pure true:=by rfl)
 (hB:tU X.N X.env.scope.names scope.names Vn ix=true:=by rfl) (hk:scope.kind = .function:=by rfl) (hcell:∀ y ∈ scope.names,y.2 ≠ .cell:=by decide +kernel)
 (hnames:∀ x ∈ scope.names,x.2 = .local→scope.names.lookup x.1=some .local:=by decide +kernel)
 (hfr:∀ x ∈ scope.names,x.2 = .free→x.1 ∈ Vn:=by decide +kernel) (hs:∀ x,foldedSetIterable iter X.env x=pure x:=by intro _;rfl) :
 DS1 X fl (.Assign [.Name x pos'] (.ListComp elt [⟨tg,iter,ifs,0⟩] scope pos) spos) (bW i (gD fi g ft f T.length ix)) :=
 PS.imp (Di hN hi' hx hc T Vn ix hi hg ht he hsw hB hk hcell hnames hfr hs) fun Dn σ H h=>by
 obtain ⟨G,ow,δ,o,R,hf,q⟩:=h
 unfold bW at hf
 by_cases hl:i < δ.length
 ·rw [if_pos hl] at hf
  obtain ⟨d,e1,e2⟩:=bind1 hf
  cases e2
  exact pA (fl:=fl) hfl htg ⟨G,ow,δ,d,R,e1,fun v H' s r=>q ow _ H' ((R.grow s).setA hfx (pK R hl) ((r.FC_F R).F_A R))⟩
 ·rw [if_neg hl] at hf
  cases hf
theorem zR {i:Nat} {x:Str} {pos' spos:Pos} (hfx:fl[i]? = some .O) (hN:X.N.Nodup) (hi':X.N[i]? = some x) (hx:X.env.scope.names.lookup x=some .local) (hc:X.calm=true) (T Vn:List Str) (ix:List Nat) (hi:DI X fl L tg iter fi)
 (hg:∀ cl C s3 H3 fp,DG (blk X (T++Vn) scope cl C s3 H3 fp) fl' TT tg g) (ht:∀ cl C s3 H3 fp,PTs (blk X (T++Vn) scope cl C s3 H3 fp) ifs (tDT X.K fl' ft)) (he:∀ cl C s3 H3 fp,DE (blk X (T++Vn) scope cl C s3 H3 fp) fl' .C elt f)
 (hfl:∀ i,i < T.length + ix.length→fl'[i]? = some .A:=by decide) (htg:∀ j ∈ TT,j < T.length:=by decide)
 (hsw:swapsWith (.ListComp elt [⟨tg,iter,ifs,0⟩] scope pos) (some (.Name x pos')) spos.line X.env=pure true:=by rfl)
 (hB:tU X.N X.env.scope.names scope.names Vn ix=true:=by rfl) (hk:scope.kind = .function:=by rfl) (hcell:∀ y ∈ scope.names,y.2 ≠ .cell:=by decide +kernel)
 (hnames:∀ x ∈ scope.names,x.2 = .local→scope.names.lookup x.1=some .local:=by decide +kernel)
 (hfr:∀ x ∈ scope.names,x.2 = .free→x.1 ∈ Vn:=by decide +kernel) (hs:∀ x,foldedSetIterable iter X.env x=pure x:=by intro _;rfl) :
 DS1 X fl (.Assign [.Name x pos'] (.ListComp elt [⟨tg,iter,ifs,0⟩] scope pos) spos) (bW i (gD fi g ft f T.length ix)) :=
 PS.imp (Di hN hi' hx hc T Vn ix hi hg ht he hsw hB hk hcell hnames hfr hs) fun Dn σ H h=>by
 obtain ⟨G,ow,δ,o,R,hf,q⟩:=h
 unfold bW at hf
 by_cases hl:i < δ.length
 ·rw [if_pos hl] at hf
  obtain ⟨d,e1,e2⟩:=bind1 hf
  cases e2
  refine pA (fl:=fl) hfl htg ⟨G,ow,δ,d,R,e1,fun v H' s r=>?_⟩
  obtain ⟨ow',R'⟩:=R.setO s hfx (pK R hl) (r.FC_F R)
  exact q ow' _ H' R'
 ·rw [if_neg hl] at hf
  cases hf
theorem Dp {K:PySem.W.Frag} {G:Gh} {ow:Ow} {H H1:Hp} {p:Addr} {vs:List V} {l:List D} (s:Same H H1) (hp:H1 p=none) (r:RAs K (okA ow) true H1 vs l):Rs K G.H0 ow H (upd H1 p (.lst vs)) .F (.ref p) (.list l) :=
 .inr ⟨p,vs,l,rfl,rfl,s.free hp,cQ,(r.track.imp (fun b w=>⟨w.1,fun e=>w.2 (e ▸ hp)⟩) (fun z=>z)).same (dG hp _)⟩
theorem Bx {K:PySem.W.Frag} {H0:Hp} {ow:Ow} {Hb H:Hp} {L:List Nat} {v:V} {l:List D} (r:Rs K H0 ow Hb H (.B L) v (.list l)):∃ a xs,v = .ref a∧SqL K H a xs∧RAs K (okA ow) true H xs l:=by
 rcases r with r | ⟨i,hi,a,xs,ds,ho,rfl,e,hx,hr⟩
 ·exact r.lstE
 ·cases e
  exact ⟨a,xs,rfl,SqL.of hx,hr⟩
def SN (K:PySem.W.Frag):R2:=fun x y H Q=>∃ l b xs zs,x = .ref l∧y = .ref b∧SqL K H l xs∧SqL K H b zs∧xs.length + zs.length ≤ sizeLine∧∀ p,H p=none→Q (.ref p) (upd H p (.lst (xs++zs)))
theorem Kw:OpR X (binaryOp .Add) (SN X.K):=by
 intro pins s σ H x y v u Q I rx ry h
 obtain ⟨l,b,xs,zs,rfl,rfl,hH,hB,hz,q⟩:=h
 cases rx
 cases ry
 obtain ⟨its,r,p,_⟩:=I.list hH
 obtain ⟨its2,r2,p2,_⟩:=I.list hB
 obtain ⟨⟨cls,dd,data,sl⟩,ho,hc,n,hd⟩:=p.isList
 obtain ⟨⟨cls2,dd2,data2,sl2⟩,ho2,hc2,n2,hd2⟩:=p2.isList
 simp only at hc hd hc2 hd2
 subst hc hd hc2 hd2
 have e1:=r.length
 have e2:=r2.length
 have e:its.toArray++its2.toArray=(its++its2).toArray:=by simp
 refine concat_meets ⟨_,ho,rfl⟩ ⟨_,ho2,rfl⟩ noFill_list_add seq_list_add PySem.F.slot_list_add PySem.F.entry_list_add (PySem.F.args_list_add_2 _ _) (list_addW l b its.toArray its2.toArray n n2 dd dd2 sl sl2 (by simp;omega)) ⟨ho,ho2,?_⟩
 rw [e]
 exact ⟨.ref _,_,I.lnew (t':=s.toks) (r.append r2) (by rw [bQ];omega),rfl,q _ I.fresh⟩
theorem xV {L L':List Nat} (h1:DE X fl (.B L) a fa) (h2:DE X fl (.B L') b fb):DE X fl .F (.BinOp a .Add b pos) (dOp sE fa fb):=PE.imp (G3 Kw h1 h2) fun σ H Q h=>by
 obtain ⟨G,ow,δ,d,R,hf,q⟩:=h
 obtain ⟨x,y,e1,e2,e3⟩:=zO hf
 refine ⟨G,ow,δ,x,R,e1,fun v H1 s1 r1=>⟨G,ow,δ,y,R.grow s1,e2,fun u H2 s2 r2=>?_⟩⟩
 unfold sE at e3
 split at e3
 ·next l m =>
  by_cases z:l.length + m.length ≤ 1000000
  ·rw [if_pos z] at e3
   cases e3
   obtain ⟨p,xs,rfl,hx,hr⟩:=Bx r1
   obtain ⟨p',ys,rfl,hy,hr'⟩:=Bx r2
   refine ⟨p,p',xs,ys,rfl,rfl,s2.seq hx,hy,?_,fun pn hp=>q _ _ ((s1.trans s2).trans (dG hp _)) (Dp (G:=G) (s1.trans s2) hp ((hr.same s2).append hr'))⟩
   rw [hr.length,hr'.length]
   exact bT z (by decide)
  ·rw [if_neg z] at e3
   cases e3
 ·cases e3
theorem RAs.rep {K:PySem.W.Frag} {ok:Ok} {pl:Bool} {H:Hp} {vs:List V} {l:List D} (r:RAs K ok pl H vs l):∀ n:Nat,RAs K ok pl H (bG n vs).flatten (bG n l).flatten
 | 0=>.nil
 | n + 1=>by
  rw [cO,cO,fQ,fQ]
  exact r.append (RAs.rep r n)
theorem Pj (h1:DE X fl .F a fa) (h2:DE X fl .P b fb):DE X fl .F (.BinOp a .Mult b pos) (dOp Hl fa fb):=PE.imp (G3 O7 h1 h2) fun σ H Q h=>by
 obtain ⟨G,ow,δ,d,R,hf,q⟩:=h
 obtain ⟨x,y,e1,e2,e3⟩:=zO hf
 refine ⟨G,ow,δ,x,R,e1,fun v H1 s1 r1=>⟨G,ow,δ,y,R.grow s1,e2,fun u H2 s2 r2=>?_⟩⟩
 unfold Hl at e3
 split at e3
 ·next l k =>
  by_cases z:l.length * k.toNat ≤ 1000000∧-(2 ^ 63) ≤ k∧k < 2 ^ 63
  ·rw [if_pos z] at e3
   cases e3
   obtain rfl:=RA.intE r2
   rcases r1 with ⟨hz,_⟩ | ⟨p,xs,ds,rfl,ez,h3,h4,h5⟩
   ·simp [flat] at hz
   ·cases ez
    refine ⟨p,k,xs,rfl,rfl,s2 _ _ h4,z.2.1,z.2.2,?_,fun pn hp=>q _ _ ((s1.trans s2).trans (dG hp _)) (Dp (G:=G) (s1.trans s2) hp (((h5.imp (fun b w=>w.1) (fun z=>z)).same s2).rep _))⟩
    rw [h5.length]
    exact bT z.1 (by decide)
  ·rw [if_neg z] at e3
   cases e3
 ·cases e3
theorem xW {L:List Nat} {p:Pos} (h:DE X fl (.B L) a f) (hg:Gl X "list") (hm:X.mg "list" = none)
 (he:starEach [a] X.env=(false,eval a X.env) :: starEach [] X.env:=by rfl) (hpl:(backTo pos (starEach [] X.env)).any (·.1)=false:=by rfl):DE X fl .F (.Call (.Name "list" p) [a] [] pos) (dUn uJ f) :=
 PE.imp (wH xK hg hm boot_list (mK h rZ he) (by decide) (by decide) he hpl) fun σ H Q h=>by
 obtain ⟨G,ow,δ,d,R,hf,q⟩:=h
 obtain ⟨x,e1,e2⟩:=bind1 hf
 refine ⟨G,ow,δ,x,R,e1,fun v H1 s1 r1=>?_⟩
 unfold uJ at e2
 split at e2
 ·cases e2
  obtain ⟨p,xs,rfl,hx,hr⟩:=Bx r1
  exact ⟨p,xs,rfl,.inl hx,fun pn hp=>q _ _ (s1.trans (dG hp _)) (Dp (G:=G) s1 hp hr)⟩
 ·cases e2
  rcases r1 with r1 | ⟨i,hi,a,xs,ds,ho,rfl,e,hx,hr⟩
  ·obtain ⟨p,xs,rfl,hx,hr⟩:=r1.tupE
   exact ⟨p,xs,rfl,.inr hx,fun pn hp=>q _ _ (s1.trans (dG hp _)) (Dp (G:=G) s1 hp hr)⟩
  ·cases e
 ·cases e2
theorem pC {st:Stmt}:DS1 X fl st (fun _=>none):=PS.imp GJ fun Dn σ H h=>by
 obtain ⟨G,ow,δ,o,R,hf,q⟩:=h
 cases hf
end
end D3
namespace D3
open PySem PySem.Spec PyProof.Rows L2 My
section
variable {X:Cx} {pins:List (Addr × Obj)} {σ:St} {H:Hp} {s:Shared} {h':Heap}
theorem Inv.turnedL {t':Nat} {ch:List Addr} (I:Inv X pins σ H s) (k:∀ b o,b ∉ ch→s.heap.get? b=some o→h'.get? b=some o) (hf:∀ b ∈ ch,rW X pins H b):Inv X pins σ H { s with heap:=h',toks:=t' }:=by
 have nit:∀ b u,H b=some u→b ∉ ch:=fun b u e z=>by rw [(hf b z).1] at e;cases e
 refine I.step (g':=s.gens) (d':=s.drawn) (ch:=ch) (fun b hb=>?_) (fun b o _ _ hc e _=>k b o hc e) (fun b o _ _ hc e _=>⟨o.slots,k b o hc e⟩) (fun _ _ _ _ n=>n)
  (fun b o hc e=>⟨o,k b o hc e⟩) (fun _ _ e=>e) (fun _ _ _ e=>e) (fun _ _ _ e=>e) (fun m hm=>?_) (fun b u e=>?_) I.bare
 ·obtain ⟨f0,f1,f2,f3,f4,f5⟩:=hf b hb
  exact ⟨f3,f1,f4,f5⟩
 ·obtain ⟨o,es,ep,ho,r⟩:=hm
  exact ⟨o,es,ep,k _ o (fun z=>(hf _ z).2.1 rfl) ho,r⟩
 ·refine (I.hok b u e).stay (fun c v hc q=>k c v ?_ q) (fun _ q=>q) fun _ _ q=>q
  rcases hc with z | z
  ·rw [z];exact nit b u e
  ·exact nit c _ z
end
def Ite (K:PySem.W.Frag) (a:Addr):It :=
 ⟨fun i H=>∃ xs x,SqL K H a xs∧xs[i]? = some x,fun i H x H'=>∃ p y,H p=none∧H'=upd H p (.tup [.int i,y])∧x = .ref p∧∀ xs,SqL K H a xs→xs[i]? = some y,fun i H=>∃ xs,SqL K H a xs∧xs.length ≤ i⟩
theorem Fo {P:Program} {w:World} {K:PySem.W.Frag} {elts:List Expr} {x1} {tpos:Pos} (a it:Addr) :
 Turn P w K (.Tuple elts x1 tpos) (Ite K a) [it + 1,it] (it + 1) (fun i h=>∃ old,IsEnum h (it + 1) it (i:Int) old∧h.IsListIter it a i) where
 mem:=by simp
 obj:=fun i h st b hb=>by
  obtain ⟨old,he,o,e,c,d⟩:=st
  rcases bH.mp hb with z | z
  ·subst z
   exact ⟨_,he,fun v z=>by cases z⟩
  ·have z:b=it:=by simpa using z
   subst z
   exact ⟨o,e,fun v z=>by rw [d] at z;cases z⟩
 keep:=fun i h h' st k=>by
  obtain ⟨old,he,hi⟩:=st
  exact ⟨old,k _ (by simp) _ he,hi.at fun o e=>k it (by simp) o e⟩
 item:=by
  intro X hP hw hK hc i pins s σ H E I hf st hg
  subst hP hw hK
  obtain ⟨xs,x,hq,hx⟩:=hg
  obtain ⟨its,rv,p,hz⟩:=I.list hq
  obtain ⟨u,hu,ru⟩:=rv.get hx
  obtain ⟨old,he,hi⟩:=st
  have fe:=hf (it + 1) (by simp)
  have fi:=hf it (by simp)
  have hlt:it + 1 < s.heap.objs.size:=Heap.lt_size he
  refine wpAny_pyNext_enum_item he hi p.isList (x:=u) (by simpa using hu) (Nat.succ_ne_self it) fun h1 ho hi1 ht hsz hk=>?_
  refine ⟨_,rfl,wpAny_letOwnedTupleGo_enum ho fun h2 he2 hs2=>?_⟩
  replace hs2:Heap.SameBut (it + 1) h1 h2:=hs2
  have hn:H s.heap.objs.size=none:=I.hok.fresh (bf _)
  have I0:Inv X pins σ (upd H s.heap.objs.size (.tup [.int (i:Int),x])) { s with heap:=s.heap.push { cls:=.type "tuple", data:=.seq #[.int (i:Int) s.toks,u] } } :=
   I.laid (t':=s.toks) (fun b o e=>Heap.get?_push_of_some _ e) (bf _) ⟨show 2 ≤ sizeLine by decide,[.int (i:Int) s.toks,u],.cons ⟨_,rfl⟩ (.cons ru .nil),⟨_,Heap.get?_push_size _ rfl,rfl,_,rfl⟩⟩
  have ne:∀ b,b ∈ [it + 1,it]→b ≠ s.heap.objs.size:=fun b hb=>by
   rcases bH.mp hb with w' | w'
   ·rw [w'];exact bR hlt
   ·rw [show b=it by simpa using w'];exact bR (Nat.lt_of_succ_lt hlt)
  have I1:Inv X pins σ (upd H s.heap.objs.size (.tup [.int (i:Int),x])) { s with heap:=h2,toks:=s.toks + 1 }:=by
   refine Inv.turnedL (s:={ s with heap:=s.heap.push { cls:=.type "tuple", data:=.seq #[.int (i:Int) s.toks,u] } }) (ch:=[it + 1,it]) I0 (fun b o hb e=>?_) fun b hb=>⟨by rw [cC (ne b hb)];exact (hf b hb).1,(hf b hb).2⟩
   have b1:b ≠ it + 1:=fun z=>hb (by simp [z])
   have b2:b ≠ it:=fun z=>hb (by simp [z])
   rcases Heap.get?_push_cases e with ⟨e1,e2⟩ | e1
   ·subst e1 e2
    exact (hs2.2 _ b1).trans ht
   ·exact (hs2.2 _ b1).trans (hk b o b1 b2 e1)
  refine ⟨.ref s.heap.objs.size,_,I1,rfl,⟨_,x,hn,rfl,rfl,fun ys hy=>by rw [I.list_inj hy hq];exact hx⟩,⟨_,he2,hi1.at fun o e=>(hs2.2 _ (bR (nq it))).trans e⟩,fun b hb=>?_⟩
  rw [cC (ne b hb)]
  exact (hf b hb).1
 done:=by
  intro X hP hw hK hc i pins s σ H E I hf st hg
  subst hP hw hK
  obtain ⟨xs,hq,hx⟩:=hg
  obtain ⟨its,rv,p,hz⟩:=I.list hq
  obtain ⟨old,he,hi⟩:=st
  have hl:=rv.length
  refine wpAny_pyNext_enum_end (I.ok.hd hc) he hi p.isList (by simp;omega) fun h' eb=>⟨rfl,Inv.turnedL (t':=s.toks) (ch:=[it + 1,it]) I (fun b o hb e=>eb b o (fun z=>hb (by simp [z])) e) hf⟩
 self:=fun _ _ _ _ _ st h=>by
  obtain ⟨old,he,_⟩:=st
  exact wpAny_pyIter_enum he h
section
variable {X:Cx} {fl:List Fl} {a:Expr} {f:FE} {pos:Pos}
def SX (K:PySem.W.Frag) (tl:TE):TI:=fun σ H R=>tl σ H fun x H1=>∃ a,x = .ref a∧(∃ xs,SqL K H1 a xs)∧R (Ite K a) H1
theorem Ky {elts:List Expr} {x1} {tpos p:Pos} {tl:TE} (hg:Gl X "enumerate") (hm:X.mg "enumerate" = none) (hl:PE X a tl) (he:starEach [a] X.env=(false,eval a X.env) :: starEach [] X.env:=by rfl)
 (hpl:(backTo pos (starEach [] X.env)).any (·.1)=false:=by rfl):PI X (.Tuple elts x1 tpos) (.Call (.Name "enumerate" p) [a] [] pos) (SX X.K tl):=by
 intro pins s σ H R I h
 refine wpAny_Call_Name_kw (qt I hg hm boot_enumerate (PyProof.Rows.callWith_type1 (thn ((mK hl rZ he) pos pins s σ H (fun vs H1=>match vs with | [x]=>∃ a,x = .ref a∧(∃ xs,SqL X.K H1 a xs)∧R (Ite X.K a) H1 | _=>False) I h) fun us s1 ⟨vs,H1,I1,r1,q1⟩=>?_) he hpl))
 cases r1 with
 | nil=>exact q1.elim
 | cons r rr =>
  cases rr with
  | cons _ _=>exact q1.elim
  | nil =>
  obtain ⟨l,e,⟨xs,hq⟩,q⟩:=q1
  subst e
  cases r
  obtain ⟨its,rv,pl,hz⟩:=I1.list hq
  refine call_enumerate_list pl.isList fun h' he' hi' hsz hk=>?_
  have I2:Inv X pins σ H1 { s1 with heap:=h' }:=I1.kept (t':=s1.toks) hk
  refine wpAny_pyIter_enum (s:={ s1 with heap:=h' }) he' ?_
  refine ⟨s1.heap.objs.size + 1,[s1.heap.objs.size + 1,s1.heap.objs.size],_,_,H1,rfl,I2,Fo l s1.heap.objs.size,⟨_,he',hi'⟩,fun b hb=>?_,q⟩
  have hb':s1.heap.objs.size ≤ b:=by
   rcases bH.mp hb with z | z
   ·rw [z];exact kE _
   ·rw [show b=s1.heap.objs.size by simpa using z];exact bf _
  exact I1.fpOk hb' (I1.hok.fresh hb')
theorem uc {elts:List Expr} {x1} {tpos p:Pos} {L:List Nat} (h:DE X fl (.B L) a f) (hg:Gl X "enumerate") (hm:X.mg "enumerate" = none) (he:starEach [a] X.env=(false,eval a X.env) :: starEach [] X.env:=by rfl)
 (hpl:(backTo pos (starEach [] X.env)).any (·.1)=false:=by rfl):DI X fl L (.Tuple elts x1 tpos) (.Call (.Name "enumerate" p) [a] [] pos) (uK f):=PI.imp (Ky hg hm h he hpl) fun σ H R' h=>by
 obtain ⟨G,ow,δ,l,R,hf,q⟩:=h
 obtain ⟨d,e1,e2⟩:=bind1 hf
 cases d <;> first | (cases e2;done) | skip
 next l0 =>
 cases e2
 refine ⟨G,ow,δ,_,R,e1,fun v H1 s r=>?_⟩
 obtain ⟨a,xs,rfl,hx,keep⟩:=Bq (R.grow s) r
 refine ⟨a,rfl,⟨xs,hx⟩,q _ _ s fun H2 k2 i=>?_⟩
 obtain ⟨k3,k4⟩:=keep H2 k2
 refine ⟨fun d hd=>?_,fun hl=>⟨xs,k3,by rw [k4.length];simpa [jV] using hl⟩⟩
 have hd':(l0[i]?).map (fun x=>PyData.tuple [.int (i:Int),x])=some d:=by
  have:=hd
  unfold jV at this
  rw [iY] at this
  exact this
 cases e:l0[i]? with
 | none=>rw [e] at hd';cases hd'
 | some x0 =>
  rw [e] at hd'
  cases hd'
  obtain ⟨y,hy,ry⟩:=k4.get e
  refine ⟨⟨xs,y,k3,hy⟩,fun x H3 hyl=>?_⟩
  obtain ⟨p,y',hp,rfl,rfl,hz⟩:=hyl
  have:some y=some y':=hy.symm.trans (hz xs k3)
  cases this
  have g:=dG hp (.tup [.int (i:Int),y])
  exact ⟨g,.tup cQ (.cons (.int _) (.cons (ry.same g) .nil))⟩
end
structure Bl (mg:Str→Option Value):Prop where
 len_:mg "len" = none
 range_:mg "range" = none
 abs_:mg "abs" = none
 isinstance_:mg "isinstance" = none
 int_:mg "int" = none
 bool_:mg "bool" = none
 tuple_:mg "tuple" = none
 list_:mg "list" = none
 str_:mg "str" = none
 max_:mg "max" = none
 min_:mg "min" = none
 sorted_:mg "sorted" = none
 sum_:mg "sum" = none
 reversed_:mg "reversed" = none
 enumerate_:mg "enumerate" = none
 zip_:mg "zip" = none
 set_:mg "set" = none
 any_:mg "any" = none
 all_:mg "all" = none
 dict_:mg "dict" = none
end D3
namespace D3
open PySem PySem.Spec PyProof.Rows L2 My
structure FunD (K:PySem.W.Frag) (x:Str) (st:Stmt) (f:Addr) (fd:FuncData):Prop where
 ex:∃ (oc:Value) (od:Option Addr) (dV kV doc pm:Value) (an:Option Addr) (cdv ct:Value) (osl:Array (Option Value)),
  fd=PySem.W.fnOf x x (j9 st) (iK st) (bx st) dV kV doc pm an cdv ct∧K.lookup f=some ⟨oc,od,.func fd,osl⟩∧PySem.W.codeIn K cdv x=true
 kp:PySem.W.keepIn K (.ref f)=true
structure Dg (K:PySem.W.Frag) (mg:Str→Option Value) (x:Str) (st:Stmt) (ps:List Str):Prop where
 ex:∃ (f:Addr) (fd:FuncData),FunD K x st f fd∧Binds K fd ps []∧mg x=some (.ref f)
theorem Pq {K:PySem.W.Frag} {h:Heap} {mg:Str→Option Value} {f T:Addr} {oc kV dc pm cd ct:Value} {od an:Option Addr} {sl:Array (Option Value)} {x:Str} {st:Stmt} {ps:List Str} {o:Obj} {items:Array Value} {n:Nat} (X:K.In h) (G:h.Ns mainGlobals mg)
 (hb:∀ (kV doc pm:Value) (an:Option Addr) (cdv ct:Value) (us:List Value),us.length=ps.length→∃ k,bindArgs (PySem.W.fnOf x x (j9 st) (iK st) (bx st) (.ref T) kV doc pm an cdv ct) ⟨us,[]⟩=(seqItems? (.ref T) >>= k)∧k (some items)=pure (ps.zip us))
 (a:PySem.W.nsIn K mainGlobals x=some (some (.ref f))) (l:K.lookup f=some ⟨oc,od,.func (PySem.W.fnOf x x (j9 st) (iK st) (bx st) (.ref T) kV dc pm an cd ct),sl⟩) (c:PySem.W.codeIn K cd x=true) (k:PySem.W.keepIn K (.ref f)=true)
 (hT:K.lookup T=some o) (hs:o.data = .seq items n):Dg K mg x st ps :=
 ⟨_,_,⟨⟨oc,od,.ref T,kV,dc,pm,an,cd,ct,sl,rfl,l,c⟩,k⟩,fun s us KX hl=>by
  rw [cP] at hl ⊢
  obtain ⟨k,h1,h2⟩:=hb kV dc pm an cd ct us hl
  exact BindsTo.of_defaults (T:=T) rfl (KX T o hT) hs h1 h2,PySem.W.mg_of X G a⟩
theorem eF {K:PySem.W.Frag} {h:Heap} {mg:Str→Option Value} {f:Addr} {oc kV dc pm cd ct:Value} {od an:Option Addr} {sl:Array (Option Value)} {x:Str} {st:Stmt} {ps:List Str} (X:K.In h) (G:h.Ns mainGlobals mg)
 (hb:∀ (kV doc pm:Value) (an:Option Addr) (cdv ct:Value) (us:List Value),us.length=ps.length→bindArgs (PySem.W.fnOf x x (j9 st) (iK st) (bx st) .none kV doc pm an cdv ct) ⟨us,[]⟩=pure (ps.zip us))
 (a:PySem.W.nsIn K mainGlobals x=some (some (.ref f))) (l:K.lookup f=some ⟨oc,od,.func (PySem.W.fnOf x x (j9 st) (iK st) (bx st) .none kV dc pm an cd ct),sl⟩) (c:PySem.W.codeIn K cd x=true) (k:PySem.W.keepIn K (.ref f)=true):Dg K mg x st ps :=
 ⟨_,_,⟨⟨oc,od,.none,kV,dc,pm,an,cd,ct,sl,rfl,l,c⟩,k⟩,.all (hb kV dc pm an cd ct),PySem.W.mg_of X G a⟩
structure Dl (K:PySem.W.Frag) (mg:Str→Option Value) (x y:Str) (st:Stmt):Prop where
 ex:∃ (f:Addr) (fd:FuncData),FunD K x st f fd∧(∀ (s:Shared) (u:Value),BindsTo s fd ⟨[u],[]⟩ [(y,u)])∧mg x=some (.ref f)
theorem S5 {K:PySem.W.Frag} {h:Heap} {mg:Str→Option Value} {f:Addr} {oc kV dc pm cd ct:Value} {od an:Option Addr} {sl:Array (Option Value)} {x y:Str} {st:Stmt} (X:K.In h) (G:h.Ns mainGlobals mg)
 (hb:∀ (kV doc pm:Value) (an:Option Addr) (cdv ct:Value) (u:Value),bindArgs (PySem.W.fnOf x x (j9 st) (iK st) (bx st) .none kV doc pm an cdv ct) ⟨[u],[]⟩=pure [(y,u)])
 (a:PySem.W.nsIn K mainGlobals x=some (some (.ref f))) (l:K.lookup f=some ⟨oc,od,.func (PySem.W.fnOf x x (j9 st) (iK st) (bx st) .none kV dc pm an cd ct),sl⟩) (c:PySem.W.codeIn K cd x=true) (k:PySem.W.keepIn K (.ref f)=true):Dl K mg x y st :=
 ⟨_,_,⟨⟨oc,od,.none,kV,dc,pm,an,cd,ct,sl,rfl,l,c⟩,k⟩,fun s u=>.of_eq (hb kV dc pm an cd ct u),PySem.W.mg_of X G a⟩
section
variable {P:Program} {w:World} {K:PySem.W.Frag} {mg:Str→Option Value} {base:Heap} {x:Str} {ps N:List Str} {st:Stmt} {k n:Nat} {fs:FS} {fl:List Fl}
theorem FunD.ok {f:Addr} {fd:FuncData} {sp:Sp} (F:FunD K x st f fd) (S:FnScope N ps (bx st)) (len:∀ vs H Q E,sp vs H Q E→vs.length=ps.length)
 (hbody:∀ (cdv:Value) (A:Around) (outer:List Env) (s:Shared) (H:Hp) (vs:List V) (Q:VK) (E:XK),Room k (A.deeper (envOfC x (bx st) s.heap.objs.size f cdv))→sp vs H Q E →
  ∃ t,PSs (zE CX0 P w K mg base N x (bx st) f cdv A outer s H E).nox (iK st) t∧t { nx:=fun _ H'=>Q .non H',rt:=Q } (L2.start N vs) H):FnOk P w K mg base CX0 (k + 1) f fd ps sp:=by
 obtain ⟨oc,od,dV,kV,doc,pm,an,cdv,ct,osl,rfl,lk,hcd⟩:=F.ex
 refine Nf lk hcd S len fun A outer s H vs Q E hr hsp=>?_
 obtain ⟨t,h,q⟩:=hbody cdv A outer s H vs Q E hr hsp
 exact ⟨t,h.nox,q⟩
theorem HN {f:Addr} {fd:FuncData} (Fn:FunD K x st f fd) (S:FnScope N ps (bx st)) (hp:∀ i,i < ps.length→fl[i]? = some .A) (hN:ps.length ≤ N.length)
 (hbody:∀ (f:Addr) (cdv:Value) (A:Around) (outer:List Env) (s:Shared) (H:Hp) (E:XK),Room k (A.deeper (envOfC x (bx st) s.heap.objs.size f cdv))→DSs (cx P w K mg base N x st f cdv A outer s H E) fl (iK st) fs) :
 FnOk P w K mg base CX0 (k + 1) f fd ps (spD K (fnD ps.length (N.length - ps.length) fs)):=by
 refine Fn.ok S (fun vs H Q E h=>?_) (fun cdv A outer s H vs Q E hr h=>?_)
 ·obtain ⟨ds,d,r,hf,_⟩:=h
  unfold fnD at hf
  by_cases z:ds.length=ps.length
  ·rw [r.2.length];exact z
  ·rw [if_neg z] at hf;cases hf
 ·obtain ⟨ds,d,r,hf,q⟩:=h
  refine ⟨_,hbody f cdv A outer s H E hr,?_⟩
  unfold fnD at hf
  by_cases z:ds.length=ps.length
  ·rw [if_pos z] at hf
   split at hf
   ·next d' e =>
    cases hf
    exact ⟨_,_,_,_,pQ ps.length hp z hN r,e,fun v H' s r=>q v H' s r⟩
   ·next δ' e =>
    cases hf
    exact ⟨_,_,_,_,pQ ps.length hp z hN r,e,fun ow' σ' H' R'=>q .non H' R'.same0 .non⟩
   ·cases hf
  ·rw [if_neg z] at hf;cases hf
theorem d9 (Dd:Dg K mg x st ps) (S:FnScope N ps (bx st)) (hp:∀ i,i < ps.length→fl[i]? = some .A) (hN:ps.length ≤ N.length)
 (hbody:∀ (f:Addr) (cdv:Value) (A:Around) (outer:List Env) (s:Shared) (H:Hp) (E:XK),Room k (A.deeper (envOfC x (bx st) s.heap.objs.size f cdv))→DSs (cx P w K mg base N x st f cdv A outer s H E) fl (iK st) fs) :
 Has P w K mg base (k + 1) x ps (spD K (fnD ps.length (N.length - ps.length) fs)):=by
 obtain ⟨f,fd,Fn,b,m⟩:=Dd.ex
 exact ⟨f,fd,HN Fn S hp hN hbody,b,Fn.kp,m⟩
end
def HS (K:PySem.W.Frag):Sp:=fun vs H Q _=>∃ (a:Addr) (ns:List Int),Tb H∧vs=[.ref a]∧SqL K H a (ns.map V.int)∧ns.length ≤ 63∧∀ H',Q (.bl true) H'
theorem pR {K:PySem.W.Frag} {ok:Ok} {pl:Bool} {H:Hp}:∀ ns:List Int,RAs K ok pl H (ns.map V.int) (ns.map PyData.int)
 | []=>.nil
 | n :: r=>.cons (.int n) (pR r)
theorem Kz {K:PySem.W.Frag} {F:List D→Option D} (hF:∀ ns:List Int,ns.length ≤ 63→F [.list (ns.map .int)]=some (.bool true)) (vs:List V) (H:Hp) (Q:VK) (E:XK) (h:HS K vs H Q E):spD K F vs H Q E:=by
 obtain ⟨a,ns,tb,rfl,hS,hl,q⟩:=h
 refine ⟨_,_,⟨tb,.cons ?_ .nil⟩,hF ns hl,fun v H' s r=>?_⟩
 ·rcases hS with (h | ⟨o,h⟩) | h
  ·exact .lst h trivial (pR ns)
  ·exact .lsk (.inl ⟨o,h⟩) rfl (pR ns)
  ·exact .lsk (.inr h) rfl (pR ns)
 ·obtain rfl:=r.blE
  exact q H'
end D3
namespace D3
open PySem PySem.Spec PyProof.Rows L2 My
section
variable {prog:Program} {w:World} {A:Around} {E:Value→Shared→Prop} {s:Shared}
end
section
variable {X:Cx} {fl:List Fl} {a:Expr} {f:FE} {pos p p2 pos2:Pos}
end
section
variable {X:Cx} {fl:List Fl} {a b:Expr} {pos p p2 pos2:Pos} {fa:FA}
end
end D3
namespace D3
open PySem PySem.Spec PyProof.Rows L2 My
section
variable {X:Cx}
theorem zT:∀ {ns:List Int} {its:List Value},Vals (ns.map V.int) its→IntsAre its ns
 | [],_,.nil=>.nil
 | n :: r,_,.cons h t=>by
  obtain ⟨k,rfl⟩:=h
  exact .cons _ _ (zT t)
theorem uO {K:PySem.W.Frag} {ok:Ok} {pl:Bool} {H:Hp}:∀ {l:List D} {ns:List Int} {ys:List V},i_ l=some ns→RAs K ok pl H ys l→ys=ns.map V.int
 | [],_,_,e,.nil=>by cases e;rfl
 | d :: r,ns,_,e,.cons h t=>by
  cases d <;> first | (cases e;done) | skip
  obtain rfl:=h.intE
  cases e2:i_ r with
  | none=>rw [i_,e2] at e;cases e
  | some m =>
   rw [i_,e2] at e
   cases e
   rw [uO e2 t]
   rfl
theorem Nm {K:PySem.W.Frag}:BrC K (fun xs H Q=>∃ (p:Addr) (ns:List Int),xs=[.ref p]∧SqL K H p (ns.map V.int)∧Q (.int ns.sum) H) R_:=by
 intro H xs ds d Q r e q
 unfold R_ at e
 split at e
 ·next l =>
  cases e2:i_ l with
  | none=>rw [e2] at e;cases e
  | some ns =>
   rw [e2] at e
   cases e
   cases r with
   | cons r1 r2 =>
    cases r2
    obtain ⟨a,ys,rfl,hx,hr⟩:=r1.lstE
    obtain rfl:=uO e2 hr
    exact ⟨a,ns,rfl,hx,q _ rfl (.int _)⟩
 ·cases e
theorem sS:∀ {l m:List Int},l.Perm m→l.Pairwise (· ≤ ·)→m.Pairwise (· ≤ ·)→l=m
 | [],m,p,_,_=>p.nil_eq
 | a :: l,m,p,h1,h2=>by
  cases m with
  | nil=>exact absurd p.length_eq (by simp)
  | cons b m =>
   obtain ⟨a1,a2⟩:=iI.mp h1
   obtain ⟨b1,b2⟩:=iI.mp h2
   have e:a=b:=by
    have x1:a ∈ b :: m:=p.mem_iff.mp aN
    have x2:b ∈ a :: l:=p.mem_iff.mpr aN
    rcases bH.mp x1 with z | z
    ·exact z
    ·rcases bH.mp x2 with y | y
     ·exact y.symm
     ·exact Int.le_antisymm (a1 b y) (b1 a z)
   subst e
   rw [sS (List.Perm.cons_inv p) a2 b2]
theorem lK:∀ {ns:List Int} {its:List Value},IntsAre its ns→Vals (ns.map V.int) its
 | _,_,.nil=>.nil
 | _,_,.cons n t r=>.cons ⟨t,rfl⟩ (lK r)
theorem xX:mJ X (.builtin "sorted") (fun xs H Q=>∃ (p:Addr) (ns:List Int),xs=[.ref p]∧SqL X.K H p (ns.map V.int)∧ns.length < 64∧∀ l,H l=none→Q (.ref l) (upd H l (.lst ((nG ns).map V.int)))):=by
 intro pins s σ H xs us Q I r h
 obtain ⟨p,ns,rfl,hx,h64,q⟩:=h
 obtain ⟨u,rfl,rx⟩:=vals1 r
 cases rx
 obtain ⟨its,rvs,pl,hz⟩:=I.list hx
 have hi:=zT rvs
 refine sorted_ints pl.isList hi (by rw [hi.length];exact h64) fun out ns' a1 a2 a3=>?_
 obtain rfl:=sS (a2.trans (jE ns).symm) a3 (o9 ns)
 obtain ⟨e,he⟩:=sortedAll_at s.heap its out
 have hn:H (s.heap.objs.size + 1)=none:=I.hok.fresh (kE _)
 have ll:(nG ns).length=ns.length:=(jE ns).length_eq
 have I2:=I.laid (h':=sortedAll s.heap its out) (t':=s.toks) (a:=s.heap.objs.size + 1) (o:=.lst ((nG ns).map V.int)) (fun b u e=>sortedAll_old e) (kE _)
  ⟨by rw [aJ,ll];exact bT (fZ h64) (by decide),out.toList,e,lK a1,by simpa [seqObj] using he⟩
 exact ⟨.ref _,_,I2,rfl,q _ hn⟩
theorem sU {fl:List Fl} {e:Expr} {fa:FA} {p pos:Pos} (ha:DB X fl .P [e] fa) (hg:Gl X "sorted") (hm:X.mg "sorted" = none)
 (he:starEach [e] X.env=(false,eval e X.env) :: starEach [] X.env:=by rfl) (hpl:(backTo pos (starEach [] X.env)).any (·.1)=false:=by rfl):DE X fl .FC (.Call (.Name "sorted" p) [e] [] pos) (dCall rA fa) :=
 PE.imp (nF xX hg hm (show bootBuiltins "sorted" = some (.builtin "sorted") by decide +kernel) ha (by decide) (by decide) he hpl) fun σ H Q h=>by
 obtain ⟨G,ow,δ,d,R,hf,q⟩:=h
 obtain ⟨ds,e1,e2⟩:=bind1 hf
 refine ⟨G,ow,δ,ds,R,e1,fun vs H' s r'=>?_⟩
 unfold rA at e2
 split at e2
 ·next l =>
  cases e3:i_ l with
  | none=>rw [e3] at e2;cases e2
  | some ns =>
   rw [e3,aL] at e2
   by_cases h64:ns.length < 64
   ·rw [if_pos h64] at e2
    cases e2
    cases r' with
    | cons r1 r2 =>
     cases r2
     obtain ⟨a,ys,rfl,hx,hr⟩:=r1.lstE
     obtain rfl:=uO e3 hr
     exact ⟨a,ns,rfl,hx,h64,fun l hn=>q _ _ (s.trans (dG hn _)) (.inr ⟨_,_,_,rfl,rfl,s.free hn,cQ,pR _⟩)⟩
   ·rw [if_neg h64] at e2;cases e2
 ·cases e2
end
end D3
namespace D3
open PySem PySem.Spec PyProof.Rows L2 My
def gK (n:Nat) (us ws:List α):List α:=if ws.length=n then us++ws else []
structure HasD (P:Program) (w:World) (K:PySem.W.Frag) (mg:Str→Option Value) (base:Heap) (n:Nat) (x:Str) (ps:List Str) (sp:Sp) (dvs:List V) (ks:List Str):Prop where
 ex:∃ (f:Addr) (fd:FuncData) (ds:List Value),FnOk P w K mg base CX0 n f fd ps sp∧Binds K fd ps ds∧Vals dvs ds∧KBinds K fd ps ks (gK ks.length) (gK ks.length)∧PySem.W.keepIn K (.ref f)=true∧mg x=some (.ref f)
structure DgD (K:PySem.W.Frag) (mg:Str→Option Value) (x:Str) (st:Stmt) (ps:List Str) (dvs:List V) (ks:List Str):Prop where
 ex:∃ (f:Addr) (fd:FuncData) (ds:List Value),FunD K x st f fd∧Binds K fd ps ds∧Vals dvs ds∧KBinds K fd ps ks (gK ks.length) (gK ks.length)∧mg x=some (.ref f)
section
variable {P:Program} {w:World} {K:PySem.W.Frag} {mg:Str→Option Value} {base:Heap} {x:Str} {ps N ks:List Str} {st:Stmt} {k n:Nat} {fs:FS} {fl:List Fl} {dvs:List V}
end
section
variable {X:Cx} {fl:List Fl} {e ke:Expr} {es:List Expr} {pos p kpos:Pos} {x kn:Str} {ps:List Str} {n:Nat} {F:List D→Option D} {fa:FA} {fk:FE} {i:Int} {dvs:List V}
theorem Pr {K:PySem.W.Frag}:BrC K (fun xs H Q=>(∃ i,xs=[.int i]∧Q (.int i) H)∨∃ k,xs=[.bl k]∧Q (.int (if k then 1 else 0)) H) Bh:=by
 intro H xs ds d Q r e q
 unfold Bh at e
 split at e
 ·cases e
  cases r with
  | cons r1 r2 =>
   cases r2
   obtain rfl:=r1.intE
   exact .inl ⟨_,rfl,q _ rfl (.int _)⟩
 ·cases e
  cases r with
  | cons r1 r2 =>
   cases r2
   obtain rfl:=r1.blE
   exact .inr ⟨_,rfl,q _ rfl (.int _)⟩
 ·cases e
theorem qz {j pos'} {a:Expr} {f:FE} (h:DE X fl .P a f):DT X fl (.Compare a [.Is] [.Constant .none j pos'] pos) (bB (dUn oE f)):=PT.imp (GD (GC h)) fun σ H Q h=>by
 obtain ⟨G,ow,δ,c,R,hf,q⟩:=h
 obtain ⟨d,e1,e2⟩:=bind1 hf
 obtain ⟨x,e3,e4⟩:=bind1 e1
 cases e4
 cases e2
 refine ⟨G,ow,δ,x,R,e3,fun v H1 s1 r1=>?_⟩
 refine ⟨decide (v = .non),rfl,?_⟩
 rw [Bw (RA.same (Same.refl H1) r1)]
 exact q H1 s1
theorem Dq {p:Pos} (ha:DB X fl .P [e] fa) (hg:Gl X "int") (hm:X.mg "int" = none)
 (he:starEach [e] X.env=(false,eval e X.env) :: starEach [] X.env:=by rfl) (hpl:(backTo pos (starEach [] X.env)).any (·.1)=false:=by rfl):DE X fl .FC (.Call (.Name "int" p) [e] [] pos) (dCall Bh fa) :=
 PE.imp (wH Ew hg hm boot_int ha (by decide) (by decide) he hpl) fun σ H Q h=>by
 obtain ⟨G,ow,δ,d,R,hf,q⟩:=h
 obtain ⟨ds,e1,e2⟩:=bind1 hf
 exact ⟨G,ow,δ,ds,R,e1,fun vs H' s r'=>Pr H' vs ds d Q r' e2 fun v hv rv=>q v H' s (.inl ⟨hv,rv⟩)⟩
end
end D3
namespace D3
open PySem PySem.Spec PyProof.Rows L2 My
section
variable {X:Cx}
theorem zU:∀ {bs:List Bool} {its:List Value},Vals (bs.map V.bl) its→its=bs.map Value.bool
 | [],_,.nil=>rfl
 | b :: r,_,.cons h t=>by
  cases h
  rw [zU t]
  rfl
theorem all_range (bs:List Bool):(aG bs.length).all (fun i=>bs.getD i false)=bs.all id:=by
 rw [oV,jW,jW]
 constructor
 ·intro h b hb
  obtain ⟨i,hi,rfl⟩:=lu hb
  have:=h i (aR.mpr hi)
  rw [bI,aZ hi] at this
  exact this
 ·intro h i hi
  have hi:=aR.mp hi
  rw [bI,aZ hi]
  exact h _ (jX hi)
theorem zV {prog:Program} {w:World} {A:Around} (bs:List Bool):TruthOf prog w A (fun i v=>(bs.map Value.bool).toArray[i]? = some v) (fun i=>bs.getD i false):=by
 intro i v s Q E hv hQ
 have hv':(bs.map Value.bool)[i]? = some v:=by simpa using hv
 rw [aQ] at hv'
 cases e:bs[i]? with
 | none=>rw [e] at hv';cases hv'
 | some b =>
  rw [e] at hv'
  cases hv'
  have eb:bs.getD i false=b:=by rw [bI,e];rfl
  have hQ':Q (bs.getD i false) s:=hQ
  rw [eb] at hQ'
  exact wpAny_truthy_bool hQ'
theorem wQ (hc:X.calm=true):mJ X (.builtin "all") (fun xs H Q=>∃ (p:Addr) (bs:List Bool),xs=[.ref p]∧SqL X.K H p (bs.map V.bl)∧Q (.bl (bs.all id)) H):=by
 intro pins s σ H xs us Q I r h
 obtain ⟨p,bs,rfl,hx,q⟩:=h
 obtain ⟨u,rfl,rx⟩:=vals1 r
 cases rx
 obtain ⟨its,rvs,pl,hz⟩:=I.list hx
 obtain rfl:=zU rvs
 have hl:s.heap.IsList p (bs.map Value.bool).toArray:=pl.isList
 have hlt:p < s.heap.objs.size:=by obtain ⟨_,e,_⟩:=id hl;exact Heap.lt_size e
 refine call_all_walk (wpAny_pyIter_list hl ?_)
 refine ⟨_,_,_,_,_,_,_,rfl,Walks.list (A:=X.A.in1) (I.ok.hd hc) _ p (bR hlt) (bs.map Value.bool).toArray,⟨⟨_,Heap.get?_push_size _ rfl,rfl,rfl⟩,hl.push _⟩,zV bs,fun h' tk hk=>?_⟩
 have e:(bs.map Value.bool).toArray.size=bs.length:=by simp
 rw [e,all_range]
 exact ⟨.bl _,H,I.kept (old_kept hk),rfl,q⟩
theorem wR {K:PySem.W.Frag} {ok:Ok} {pl:Bool} {H:Hp}:∀ {l:List D} {bs:List Bool} {ys:List V},m6 l=some bs→RAs K ok pl H ys l→ys=bs.map V.bl
 | [],_,_,e,.nil=>by cases e;rfl
 | d :: r,bs,_,e,.cons h t=>by
  cases d <;> first | (cases e;done) | skip
  obtain rfl:=h.blE
  cases e2:m6 r with
  | none=>rw [m6,e2] at e;cases e
  | some m =>
   rw [m6,e2] at e
   cases e
   rw [wR e2 t]
   rfl
theorem Dr {K:PySem.W.Frag}:BrC K (fun xs H Q=>∃ (p:Addr) (bs:List Bool),xs=[.ref p]∧SqL K H p (bs.map V.bl)∧Q (.bl (bs.all id)) H) Bj:=by
 intro H xs ds d Q r e q
 unfold Bj at e
 split at e
 ·next l =>
  cases e2:m6 l with
  | none=>rw [e2] at e;cases e
  | some bs =>
   rw [e2] at e
   cases e
   cases r with
   | cons r1 r2 =>
    cases r2
    obtain ⟨a,ys,rfl,hx,hr⟩:=r1.lstE
    obtain rfl:=wR e2 hr
    exact ⟨a,bs,rfl,hx,q _ rfl (.bl _)⟩
 ·cases e
end
section
variable {X:Cx} {fl:List Fl} {a:Expr} {f:FE} {pos:Pos} {ta:TE}
end
section
variable {X:Cx} {fl:List Fl} {a b c:Expr} {f fa fb fc:FE} {pos:Pos}
theorem zW {op op':CmpOp} {r r':R2} {g g':D→D→Option D} (ho:OpR X (compareOp op) r) (ho':OpR X (compareOp op') r') (hb:BrO X.K r g) (hb':BrO X.K r' g') (h1:DE X fl .P a fa) (h2:DE X fl .P b fb) (h3:DE X fl .P c fc)
 (hm:lastMarks [op,op'] [b,c]=false:=by with_unfolding_all rfl):DT X fl (.Compare a [op,op'] [b,c] pos) (bB (m5 g g' fa fb fc)):=PT.imp (G6 ho ho' h1 h2 h3 hm) fun σ H Q h=>by
 obtain ⟨G,ow,δ,bb,R,hf,q⟩:=h
 obtain ⟨d,hf,hd⟩:=bind1 hf
 have hd':d = .bool bb:=by cases d <;> first | (cases hd;rfl) | (cases hd;done)
 subst hd'
 obtain ⟨x,e1,hf⟩:=bind1 hf
 obtain ⟨y,e2,hf⟩:=bind1 hf
 obtain ⟨z,e3,hf⟩:=bind1 hf
 refine ⟨G,ow,δ,x,R,e1,fun v H1 s1 r1=>⟨G,ow,δ,y,R.grow s1,e2,fun u H2 s2 r2=>?_⟩⟩
 refine hb H2 v u x y z _ (RA.same s2 r1) r2 e3 fun zv hz rz=>?_
 split at hf
 ·obtain rfl:=rz.blE
  obtain ⟨w,e4,e5⟩:=bind1 hf
  refine ⟨true,rfl,zJ ⟨G,ow,δ,w,R.grow (s1.trans s2),e4,fun wv H3 s3 r3=>?_⟩⟩
  refine hb' H3 u wv y w _ _ (RA.same s3 r2) r3 e5 fun z hz rz=>?_
  obtain rfl:=rz.blE
  exact ⟨_,rfl,q H3 (s1.trans (s2.trans s3))⟩
 ·obtain rfl:=rz.blE
  cases hf
  exact ⟨false,rfl,zH ⟨_,rfl,q H2 (s1.trans s2)⟩⟩
 ·cases hf
theorem oM {j pos'} (h:DE X fl .P a f):DT X fl (.Compare a [.IsNot] [.Constant .none j pos'] pos) (bB (dUn mO f)):=PT.imp (GD (JZ h)) fun σ H Q h=>by
 obtain ⟨G,ow,δ,bb,R,hf,q⟩:=h
 obtain ⟨d,hf,hd⟩:=bind1 hf
 obtain ⟨x,e1,e2⟩:=bind1 hf
 cases e2
 cases hd
 refine ⟨G,ow,δ,x,R,e1,fun v H1 s1 r1=>?_⟩
 refine ⟨!decide (v = .non),rfl,?_⟩
 rw [Bw (RA.same (Same.refl H1) r1)]
 exact q H1 s1
end
section
variable {X:Cx} {fl:List Fl} {a b:Expr} {f g:FE} {pos:Pos}
end
end D3
namespace D3
open PySem PySem.Spec PyProof.Rows L2 My
section
variable {X:Cx} {fl:List Fl} {e a b c:Expr} {es rest:List Expr} {k:Kd} {f fa fb fc:FE} {ft gt:FT} {pos:Pos}
theorem KC:DE X fl .T (.Dict [] [] pos) (dC (.dict [])):=PE.imp Hh fun σ H Q h=>by
 obtain ⟨G,ow,δ,d,R,hf,q⟩:=h
 cases hf
 intro p hp
 exact q _ _ (dG hp _) ⟨[p],.dic cQ (.inl ⟨rfl,rfl⟩),bV.mpr ⟨iu,.nil⟩,fun x hx=>by rw [aK.mp hx];exact hp⟩
theorem ud (i:Nat) (hn:isN fl[i]? = true) {x:Str} (hN:X.N[i]? = some x:=by rfl) (hv:Vis X.env.scope x:=by first | exact Or.inl rfl | exact Or.inr (Or.inl rfl) | exact Or.inr (Or.inr rfl)) (hd:(x == ("__debug__" : Str))=false:=by decide)
 (hcd:(x == ("__classdict__" : Str))=false:=by decide):DE X fl .P (.Name x pos) (aF i):=by
 refine PE.imp (mY hN hv hd hcd) fun σ H Q h=>?_
 obtain ⟨G,ow,δ,d,R,hf,q⟩:=h
 obtain ⟨v,h1,h2,_⟩:=R.nr i d hn (lD hf)
 exact ⟨v,h1,q v H (Same.refl H) (h2.ra fun _ _=>trivial)⟩
theorem HW (i:Nat) (hn:isN fl[i]? = true) {x:Str} (hN:X.N[i]? = some x:=by rfl) (hv:Vis X.env.scope x:=by first | exact Or.inl rfl | exact Or.inr (Or.inl rfl) | exact Or.inr (Or.inr rfl)) (hd:(x == ("__debug__" : Str))=false:=by decide)
 (hcd:(x == ("__classdict__" : Str))=false:=by decide):DE X fl .R (.Name x pos) (aF i):=by
 refine PE.imp (mY hN hv hd hcd) fun σ H Q h=>?_
 obtain ⟨G,ow,δ,d,R,hf,q⟩:=h
 obtain ⟨v,h1,h2,_⟩:=R.nr i d hn (lD hf)
 exact ⟨v,h1,q v H (Same.refl H) (h2.ra fun a ha=>(R.nt i a ha).1)⟩
end
section
variable {K:PySem.W.Frag} {fl:List Fl}
def owN (ow:Ow) (i:Nat) (as:List Addr):Ow:=⟨ow.s,fun j=>if j=i then as else ow.n j⟩
theorem jY {ow:Ow} {i:Nat} {as:List Addr}:(owN ow i as).n i=as:=if_pos rfl
theorem jB {ow:Ow} {i j:Nat} {as:List Addr} (h:j ≠ i):(owN ow i as).n j=ow.n j:=if_neg h
theorem Rel.setN {G:Gh} {ow:Ow} {σ:St} {H H':Hp} {δ:DS} {i:Nat} {v:V} {d:D} (R:Rel K fl G ow σ H δ) (s:Same H H') (hfl:fl[i]? = some .N) (hi:i < σ.length) (r:Rs K G.H0 ow H H' .T v d) :
 ∃ ow',Rel K fl G ow' (σ.set i (some v)) H' (δ.set i (some (.d d))):=by
 have R':=R.grow s
 obtain ⟨as,h1,h2,h3⟩:=r
 have no:∀ a,ow i ≠ some a:=fun a z=>by
  obtain ⟨_,hz,_⟩:=R.own i a z
  rw [hfl] at hz
  rcases hz with ⟨z,_⟩ | ⟨z,_⟩ <;> cases z
 have sub:∀ b,okA ow b∧H b ≠ none→okA (owN ow i as) b:=fun b z=>⟨z.1.1,fun j e=>by
  by_cases hj:j=i
  ·subst hj
   rw [jY] at e
   exact z.2 (h3 b e)
  ·rw [jB hj] at e
   exact z.1.2 j e⟩
 have old:∀ {v:V} {d:D},RA K (okA ow) true H v d→RA K (okA (owN ow i as)) true H' v d:=fun r=>(r.track.imp sub (fun z=>z)).same s
 have olds:∀ {v:List V} {d:List D},RAs K (okA ow) true H v d→RAs K (okA (owN ow i as)) true H' v d:=fun r=>(r.track.imp sub (fun z=>z)).same s
 refine ⟨owN ow i as,R'.s0,R'.s1,by rw [dB,dB];exact R.len,fun j a h=>?_,R.inj,R.pin,fun j d' g1 gn g2=>?_,fun j d' g1 gn g2 g3=>?_,fun j a h=>?_,fun j j' a h h'=>?_,fun j j' a h=>?_,fun j h=>?_,fun j d' gn g1=>?_⟩
 ·have hj:j ≠ i:=fun z=>no a (z ▸ h)
  obtain ⟨h0,hf,xs,ds,g1,g2,g3,g4⟩:=R.own j a h
  exact ⟨h0,hf,xs,ds,by rw [bD (Ne.symm hj)];exact g1,s _ _ g2,olds g3,by rw [bD (Ne.symm hj)];exact g4⟩
 ·rcases gR g1 with ⟨rfl,e⟩ | ⟨hj,e⟩
  ·rw [hfl] at gn;cases gn
  ·obtain ⟨v',g3,g4⟩:=R.dat j d' e gn g2
   exact ⟨v',by rw [bD (Ne.symm hj)];exact g3,old g4⟩
 ·rcases gR g1 with ⟨rfl,e⟩ | ⟨hj,e⟩
  ·rw [hfl] at gn;cases gn
  ·exact R.oo j d' e gn g2 g3
 ·by_cases hj:j=i
  ·subst hj
   rw [jY] at h
   exact ⟨R.same0.free (h3 a h),h1.chd a h,.inl ⟨hfl,R.s1.free (h3 a h)⟩⟩
  ·rw [jB hj] at h
   exact R'.nt j a h
 ·by_cases hj:j=i
  ·by_cases hj':j'=i
   ·rw [hj,hj']
   ·subst hj
    rw [jY] at h
    rw [jB hj'] at h'
    exact absurd (h3 a h) (R.nt j' a h').2.1.ne
  ·rw [jB hj] at h
   by_cases hj':j'=i
   ·subst hj'
    rw [jY] at h'
    exact absurd (h3 a h') (R.nt j a h).2.1.ne
   ·rw [jB hj'] at h'
    exact R.nd j j' a h h'
 ·by_cases hj:j=i
  ·subst hj
   rw [jY] at h
   exact fun z=>by
    obtain ⟨_,_,_,_,_,g2,_⟩:=R.own j' a z
    rw [h3 a h] at g2
    cases g2
  ·rw [jB hj] at h
   exact R.ns j j' a h
 ·have hj:j ≠ i:=fun z=>by subst z;rw [hfl] at h;cases h
  rw [jB hj]
  exact R.np j h
 ·rcases gR g1 with ⟨rfl,e⟩ | ⟨hj,e⟩
  ·cases e
   exact ⟨v,by rw [cV hi],by rw [jY];exact h1,by rw [jY];exact h2⟩
  ·obtain ⟨v',g3,g4⟩:=R'.nr j d' gn e
   exact ⟨v',by rw [bD (Ne.symm hj)];exact g3,by rw [jB hj];exact g4⟩
theorem Rel.mutN {G:Gh} {ow:Ow} {σ:St} {H:Hp} {δ:DS} {i:Nat} {a:Addr} {u u':HO} [cu:Chg u] [cu':Chg u'] {d:D} {v:V} {as:List Addr} (R:Rel K fl G ow σ H δ) (hfl:fl[i]? = some .N) (hi:i < δ.length) (ha:a ∈ ow.n i) (hx:H a=some u) (hv:σ[i]? = some (some v))
 (hr:RT K (upd H a u') v d as) (hs:∀ b ∈ as,b ∈ ow.n i) (hd:as.Nodup):∃ ow',Rel K fl G ow' σ (upd H a u') (δ.set i (some (.d d))):=by
 have na:¬ okA ow a:=fun z=>z.2 i ha
 have hF:G.HF a=none:=by
  rcases (R.nt i a ha).2.2 with ⟨_,z⟩ | z
  ·exact z
  ·rw [hfl] at z;cases z
 have no:∀ a,ow i ≠ some a:=fun a z=>by
  obtain ⟨_,hz,_⟩:=R.own i a z
  rw [hfl] at hz
  rcases hz with ⟨z,_⟩ | ⟨z,_⟩ <;> cases z
 have sub:∀ b,okA ow b→okA (owN ow i as) b:=fun b z=>⟨z.1,fun j e=>by
  by_cases hj:j=i
  ·subst hj
   rw [jY] at e
   exact z.2 j (hs b e)
  ·rw [jB hj] at e
   exact z.2 j e⟩
 have tr:∀ b,Chd (H b)→Chd (upd H a u' b):=fun b z=>by
  by_cases hb:b=a
  ·rw [hb,cQ];exact ⟨_,rfl,cu'⟩
  ·rw [cC hb];exact z
 refine ⟨owN ow i as,R.s0,fun b o hb=>?_,by rw [dB];exact R.len,fun j b h=>?_,R.inj,R.pin,fun j d' g1 gn g2=>?_,fun j d' g1 gn g2 g3=>?_,fun j b h=>?_,fun j j' b h h'=>?_,fun j j' b h=>?_,fun j h=>?_,fun j d' gn g1=>?_⟩
 ·rw [cC (fun z=>by subst z;rw [hF] at hb;cases hb)]
  exact R.s1 b o hb
 ·have hj:j ≠ i:=fun z=>no b (z ▸ h)
  obtain ⟨h0,hf,zs,ds,g1,g2,g3,g4⟩:=R.own j b h
  have hb:b ≠ a:=fun z=>R.ns i j a ha (z ▸ h)
  exact ⟨h0,hf,zs,ds,g1,by rw [cC hb];exact g2,(g3.upd hx na).imp sub (fun z=>z),by rw [bD (Ne.symm hj)];exact g4⟩
 ·rcases gR g1 with ⟨rfl,e⟩ | ⟨hj,e⟩
  ·rw [hfl] at gn;cases gn
  ·obtain ⟨v',g3,g4⟩:=R.dat j d' e gn g2
   exact ⟨v',g3,(g4.upd hx na).imp sub (fun z=>z)⟩
 ·rcases gR g1 with ⟨rfl,e⟩ | ⟨hj,e⟩
  ·rw [hfl] at gn;cases gn
  ·exact R.oo j d' e gn g2 g3
 ·by_cases hj:j=i
  ·subst hj
   rw [jY] at h
   obtain ⟨g1,g2,g3⟩:=R.nt j b (hs b h)
   exact ⟨g1,tr b g2,g3⟩
  ·rw [jB hj] at h
   obtain ⟨g1,g2,g3⟩:=R.nt j b h
   exact ⟨g1,tr b g2,g3⟩
 ·have old:∀ j b,b ∈ (owN ow i as).n j→b ∈ ow.n j:=fun j b h=>by
   by_cases hj:j=i
   ·subst hj;rw [jY] at h;exact hs b h
   ·rw [jB hj] at h;exact h
  exact R.nd j j' b (old j b h) (old j' b h')
 ·by_cases hj:j=i
  ·subst hj;rw [jY] at h;exact R.ns j j' b (hs b h)
  ·rw [jB hj] at h;exact R.ns j j' b h
 ·have hj:j ≠ i:=fun z=>by subst z;rw [hfl] at h;cases h
  rw [jB hj]
  exact R.np j h
 ·rcases gR g1 with ⟨rfl,e⟩ | ⟨hj,e⟩
  ·cases e
   exact ⟨v,hv,by rw [jY];exact hr,by rw [jY];exact hd⟩
  ·obtain ⟨v',g3,g4,g5⟩:=R.nr j d' gn e
   exact ⟨v',g3,by rw [jB hj];exact g4.upd hx (fun z=>hj (R.nd j i a z ha)),by rw [jB hj];exact g5⟩
end
section
variable {K:PySem.W.Frag} {H:Hp}
end
section
variable {X:Cx} {fl:List Fl} {e ke:Expr} {f fk:FE} {pos:Pos}
theorem xY {i:Nat} {x:Str} {pos':Pos} (hfl:fl[i]? = some .N) (hN:X.N.Nodup) (hi:X.N[i]? = some x) (hv:X.env.scope.names.lookup x=some .local∨X.env.scope.names.lookup x=some .cell) (h:DE X fl .T e f)
 (hs:swapsWith e (some (.Name x pos')) pos.line X.env=pure false:=by rfl) (hfn:X.fn x=true∨X.env.scope.names.lookup x=some .local:=by first | exact .inl rfl | exact .inr rfl) :
 DS1 X fl (.Assign [.Name x pos'] e pos) (bW i f):=PS.imp (Ay (i:=i) hN hi hv h hs hfn) fun Dn σ H h=>by
 obtain ⟨G,ow,δ,o,R,hf,q⟩:=h
 unfold bW at hf
 by_cases hl:i < δ.length
 ·rw [if_pos hl] at hf
  obtain ⟨d,e1,e2⟩:=bind1 hf
  cases e2
  refine ⟨G,ow,δ,d,R,e1,fun v H' s r=>?_⟩
  obtain ⟨ow',R'⟩:=R.setN s hfl (pK R hl) r
  exact q ow' _ H' R'
 ·rw [if_neg hl] at hf
  cases hf
end
end D3
namespace D3
open PySem
def qM (g:List D→Option (List D)) (i:Nat) (x:Option D) (δ:DS):Option Oc:=match x with
 | some (.list l)=>match g l with
  | some m=>some (.nx (δ.set i (some (.d (.list m)))))
  | none=>none
 | _=>none
def zX (n:Nat) (j:Int):Nat:=if j < 0 then (j + n).toNat else min j.toNat n
def BJ (j:Int) (d:D) (l:List D):Option (List D):=if l.length < 1000000∧-(2 ^ 62) ≤ j∧j < 2 ^ 62 then some (l.take (zX l.length j)++d :: l.drop (zX l.length j)) else none
def qIn (i:Nat) (k d x:Option D) (δ:DS):Option Oc:=match k,d with
 | some (.int j),some d=>qM (BJ j d) i x δ
 | _,_=>none
def vK (i:Nat) (fk f:FE):FS:=fun δ=>qIn i (fk δ) (f δ) (aF i δ) δ
def iiD:List (D × D)→Option (List (Int × Int))
 | []=>some []
 | (.int i,.int j) :: r=>(iiD r).map ((i,j) :: ·)
 | _=>none
def Np:D→Option (List D)
 | .list l=>some l
 | .tuple l=>some l
 | _=>none
def qSq (x:Option D):Option (List D):=x.bind Np
def Pu (f:FE):FA:=fun δ=>(f δ).bind Np
theorem Vi {f:FE} {δ:DS}:Pu f δ=qSq (f δ):=rfl
theorem Px {l:List D}:qSq (some (.tuple l))=some l:=rfl
theorem Py {g:List D→Option (List D)} {i:Nat} {x:Option D} {δ:DS} {o:Oc} (h:qM g i x δ=some o):∃ l m,x=some (.list l)∧g l=some m∧o = .nx (δ.set i (some (.d (.list m)))):=by
 unfold qM at h
 split at h
 ·next l =>
  split at h
  ·next m e=>cases h;exact ⟨l,m,rfl,e,rfl⟩
  ·cases h
 ·cases h
theorem HX {i:Nat} {fk f:FE} {δ:DS}:vK i fk f δ=qIn i (fk δ) (f δ) (aF i δ) δ:=rfl
theorem xZ {i:Nat} {j:Int} {d:D} {x:Option D} {δ:DS}:qIn i (some (.int j)) (some d) x δ=qM (BJ j d) i x δ:=rfl
theorem Pz {g:List D→Option (List D)} {i:Nat} {l m:List D} {δ:DS} (h:g l=some m):qM g i (some (.list l)) δ=some (.nx (δ.set i (some (.d (.list m))))):=by
 show (match g l with
  | some m=>some (Oc.nx (δ.set i (some (.d (.list m)))))
  | none=>none)=_
 rw [h]
def gIn:D→D→Option D:=fun x y=>match y with
 | .list l=>if (SeqAt.shaped x && SeqAt.shaped (.list l))=true then some (.bool (l.any fun z=>PyData.eqv z x)) else none
 | .tuple l=>if (SeqAt.shaped x && SeqAt.shaped (.tuple l))=true then some (.bool (l.any fun z=>PyData.eqv z x)) else none
 | _=>none
def nj:D→D→Option D:=fun x y=>match y with
 | .list l=>if (SeqAt.shaped x && SeqAt.shaped (.list l))=true then some (.bool (!l.any fun z=>PyData.eqv z x)) else none
 | .tuple l=>if (SeqAt.shaped x && SeqAt.shaped (.tuple l))=true then some (.bool (!l.any fun z=>PyData.eqv z x)) else none
 | _=>none
end D3
namespace D3
open PySem PySem.Spec PyProof.Rows L2 My
section
variable {X:Cx}
def KD:V→List V→Hp→VK→Prop:=fun x vs H Q=>∃ l xs i y,x = .ref l∧vs=[.int i,y]∧H l=some (.lst xs)∧-(2 ^ 63) ≤ i∧i < 2 ^ 63∧xs.length < sizeLine∧Q .non (upd H l (.lst (xs.take (zX xs.length i)++y :: xs.drop (zX xs.length i))))
theorem KH (li:List Value) (k:Nat) (y:Value):(li.toArray.extract 0 k).push y++li.toArray.extract k=(li.take k++y :: li.drop k).toArray:=by
 apply Array.ext'
 simp [List.extract_eq_drop_take]
 exact List.take_of_length_le (by simp)
theorem Fp:MtM X "list.insert" KD:=by
 intro pins s σ H x vs v us Q I rx rv h
 obtain ⟨l,xs,i,y,rfl,rfl,hH,h1,h2,hz,q⟩:=h
 cases rx
 obtain ⟨u1,u2,rfl,ru1,ru2⟩:=rv.two
 obtain ⟨t,rfl⟩:=ru1
 obtain ⟨z,its,n,r,hl,e⟩:=I.lstM hH
 refine call_meets F.slot_list_insert ⟨_,e,rfl⟩ F.entry_list_insert (F.args_list_insert_3 _ _ _) (AutoSeq1.list_insert_list_int_val_1 l its.toArray n i t u2 (by simp [fitsIndex_both h1 h2]) (by rw [bO];omega)) ⟨e,?_⟩
 refine ⟨.non,_,I.lset (its':=its.take (zX xs.length i)++u2 :: its.drop (zX xs.length i)) hH e ?_ ((r.take _).append (.cons ru2 (r.drop _))) ?_,rfl,q⟩
 ·show (its.toArray.extract 0 (if i < 0 then (i + (its.toArray.size:Int)).toNat else min i.toNat its.toArray.size)).push u2++its.toArray.extract (if i < 0 then (i + (its.toArray.size:Int)).toNat else min i.toNat its.toArray.size)=_
  rw [hl]
  exact KH its (zX its.length i) u2
 ·rw [bQ,bM,List.length_take,List.length_drop]
  omega
end
section
variable {X:Cx} {fl:List Fl} {e ke:Expr} {f fk:FE} {pos:Pos}
theorem RAs.erase {K:PySem.W.Frag} {ok:Ok} {pl:Bool} {H:Hp} {v:List V} {d:List D} (n:Nat) (r:RAs K ok pl H v d):RAs K ok pl H (v.eraseIdx n) (d.eraseIdx n):=by
 rw [jT,jT]
 exact (r.take n).append (r.drop (n + 1))
theorem BK {i:Nat} {x:Str} {vpos apos cpos:Pos} (hfl:fl[i]? = some .O) (hk:DE X fl .P ke fk) (h:DE X fl .A e f) (hN:X.N[i]? = some x) (hv:Vis X.env.scope x:=by first | exact Or.inl rfl | exact Or.inr (Or.inl rfl) | exact Or.inr (Or.inr rfl)) (hd:(x == ("__debug__" : Str))=false:=by decide)
 (hcd:(x == ("__classdict__" : Str))=false:=by decide)
 (hs:swapsWith (.Call (.Attribute (.Name x vpos) "insert" apos) [ke,e] [] cpos) none pos.line X.env=pure false:=by rfl)
 (hbase:attributeBase (.Name x vpos) "insert" X.env (eval (.Name x vpos) X.env)=eval (.Name x vpos) X.env:=by rfl)
 (hfew:((backTo cpos (starEach [ke,e] X.env)).all (fun x=>!x.1) && (backToKw cpos (keywordEach [] X.env)).all (fun x=>x.1.isSome)
  && decide (([ke,e]:List Expr).length + ([]:List Keyword).length + (if ([]:List Keyword).isEmpty then 0 else 1) < 30))=true:=by rfl)
 (hline:(apos.endLine == cpos.line)=true:=by rfl) (hst:starEach [ke,e] X.env=(false,eval ke X.env) :: starEach [e] X.env:=by exact oK rfl) (hst2:starEach [e] X.env=(false,eval e X.env) :: starEach [] X.env:=by exact oK rfl) (hplain:(backTo cpos (starEach [e] X.env)).any (·.1)=false:=by exact Hw rfl) :
 DS1 X fl (.Expr (.Call (.Attribute (.Name x vpos) "insert" apos) [ke,e] [] cpos) pos) (vK i fk f) :=
 PS.imp (tY (Ng PySem.F.plainAttrs_list PySem.F.slot_list_insert PySem.F.type_list_insert Fp (mY hN hv hd hcd) (mK hk (mK h rZ hst2) hst) hbase hfew hline hst hplain) hs) fun Dn σ H hh=>by
 obtain ⟨G,ow,δ,o,R,hf,q⟩:=hh
 unfold vK qIn at hf
 split at hf
 case h_2=>cases hf
 next j d ek ed =>
 obtain ⟨l,m,e1,e2,rfl⟩:=Py hf
 unfold BJ at e2
 by_cases hl:l.length < 1000000∧-(2 ^ 62) ≤ j∧j < 2 ^ 62
 case neg=>rw [if_neg hl] at e2;cases e2
 rw [if_pos hl] at e2
 cases e2
 obtain ⟨a,xs,ho,h1,h2,h3⟩:=Bp R hfl e1
 refine ⟨_,h1,.inl ⟨rfl,_,SqL.of h2⟩,G,ow,δ,_,R,ek,fun v H' s r=>?_⟩
 obtain rfl:=RA.intE r
 refine ⟨G,ow,δ,d,R.grow s,ed,fun u H2 s2 r2=>?_⟩
 have S:=s.trans s2
 refine ⟨a,xs,j,u,rfl,rfl,S _ _ h2,by omega,by omega,by rw [h3.length];exact jg hl.1 (by decide),?_⟩
 have R':=R.grow S
 have h3':=h3.same S
 refine q ow σ _ (R'.mut hfl ho ?_)
 rw [h3.length]
 exact (h3'.take _).append (.cons r2 (h3'.drop _))
end
section
variable {X:Cx} {fl:List Fl} {a:Expr} {pos p p2 pos2:Pos} {fa:FA}
end
end D3
namespace D3
open PySem PySem.Spec PyProof.Rows L2 My
section
variable {X:Cx} {pins:List (Addr × Obj)} {σ:L2.St} {H:Hp} {s:Shared}
end
section
variable {X:Cx} {K:PySem.W.Frag}
end
section
variable {X:Cx} {fl:List Fl} {es:List Expr} {pos:Pos}
end
section
variable {X:Cx} {fl:List Fl} {e:Expr} {f:FE}
theorem S6 {tg l:Expr} {t1 t2:TI} (h1:PI X tg l t1) (h2:PI X tg l t2):PI X tg l (fun σ H R=>t1 σ H R∨t2 σ H R):=fun pins s σ H R I h=>by
 rcases h with h | h
 ·exact h1 pins s σ H R I h
 ·exact h2 pins s σ H R I h
theorem PB {K:PySem.W.Frag} {G:Gh} {ow:Ow} {σ:St} {H Hb:Hp} {δ:DS} {L:List Nat} {v:V} {l:List D} (R:Rel K fl G ow σ H δ) (r:Rs K G.H0 ow Hb H (.B L) v (.tuple l)):∃ a xs,v = .ref a∧SqT K H a xs ∧
 ∀ H2:Hp,(∀ b o,H b=some o→(∀ i,ow i=some b→i ∈ L)→(∀ i,b ∉ ow.n i)→H2 b=some o)→SqT K H2 a xs∧RAs K (fun b=>okA ow b∧H b ≠ none) true H2 xs l:=by
 rcases r with r | ⟨i,hi,a,xs,ds,ho,rfl,e,hx,hr⟩
 ·cases r with
  | tup e q =>
   refine ⟨_,_,rfl,e.sq,fun H2 hk=>⟨?_,RAs.keep hk R.ownL R.ownC (fun b z=>z.1) q.track⟩⟩
   exact .inl (.inl (hk _ _ e (nm R.ownL e (by intro xs z;cases z)) (nm2 R.ownC e Chg.tup)))
 ·cases e
theorem PJ {tg:Expr} {L:List Nat} (h:DE X fl (.B L) e f):DI X fl L tg e (Pu f):=PI.imp (S6 (C_ h) (Ou h)) fun σ H R' h=>by
 obtain ⟨G,ow,δ,l,R,hf,q⟩:=h
 obtain ⟨d,e1,e2⟩:=bind1 hf
 cases d with
 | list l' =>
  cases e2
  refine .inl ⟨G,ow,δ,_,R,e1,fun v H1 s r=>?_⟩
  obtain ⟨a,xs,rfl,hx,keep⟩:=Bq (R.grow s) r
  refine ⟨a,rfl,⟨xs,hx⟩,q _ _ s fun H2 k2 i=>?_⟩
  obtain ⟨k3,k4⟩:=keep H2 k2
  refine ⟨fun d hd=>?_,fun hl=>⟨xs,k3,by rw [k4.length];exact hl⟩⟩
  obtain ⟨y,hy,ry⟩:=k4.get hd
  refine ⟨⟨xs,y,k3,hy⟩,fun x H3 hyl=>?_⟩
  obtain ⟨e,hz⟩:=hyl
  subst e
  have:some y=some x:=hy.symm.trans (hz xs k3)
  cases this
  exact ⟨Same.refl _,ry⟩
 | tuple l' =>
  cases e2
  refine .inr ⟨G,ow,δ,_,R,e1,fun v H1 s r=>?_⟩
  obtain ⟨a,xs,rfl,hx,keep⟩:=PB (R.grow s) r
  refine ⟨a,rfl,⟨xs,hx⟩,q _ _ s fun H2 k2 i=>?_⟩
  obtain ⟨k3,k4⟩:=keep H2 k2
  refine ⟨fun d hd=>?_,fun hl=>⟨xs,k3,by rw [k4.length];exact hl⟩⟩
  obtain ⟨y,hy,ry⟩:=k4.get hd
  refine ⟨⟨xs,y,k3,hy⟩,fun x H3 hyl=>?_⟩
  obtain ⟨e,hz⟩:=hyl
  subst e
  have:some y=some x:=hy.symm.trans (hz xs k3)
  cases this
  exact ⟨Same.refl _,ry⟩
 | none=>cases e2
 | bool _=>cases e2
 | int _=>cases e2
 | str _=>cases e2
 | dict _=>cases e2
end
section
variable {X:Cx} {fl:List Fl} {a:Expr} {f:FE} {pos p:Pos}
end
section
variable {X:Cx} {fl:List Fl} {a b:Expr} {fa fb:FE} {pos:Pos}
end
end D3
namespace D3
open PySem PySem.Spec PyProof.Rows L2 My
section
variable {X:Cx} {K:PySem.W.Frag}
def Ds (K:PySem.W.Frag):R2:=fun x y H Q=>∃ da l,RdV K H x da∧((RdV K H y (.list l)∧SeqAt.shaped (.list l)=true)∨(RdV K H y (.tuple l)∧SeqAt.shaped (.tuple l)=true))∧SeqAt.shaped da=true∧Q (.bl (!l.any fun z=>PyData.eqv z da)) H
theorem Dt {A:Around} {l:List D} {d:D} (hu:A.units + 64 < cLine) (h:PyData.depthAll l + 1 ≤ 64):A.units + 1 + min (PyData.depthAll l) d.depth < cLine:=by
 have:=Nat.min_le_left (PyData.depthAll l) d.depth
 omega
theorem tH {l:List D} (h:SeqAt.shaped (.list l)=true):PyData.canLayAll0 l=true∧PyData.depthAll l + 1 ≤ 64:=by
 unfold SeqAt.shaped at h
 rw [aM] at h
 refine ⟨by simpa [PyData.canLay0] using h.1,?_⟩
 have:=of_decide_eq_true h.2
 simpa [PyData.depth] using this
theorem rG {l:List D} (h:SeqAt.shaped (.tuple l)=true):PyData.canLayAll0 l=true∧PyData.depthAll l + 1 ≤ 64:=by
 unfold SeqAt.shaped at h
 rw [aM] at h
 refine ⟨by simpa [PyData.canLay0] using h.1,?_⟩
 have:=of_decide_eq_true h.2
 simpa [PyData.depth] using this
theorem wU (hu:X.A.units + 64 < cLine):OpR X (compareOp .NotIn) (Ds X.K):=by
 intro pins s σ H x y v u Q I rx ry h
 obtain ⟨da,l,ha,hb,sa,q⟩:=h
 obtain ⟨as,za⟩:=ha.reads I rx
 rcases hb with ⟨hb,sb⟩ | ⟨hb,sb⟩
 ·obtain ⟨bs,zb⟩:=hb.reads I ry
  exact SeqAt.notIn_list_reads zb za (tH sb).1 (SeqAt.canLay_of_shaped sa) (Dt hu (tH sb).2) ⟨.bl _,H,I,rfl,q⟩
 ·obtain ⟨bs,zb⟩:=hb.reads I ry
  exact SeqAt.notIn_tuple_reads zb za (rG sb).1 (SeqAt.canLay_of_shaped sa) (Dt hu (rG sb).2) ⟨.bl _,H,I,rfl,q⟩
theorem Du:BrO K (Ds K) nj:=by
 intro H x y dx dy d Q rx ry e q
 cases dy with
 | list l =>
  by_cases z:(SeqAt.shaped dx && SeqAt.shaped (.list l))=true
  ·have e:(if (SeqAt.shaped dx && SeqAt.shaped (.list l))=true then some (PyData.bool (!l.any fun z=>PyData.eqv z dx)) else none)=some d:=e
   rw [if_pos z] at e
   cases e
   rw [aM] at z
   exact ⟨dx,l,rx.rd (SeqAt.canLay_of_shaped z.1),.inl ⟨ry.rd (SeqAt.canLay_of_shaped z.2),z.2⟩,z.1,q _ rfl (.bl _)⟩
  ·have e:(if (SeqAt.shaped dx && SeqAt.shaped (.list l))=true then some (PyData.bool (!l.any fun z=>PyData.eqv z dx)) else none)=some d:=e
   rw [if_neg z] at e
   cases e
 | tuple l =>
  by_cases z:(SeqAt.shaped dx && SeqAt.shaped (.tuple l))=true
  ·have e:(if (SeqAt.shaped dx && SeqAt.shaped (.tuple l))=true then some (PyData.bool (!l.any fun z=>PyData.eqv z dx)) else none)=some d:=e
   rw [if_pos z] at e
   cases e
   rw [aM] at z
   exact ⟨dx,l,rx.rd (SeqAt.canLay_of_shaped z.1),.inr ⟨ry.rd (SeqAt.canLay_of_shaped z.2),z.2⟩,z.1,q _ rfl (.bl _)⟩
  ·have e:(if (SeqAt.shaped dx && SeqAt.shaped (.tuple l))=true then some (PyData.bool (!l.any fun z=>PyData.eqv z dx)) else none)=some d:=e
   rw [if_neg z] at e
   cases e
 | _=>cases e
end
section
variable {X:Cx} {fl:List Fl} {a:Expr} {f:FE} {pos:Pos}
end
section
variable {X:Cx} {fl:List Fl} {e:Expr} {es:List Expr} {f:FE} {pos p:Pos} {x:Str} {n:Nat} {F:List D→Option D} {fa:FA}
end
section
variable {P:Program} {w:World} {K:PySem.W.Frag} {mg:Str→Option Value} {base:Heap} {x:Str} {ps N:List Str} {st:Stmt} {k n:Nat} {fs:FS} {fl:List Fl}
end
section
variable {P:Program} {w:World} {K:PySem.W.Frag} {mg:Str→Option Value} {base:Heap} {x:Str} {ps:List Str} {st:Stmt} {n:Nat}
end
end D3
namespace D3
open PySem PySem.Spec PyProof.Rows L2 My
section
variable {K:PySem.W.Frag} {fl flA:List Fl} {G:Gh} {ow:Ow} {σ σ':St} {H H1:Hp} {δ:DS} {T:List Nat}
end
section
variable {X:Cx} {fl flA:List Fl} {e:Expr} {es:List Expr} {f:FE} {fa:FA} {pos:Pos}
end
section
variable {X:Cx} {fl:List Fl} {pos:Pos}
end
end D3
namespace XS
open PySem PySem.W PyProof.Rows
def cY {α:Type} (lt:Nat→Nat→Bool):KasT α→α
 | .ret a=>a
 | .ask i j k=>cY lt (k (lt i j))
def lX {α:Type} (n:Nat) (R:α→Prop):KasT α→Prop
 | .ret a=>R a
 | .ask i j k=>i < n∧j < n∧∀ b,lX n R (k b)
section
variable {α β:Type} {n:Nat} {R:α→Prop} {R':β→Prop} {lt:Nat→Nat→Bool}
theorem lN (f:α→KasT β):∀ t:KasT α,cY lt (t.bind f)=cY lt (f (cY lt t))
 | .ret _=>rfl
 | .ask _ _ k=>lN f (k _)
theorem lO {f:α→KasT β} (hf:∀ a,R a→lX n R' (f a)):∀ t:KasT α,lX n R t→lX n R' (t.bind f)
 | .ret a,h=>hf a h
 | .ask _ _ k,h=>⟨h.1,h.2.1,fun b=>lO hf (k b) (h.2.2 b)⟩
theorem zY:∀ t:KasT α,lX n R t→R (cY lt t)
 | .ret _,h=>h
 | .ask _ _ k,h=>zY (k _) (h.2.2 _)
theorem yc {cmp:Nat→Nat→(Bool→Shared→Prop)→Shared→Prop} {G:α→Shared→Prop} {s:Shared} (hc:∀ i j C,i < n→j < n→C (lt i j) s→cmp i j C s) :
 ∀ t:KasT α,lX n R t→G (cY lt t) s→t.kasWp cmp G s
 | .ret _,_,q=>q
 | .ask _ _ k,h,q=>hc _ _ _ h.1 h.2.1 (yc hc (k _) (h.2.2 _) q)
end
def good (n:Nat) (p:Array Nat):Prop:=p.Perm (aG n).toArray
section
variable {n:Nat} {p:Array Nat}
theorem good.mem (g:good n p) {x:Nat} (h:x ∈ p.toList):x < n:=by
 have:x ∈ (aG n):=by
  have:=(lR.mp g).mem_iff.mp h
  simpa using this
 exact aR.mp this
theorem good.get (g:good n p) (h0:0 < n) (i:Nat):p.getD i 0 < n:=by
 unfold Array.getD
 split
 ·exact g.mem (by simp)
 ·exact h0
theorem good.rev (g:good n p) (i j:Nat):good n (kas_rev p i j):=(mirror_perm _ _ _ _).trans g
theorem good.bub (g:good n p) (i j:Nat):good n (bubble p i j):=(bubble_perm _ _ _).trans g
theorem uP (h0:0 < n) (g:good n p):∀ f a,lX n (fun _=>True) (kas_asc p f a)
 | 0,a=>trivial
 | f + 1,a=>⟨g.get h0 _,g.get h0 _,fun b=>by
  cases b
  ·exact uP h0 g f (a + 1)
  ·trivial⟩
theorem pU (h0:0 < n):∀ f (p:Array Nat) a q,good n p→lX n (fun r=>good n r.1) (kas_desc f p a q)
 | 0,p,a,q,g=>g
 | f + 1,p,a,q,g=>by
  refine ⟨g.get h0 _,g.get h0 _,fun b=>?_⟩
  cases b
  ·refine ⟨g.get h0 _,g.get h0 _,fun c=>?_⟩
   cases c
   ·exact pU h0 f p (a + 1) (q + 1) g
   ·exact g
  ·show lX n _ (if q > 0 then _ else _)
   split
   ·exact pU h0 f _ _ _ (g.rev _ _)
   ·exact pU h0 f _ _ _ g
theorem uQ (h0:0 < n) (g:good n p) (a m:Nat):lX n (fun r=>good n r.2) (kas_tail3 a m p):=by
 unfold kas_tail3
 refine lO (R:=fun _=>True) (fun c _=>?_) _ (uP h0 (g.rev _ _) _ _)
 show good n (kas_rev p 0 a)
 exact g.rev _ _
theorem wV (h0:0 < n) (g:good n p) (a m:Nat):lX n (fun r=>good n r.2) (kas_descPart a m p) :=
 lO (R:=fun r=>good n r.1) (fun r h=>by
  split
  ·exact uQ h0 (good.rev h _ _) _ _
  ·exact uQ h0 h _ _) _ (pU h0 _ _ _ _ g)
theorem BL (h0:0 < n) (g:good n p) (m:Nat):lX n (fun r=>good n r.2) (kas_count m p) :=
 lO (R:=fun _=>True) (fun a _=>by
  split
  ·exact g
  ·split
   ·refine ⟨g.get h0 _,g.get h0 _,fun b=>?_⟩
    cases b
    ·exact wV h0 (g.rev _ _) _ _
    ·exact g
   ·exact wV h0 g _ _) _ (uP h0 g _ _)
theorem qH (h0:0 < n) (g:good n p) (k:Nat):∀ f l r,lX n (fun _=>True) (kas_place p k f l r)
 | 0,l,r=>trivial
 | f + 1,l,r=>by
  unfold kas_place
  split
  ·trivial
  ·refine ⟨g.get h0 _,g.get h0 _,fun b=>?_⟩
   cases b
   ·exact qH h0 g k f _ _
   ·exact qH h0 g k f _ _
theorem zZ (h0:0 < n):∀ f (p:Array Nat) k,good n p→lX n (good n) (kas_bin f p k)
 | 0,p,k,g=>g
 | f + 1,p,k,g=>lO (R:=fun _=>True) (fun l _=>zZ h0 f _ _ (g.bub _ _)) _ (qH h0 g k _ _ _)
theorem sV (h0:0 < n):lX n (good n) (kas_sort n) :=
 lO (R:=fun r=>good n r.2) (fun r h=>by
  split
  ·exact zZ h0 _ _ _ h
  ·exact h) _ (BL h0 (Array.Perm.refl _) n)
end
def lY (n:Nat) (lt:Nat→Nat→Bool):List Nat:=(cY lt (kas_sort n)).toList
theorem jd {n:Nat} (h0:0 < n) (lt:Nat→Nat→Bool):(lY n lt).Perm (aG n):=by
 have:good n (cY lt (kas_sort n)):=zY _ (sV h0)
 have:=lR.mp this
 simpa [lY] using this
def vL (a b:Int × Int):Bool:=if a.1=b.1 then decide (a.2 < b.2) else decide (a.1 < b.1)
def ltP (qs:List (Int × Int)) (i j:Nat):Bool:=vL (qs.getD i (0,0)) (qs.getD j (0,0))
open D3
def BP:List D→Option (List (Int × Int))
 | []=>some []
 | .tuple [.int i,.int j] :: r=>(BP r).map ((i,j) :: ·)
 | _=>none
def uR:List D→Option D
 | [.list l]=>match i_ l with
  | some _=>rA [.list l]
  | none=>(BP l).bind fun qs=>if l.length < 64 then (if l.length=1 then some (.list l) else some (.list ((lY l.length (ltP qs)).map fun i=>l.getD i .none))) else none
 | _=>none
end XS
namespace XS
open PySem PySem.Spec PySem.W PyProof.Rows L2 My D3
theorem sW {P:Program} {w:World} {H:Hp} {h:Heap} {a:Addr} {o:HO} (x:gB P w H h a o):∃ u,h.get? a=some u:=by
 cases o with
 | lst xs=>obtain ⟨_,_,_,_,e⟩:=x;exact ⟨_,e⟩
 | tup xs=>obtain ⟨_,_,_,u,e,_⟩:=x;exact ⟨_,e⟩
 | dK kvs=>obtain ⟨_,_,_,_,u,_,_,e,_⟩:=x;exact ⟨_,e⟩
 | dT kvs=>obtain ⟨_,_,_,_,u,_,_,e,_⟩:=x;exact ⟨_,e⟩
 | set S n=>obtain ⟨u,_,_,_,e,_⟩:=x;exact ⟨_,e⟩
 | ins C dx fs=>obtain ⟨_,_,_,e,_⟩:=x;exact ⟨_,e⟩
 | own y=>exact x
 | xd fs=>obtain ⟨_,⟨u,_,_,e,_⟩,_⟩:=x;exact ⟨_,e⟩
 | met f y=>exact ⟨_,x⟩
 | rng lo hi=>obtain ⟨_,_,_,e⟩:=x;exact ⟨_,e⟩
 | frz u v=>exact ⟨_,x.1⟩
 | tbl q p=>obtain ⟨_,e,_⟩:=x;exact ⟨_,e⟩
 | ext φ=>exact x.2.1
section
variable {X:Cx} {pins:List (Addr × Obj)} {σ:L2.St} {H:Hp} {s:Shared}
theorem PK {h:Heap} {L:Addr} {m m':Str→Option Value} (a:h.Ns L m) (b:h.Ns L m'):m=m':=by
 obtain ⟨o,es,ep,e,d,_,f⟩:=a
 obtain ⟨o',es',ep',e',d',_,f'⟩:=b
 rw [e] at e';cases e'
 rw [d] at d';cases d'
 funext x
 rw [← f,← f']
theorem Dv {h':Heap} {m:Str→Option Value} {D:Addr} {o:HO} (I:Inv X pins σ H s) (hm:s.heap.Ns X.env.locals m) (hm':h'.Ns X.env.locals m) (k:∀ b u,b ≠ X.env.locals→s.heap.get? b=some u→h'.get? b=some u)
 (hD:s.heap.get? D=none) (new:gB X.prog X.w (upd H D o) h' D o):Inv X pins σ (upd H D o) { s with heap:=h' }:=by
 have hn:H D=none:=by
  cases e:H D with
  | none=>rfl
  | some u =>
   obtain ⟨w,hw⟩:=sW (I.hok D u e)
   rw [hD] at hw;cases hw
 have ne:∀ {b u},H b=some u→b ≠ D:=fun e=>gZ e hn
 refine I.step (g':=s.gens) (d':=s.drawn) (t':=s.toks) (ch:=[]) (fun b hb=>by cases hb) (fun b u hL _ _ e _=>k b u hL e) (fun b u hL _ _ e _=>⟨u.slots,k b u hL e⟩) (fun b u _ e n=>?_) (fun b u _ e=>?_)
  (fun b xs e=>by rw [cC (ne e)];exact e) (fun b u v e=>by rw [cC (ne e)];exact e) (fun b q p e=>by rw [cC (ne e)];exact e) (fun m2 h2=>by rw [← PK hm h2];exact hm') (fun b u e=>?_) I.bare
 ·rw [cC (fun z=>by rw [z,hD] at e;cases e)];exact n
 ·by_cases z:b=X.env.locals
  ·obtain ⟨w,_,_,hw,_⟩:=hm'
   exact ⟨w,by rw [z];exact hw⟩
  ·exact ⟨u,k b u z e⟩
 ·by_cases z:b=D
  ·subst z
   rw [cQ] at e
   cases e
   exact new
  ·rw [cC z] at e
   refine (I.hok b u e).stay (fun c w hc q=>k c w (fun y=>?_) q) (fun c q=>by rw [cC (ne q)];exact q) fun c xs q=>by rw [cC (ne q)];exact q
   rcases hc with rfl | y2
   ·rw [y,I.free] at e;cases e
   ·rw [y,I.free] at y2;cases y2
end
section
variable {prog:Program} {w:World} {A:Around} {E:Value→Shared→Prop} {s:Shared}
theorem KJ {x y:Addr} {a b c d:Int} {t1 t2 t3 t4:Tok} {C:Bool→Shared→Prop} (hx:IsTup s.heap x #[.int a t1,.int b t2]) (hy:IsTup s.heap y #[.int c t3,.int d t4]) (q:C (vL (a,b) (c,d)) s) :
 wpAny (model prog w) A (keyLt' (tuples' true) (.ref x) (.ref y)) C E s:=by
 obtain ⟨ox,ex,_,nx,dx⟩:=hx
 obtain ⟨oy,ey,_,ny,dy⟩:=hy
 refine kat_lt ex dx ey dy ?_
 show KatLex prog w A true (decide (2 < 2)) C [(Value.int a t1,Value.int c t3),(Value.int b t2,Value.int d t4)] 0 s
 refine kat_cons (wpAny_eqBool_int (kat_go (fun e=>?_) fun e=>?_))
 ·refine kat_yes (kat_cons (wpAny_eqBool_int (kat_go (fun e2=>?_) fun e2=>?_)))
  ·refine kat_yes (kat_nil ?_)
   have e:=beq_iff_eq.mp e
   have e2:=beq_iff_eq.mp e2
   subst e e2
   simpa [vL] using q
  ·refine kat_no (kat_one _ _ (lt_int ?_))
   have e:=beq_iff_eq.mp e
   subst e
   simpa [vL,PySem.W.BoolBack] using q
 ·refine kat_no ?_
  have e:a ≠ c:=by
   intro z;subst z;simp at e
  have q':C (decide (a < c)) s:=by simpa [vL,e] using q
  exact oneLt_int q'
end
end XS
namespace XS
open PySem PySem.Spec PySem.W PyProof.Rows L2 My D3
def PN (K:PySem.W.Frag) (H:Hp) (y:V) (q:Int × Int):Prop:=∃ a,y = .ref a∧SqT K H a [.int q.1,.int q.2]
abbrev Prs (K:PySem.W.Frag) (H:Hp):List V→List (Int × Int)→Prop:=Paired (PN K H)
section
variable {X:Cx} {pins:List (Addr × Obj)} {σ:L2.St} {H:Hp} {s:Shared}
theorem yd (I:Inv X pins σ H s) {y:V} {u:Value} {q:Int × Int} (h:PN X.K H y q) (r:RelV y u):∃ a t1 t2,u = .ref a∧IsTup s.heap a #[.int q.1 t1,.int q.2 t2]:=by
 obtain ⟨a,rfl,hq⟩:=h
 cases r
 obtain ⟨its,rr,p,_⟩:=I.tuple hq
 cases rr with
 | cons r1 rr=>cases rr with
  | cons r2 rr =>
   cases rr
   obtain ⟨t1,rfl⟩:=r1
   obtain ⟨t2,rfl⟩:=r2
   exact ⟨a,t1,t2,rfl,p⟩
theorem Dw (I:Inv X pins σ H s) {h':Heap} (k:∀ a items,IsTup s.heap a items→IsTup h' a items):∀ {ys:List V} {us:List Value} {qs:List (Int × Int)},Prs X.K H ys qs→Vals ys us→∃ fs,KatTups h' us fs∧fs.length=us.length∧∀ v ∈ fs,∃ i t,v = .int i t
 | _,_,_,.nil,.nil=>⟨[],trivial,rfl,fun _ h=>by cases h⟩
 | _,_,_,.cons p ps,.cons r rs=>by
  obtain ⟨fs,h1,h2,h3⟩:=Dw I k ps rs
  obtain ⟨a,t1,t2,rfl,ht⟩:=yd I p r
  obtain ⟨o,e,c,n,d⟩:=k _ _ ht
  refine ⟨.int _ t1 :: fs,⟨⟨a,o,_,n,rfl,e,c,d,rfl⟩,h1⟩,by simp [h2],fun v hv=>?_⟩
  rcases bH.mp hv with rfl | hv
  ·exact ⟨_,_,rfl⟩
  ·exact h3 v hv
theorem pW {ys:List V} {us:List Value} {qs:List (Int × Int)}:Prs X.K H ys qs→Vals ys us→∀ i,i < ys.length→PN X.K H (ys.getD i .non) (qs.getD i (0,0))∧RelV (ys.getD i .non) (us.getD i .none)
 | .nil,.nil,i,h=>by cases h
 | .cons p ps,.cons r rs,0,h=>⟨p,r⟩
 | .cons p ps,.cons r rs,i + 1,h=>by
  have:=pW ps rs i (by simpa using h)
  simpa using this
theorem yg:mJ X (.builtin "sorted") (fun xs H Q=>∃ (p:Addr) (ys:List V) (qs:List (Int × Int)),xs=[.ref p]∧SqL X.K H p ys∧2 ≤ ys.length∧ys.length < 64∧Prs X.K H ys qs∧∀ l,H l=none→Q (.ref l) (upd H l (.lst ((lY ys.length (ltP qs)).map fun i=>ys.getD i .non)))):=by
 intro pins s σ H xs us Q I r h
 obtain ⟨p,ys,qs,rfl,hx,h2,h64,hp,q⟩:=h
 obtain ⟨u,rfl,rx⟩:=vals1 r
 cases rx
 obtain ⟨its,rvs,pl,hz⟩:=I.list hx
 obtain ⟨m,hm,_⟩:=id I.loc
 have len:its.length=ys.length:=rvs.length.symm
 refine kat_sorted (h₀:=Att.jL s.heap) (L:=X.env.locals) (m:=m) (Att.Bb hm) (ux (g:=Att.jL s.heap) (h:=s.heap) (L:=X.env.locals)) pl.isList (by rw [len];exact h2) (by rw [len];exact h64) fun D e1 h' F' N' lt=>?_
 have kept:∀ {h'':Heap} {nw:List (Addr × Obj)},News (Att.jL s.heap) X.env.locals h'' nw→(∀ y ∈ lB (Att.jL s.heap) s.heap X.env.locals,y ∈ nw)→∀ b o,b ≠ X.env.locals→s.heap.get? b=some o→h''.get? b=some o:=fun N hs b o hb e=>(N (b,o) (hs _ (o7 hb (Att.n_ _ _) e))).1
 have kt:∀ a items,IsTup s.heap a items→IsTup h' a items:=fun a items ⟨o,e,c,n,d⟩=>⟨o,kept N' (fun y hy=>aO _ hy) a o (fun z=>by
  obtain ⟨o2,es,ep,e2,d2,_⟩:=hm
  rw [z,e2] at e;cases e
  rw [d2] at d;cases d) e,c,n,d⟩
 obtain ⟨fs,f1,f2,f3⟩:=Dw I kt hp rvs
 refine kat_kind (T:=.type "int") f1 (by rw [f2,len];omega) (fun v hv=>?_) rfl ?_
 ·obtain ⟨i,t,rfl⟩:=f3 v hv
  exact fun A Q E s _ q=>wpAny_pure q
 have e64:its.length < 64:=by rw [len];exact h64
 refine yc (n:=its.length) (lt:=ltP qs) (R:=good its.length) (fun i j C hi hj hc=>?_) _ (sV (by rw [len];omega)) ?_
 ·obtain ⟨p1,r1⟩:=pW hp rvs i (by rw [← len];exact hi)
  obtain ⟨p2,r2⟩:=pW hp rvs j (by rw [← len];exact hj)
  obtain ⟨a1,t1,t2,x1,y1⟩:=yd I p1 r1
  obtain ⟨a2,t3,t4,x2,y2⟩:=yd I p2 r2
  unfold kas_ask
  rw [x1,x2]
  exact KJ (kt _ _ y1) (kt _ _ y2) hc
 ·refine KasFin.intro F' N' (.head fun y hy=>bR (lt y hy)) fun h2 c F2 N2=>?_
  have hD:s.heap.get? D=none:=by
   cases e:s.heap.get? D with
   | none=>rfl
   | some o =>
    by_cases z:D=X.env.locals
    ·exact absurd z (N' _ (aN ..)).2.1
    ·exact absurd (lt (D,o) (o7 z (Att.n_ _ _) e)) (gw _)
  have hn:H D=none:=by
   cases e:H D with
   | none=>rfl
   | some u =>
    obtain ⟨w,hw⟩:=sW (I.hok D u e)
    rw [hD] at hw;cases hw
  have pm:=jd (n:=ys.length) (by omega) (ltP qs)
  have hv:∀ l:List Nat,(∀ i ∈ l,i < ys.length)→Vals (l.map fun i=>ys.getD i .non) (l.map fun i=>its.getD i .none):=fun l hl=>by
   induction l with
   | nil=>exact .nil
   | cons i l ih=>exact .cons (pW hp rvs i (hl i aN)).2 (ih fun j hj=>hl j (aO _ hj))
  have o1:((cY (ltP qs) (kas_sort its.length)).toList)=lY ys.length (ltP qs):=by rw [len];rfl
  have new:gB X.prog X.w (upd H D (.lst ((lY ys.length (ltP qs)).map fun i=>ys.getD i .non))) h2 D (.lst ((lY ys.length (ltP qs)).map fun i=>ys.getD i .non)):=by
   refine ⟨by rw [aJ,pm.length_eq,aY];exact bT (fZ h64) (by decide),_,c,hv _ fun i hi=>aR.mp (pm.mem_iff.mp hi),?_⟩
   have:=(N2 _ (aN ..)).1
   rw [← o1]
   exact this
  exact ⟨.ref D,_,Dv (s:=s) (h':=h2) I hm F2.ns (kept N2 fun y hy=>aO _ hy) hD new,rfl,q D hn⟩
end
end XS
namespace XS
open PySem PySem.Spec PySem.W PyProof.Rows L2 My D3
section
variable {prog:Program} {w:World} {A:Around} {E:Value→Shared→Prop} {s:Shared}
theorem HY {a:Addr} {v:Value} {n:Nat} {P:PySem.Fin→Shared→Prop} (ho:s.heap.get? a=some (seqObj "list" #[v] n))
 (h:∀ h' c,(∀ b u,b ≠ a→s.heap.get? b=some u→h'.get? b=some u)→h'.get? a=some (seqObj "list" #[v] c)→P (.done (.ret .none)) { s with heap:=h' }) :
 wpAny (model prog w) A (Builtin.«list.sort» ⟨[.ref a],[]⟩) P E s:=by
 obtain ⟨g1,e1⟩:∃ g1,g1=s.heap.update a (Obj.mapSeq fun _=>(#[]:Array Value)):=⟨_,rfl⟩
 obtain ⟨c1,h1⟩:∃ c,g1.get? a=some (seqObj "list" #[] c):=⟨_,by rw [e1];exact get?_update_seq ho fun _=>#[]⟩
 have k1:∀ b u,b ≠ a→s.heap.get? b=some u→g1.get? b=some u:=fun b u z q=>by rw [e1];exact (Heap.get?_update_ne _ _ _ _ z).trans q
 rw [list_sort_plain]
 refine wpAny_bind (listItems_at ho rfl ?_)
 refine wpAny_bind (listUpdate_at ho rfl ?_ (show 1 ≤ sizeLine by decide) (dU _))
 rw [← e1]
 refine wpAny_bind (seqEpoch_at h1 rfl ?_)
 refine wpAny_bind (wpAny_newTuple ?_ (show 1 ≤ sizeLine by decide))
 refine wpAny_bind (wpAny_newList ?_ (dU _))
 refine wpAny_holding ?_
 obtain ⟨g2,e2⟩:∃ g2,g2=(g1.push (seqObj "tuple" #[v] 0)).push (seqObj "list" #[] 0):=⟨_,rfl⟩
 show wpAny (model prog w) A _ P E { s with heap:=(g1.push (seqObj "tuple" #[v] 0)).push (seqObj "list" #[] 0) }
 rw [← e2]
 have h2:g2.get? a=some (seqObj "list" #[] c1):=by rw [e2];exact Heap.get?_push_of_some _ (Heap.get?_push_of_some _ h1)
 have k2:∀ b u,b ≠ a→s.heap.get? b=some u→g2.get? b=some u:=fun b u z q=>by rw [e2];exact Heap.get?_push_of_some _ (Heap.get?_push_of_some _ (k1 b u z q))
 have two:(#[v]:Array Value).size < 2:=nq 1
 have srt:(arrOf (SortSt.mk' general' ((#[v]:Array Value).zip #[v]) #[] 7 none)).map (·.2) = #[v]:=by
  show ((#[v]:Array Value).zip #[v]).map (·.2) = #[v]
  simp
 dsimp only
 rw [if_pos two,if_pos two]
 refine wpAny_bind (wpAny_pure ?_)
 refine wpAny_bind (wpAny_pure ?_)
 dsimp only
 rw [srt]
 refine wpAny_bind (seqEpoch_at h2 rfl ?_)
 refine wpAny_bind (listUpdate_at h2 rfl ?_ (dU _) (show 1 ≤ sizeLine + 1 by decide))
 show wpAny _ _ (if (c1 != c1)=true then _ else ret Value.none) P E _
 rw [if_neg (by simp)]
 refine wpAny_pure (h _ _ (fun b u z q=>(Heap.get?_update_ne _ _ _ _ z).trans (k2 b u z q)) (get?_update_seq h2 _))
end
section
variable {X:Cx}
theorem yh:mJ X (.builtin "sorted") (fun xs H Q=>∃ (p:Addr) (y:V),xs=[.ref p]∧SqL X.K H p [y]∧∀ l,H l=none→Q (.ref l) (upd H l (.lst [y]))):=by
 intro pins s σ H xs us Q I r h
 obtain ⟨p,y,rfl,hx,q⟩:=h
 obtain ⟨u,rfl,rx⟩:=vals1 r
 cases rx
 obtain ⟨its,rvs,pl,hz⟩:=I.list hx
 obtain ⟨v,rfl,rv⟩:∃ v,its=[v]∧RelV y v:=by
  cases rvs with
  | cons a b=>cases b;exact ⟨_,rfl,a⟩
 refine Calls.call_function_entry kind_sorted plain_sorted entry_sorted (args_sorted1 _) ?_
 unfold Builtin.«sorted»
 refine wpAny_bind (m:=checkCount "sorted" 1 1 _) (wpAny_pure ?_)
 refine wpAny_bind (collect_list (vs:=[v]) pl.isList ?_ (show 1 ≤ sizeLine by decide))
 refine wpAny_bind (wpAny_newList ?_ (show 1 ≤ sizeLine by decide))
 obtain ⟨g,eg⟩:∃ g,g=(s.heap.push (seqObj "list" #[] 0)).update s.heap.objs.size (Obj.mapSeq (·++[v].toArray)):=⟨_,rfl⟩
 show wpAny _ _ _ _ _ { s with heap:=((s.heap.push (seqObj "list" #[] 0)).update s.heap.objs.size (Obj.mapSeq (·++[v].toArray))).push (seqObj "list" [v].toArray 0) }
 rw [← eg]
 have sz:g.objs.size=s.heap.objs.size + 1:=by rw [eg,Heap.size_update,size_push']
 have old:∀ b o,s.heap.get? b=some o→g.get? b=some o:=fun b o e=>by
  have lt:=Heap.lt_size e
  rw [eg,Heap.get?_update_ne _ _ _ _ (bR lt)]
  exact Heap.get?_push_of_some _ e
 have at':(g.push (seqObj "list" [v].toArray 0)).get? g.objs.size=some (seqObj "list" #[v] 0):=Heap.get?_push_size _ rfl
 refine wpAny_bind (wpAny_holding (wpAny_call_entry slot_list_sort ⟨_,at',rfl⟩ entry_list_sort (HY at' fun h' c k e=>⟨_,rfl,?_⟩) (args_list_sort _)))
 refine wpAny_pure ⟨_,rfl,?_⟩
 have hn:H g.objs.size=none:=I.hok.fresh (by rw [sz];exact kE _)
 have I2:=I.laid (h':=h') (t':=s.toks) (a:=g.objs.size) (o:=.lst [y]) (fun b o q=>k b o (fun z=>by
  have lt:b < s.heap.objs.size:=Heap.lt_size q
  have z:b=s.heap.objs.size + 1:=z.trans sz
  rw [z] at lt
  exact absurd lt (Nat.not_lt.mpr (kE _))) (Heap.get?_push_of_some _ (old b o q))) (by rw [sz];exact kE _) ⟨show 1 ≤ sizeLine by decide,[v],c,.cons rv .nil,e⟩
 exact ⟨.ref _,_,I2,rfl,q _ hn⟩
end
end XS
namespace XS
open PySem PySem.Spec PySem.W PyProof.Rows L2 My D3
section
variable {K:PySem.W.Frag} {H:Hp}
theorem BR:∀ {l:List D} {qs:List (Int × Int)} {ys:List V},BP l=some qs→RAs K ok1 true H ys l→Prs K H ys qs∧l=qs.map fun q=>.tuple [.int q.1,.int q.2]
 | [],qs,ys,e,r=>by
  cases e;cases r;exact ⟨.nil,rfl⟩
 | d :: l,qs,ys,e,r=>by
  cases r with
  | cons r1 r2 =>
   unfold BP at e
   split at e
   ·next h=>cases h
   ·next i j t h =>
    cases h
    cases e3:BP l with
    | none=>rw [e3] at e;cases e
    | some q2 =>
     rw [e3] at e
     cases e
     obtain ⟨p,el⟩:=BR e3 r2
     obtain ⟨a,xs,rfl,hs,hr⟩:=r1.tupE
     cases hr with
     | cons h1 hr=>cases hr with
      | cons h2 hr =>
       cases hr
       obtain rfl:=h1.intE
       obtain rfl:=h2.intE
       exact ⟨.cons ⟨a,rfl,hs⟩ p,by rw [bC,← el]⟩
   ·cases e
theorem z6 (qs:List (Int × Int)):flats (qs.map fun q=>(.tuple [.int q.1,.int q.2]:D))=true:=by
 induction qs with
 | nil=>rfl
 | cons q qs ih=>simp [flats,flat,ih]
theorem uT:∀ {l:List D},flats l=true→∀ i,flat (l.getD i .none)=true
 | [],_,i=>by simp [flat]
 | d :: l,h,0=>by rw [flats,aM] at h;exact h.1
 | d :: l,h,i + 1=>by
  rw [flats,aM] at h
  simpa using uT h.2 i
theorem yj:∀ {ys:List V} {l:List D} {ok:Ok} {pl:Bool},RAs K ok pl H ys l→∀ i,RA K ok pl H (ys.getD i .non) (l.getD i .none)
 | _,_,_,_,.nil,i=>by simp;exact .non
 | _,_,_,_,.cons a b,0=>a
 | _,_,_,_,.cons a b,i + 1=>by simpa using yj b i
end
theorem H_ {X:Cx} {fl:List Fl} {e:Expr} {fa:FA} {p pos:Pos} (ha:DB X fl .P [e] fa) (hg:Gl X "sorted") (hm:X.mg "sorted" = none)
 (he:starEach [e] X.env=(false,eval e X.env) :: starEach [] X.env:=by rfl) (hpl:(backTo pos (starEach [] X.env)).any (·.1)=false:=by rfl):DE X fl .FC (.Call (.Name "sorted" p) [e] [] pos) (dCall uR fa):=by
 have bs:bootBuiltins "sorted" = some (.builtin "sorted"):=by decide +kernel
 intro pins s σ H Q I h
 obtain ⟨G,ow,δ,d,R,hf,q⟩:=h
 obtain ⟨ds,e1,e2⟩:=bind1 hf
 unfold uR at e2
 split at e2
 ·next l =>
  split at e2
  ·next ns e3=>exact sU ha hg hm he hpl pins s σ H Q I ⟨G,ow,δ,d,R,by unfold dCall;rw [e1];exact e2,q⟩
  ·next e3 =>
   obtain ⟨qs,e4,e5⟩:=bind1 e2
   by_cases h64:l.length < 64
   ·rw [if_pos h64] at e5
    by_cases h1:l.length=1
    ·rw [if_pos h1] at e5
     cases e5
     refine nF yh hg hm bs ha (by decide) (by decide) he hpl pins s σ H Q I ⟨G,ow,δ,_,R,e1,fun vs H' sm r'=>?_⟩
     cases r' with
     | cons r1 r2 =>
      cases r2
      obtain ⟨a,ys,rfl,hx,hr⟩:=r1.lstE
      obtain ⟨hp,hl⟩:=BR e4 hr
      obtain ⟨y,rfl⟩:∃ y,ys=[y]:=by
       have:=hr.length
       rw [h1] at this
       exact List.length_eq_one_iff.mp this
      refine ⟨a,y,rfl,hx,fun l0 hn=>q _ _ (sm.trans (dG hn _)) (.inr ⟨_,_,_,rfl,rfl,sm.free hn,cQ,?_⟩)⟩
      exact RAs.flat (by rw [hl];exact z6 qs) (hr.same (dG hn _))
    ·rw [if_neg h1] at e5
     cases e5
     refine nF yg hg hm bs ha (by decide) (by decide) he hpl pins s σ H Q I ⟨G,ow,δ,_,R,e1,fun vs H' sm r'=>?_⟩
     cases r' with
     | cons r1 r2 =>
      cases r2
      obtain ⟨a,ys,rfl,hx,hr⟩:=r1.lstE
      obtain ⟨hp,hl⟩:=BR e4 hr
      have el:ys.length=l.length:=hr.length
      have h2:2 ≤ ys.length:=by
       rcases jh ys.length 2 with z | z
       ·have:l.length=0:=by omega
        have:=List.length_eq_zero_iff.mp this
        subst this
        cases e3
       ·exact z
      refine ⟨a,ys,qs,rfl,hx,h2,by omega,hp,fun l0 hn=>q _ _ (sm.trans (dG hn _)) (.inr ⟨_,_,_,rfl,rfl,sm.free hn,cQ,?_⟩)⟩
      rw [el]
      have fl0:flats l=true:=by rw [hl];exact z6 qs
      have hr2:=hr.same (dG hn (.lst ((lY l.length (ltP qs)).map fun i=>ys.getD i .non)))
      generalize lY l.length (ltP qs)=is at hr2 ⊢
      clear e3 e4 hx h2 hp hl e1 hf
      have:∀ (is:List Nat) (H2:Hp),RAs X.K ok1 true H2 ys l→RAs X.K (fun b=>okN H b∧b ≠ l0) false H2 (is.map fun i=>ys.getD i .non) (is.map fun i=>l.getD i .none):=fun is H2 hr=>by
       induction is with
       | nil=>exact .nil
       | cons i is ih=>exact .cons (RA.flat (uT fl0 i) (yj hr i)) ih
      exact this is _ hr2
   ·rw [if_neg h64] at e5;cases e5
 ·cases e2
end XS
namespace XS
open PySem PySem.Spec PySem.W PyProof.Rows
section
variable {prog:Program} {w:World} {A:Around} {E:Value→Shared→Prop} {s:Shared}
structure PL (h:Heap) (D I l:Addr) (its:Array Value) (vs:List (L2.Key × Value)) (i:Nat):Prop where
 iter:h.IsListIter I l i
 lst:h.IsList l its
 prs:∀ (j:Nat) (u:Value),its[j]? = some u→∃ (a:Addr) (n:Int) (t:Tok) (v:Value),u=Value.ref a∧IsTup h a #[Value.int n t,v]∧vs[j]? = some (Sum.inl n,v)∧a ≠ D∧a ≠ I
 ne:l ≠ D∧l ≠ I∧D ≠ I
end
end XS
namespace XS
open PySem PySem.Spec PySem.W PyProof.Rows
section
variable {prog:Program} {w:World} {A:Around} {E:Value→Shared→Prop} {s:Shared}
end
end XS
namespace XS
open PySem PySem.Spec PySem.W PyProof.Rows L2 My D3
section
variable {X:Cx} {pins:List (Addr × Obj)} {σ:L2.St} {H:Hp} {s:Shared}
end
end XS
namespace XS
open PySem PySem.Spec PySem.W PyProof.Rows L2 My D3
section
variable {X:Cx} {fl:List Fl} {a:Expr} {f:FE} {pos:Pos} {ta:TE}
end
end XS
namespace D3
open PySem
def VN:D→Option (List (Int × Int))
 | .dict kvs=>iiD kvs
 | _=>none
end D3
namespace D3
open PySem
end D3
namespace D3
open PySem
end D3
namespace D3
open PySem
end D3
namespace D3
open PySem
def dsB (S:List Int):D:=.dict (S.map fun i=>(.int i,.bool true))
def bsD:List (D × D)→Option (List Int)
 | []=>some []
 | (.int i,.bool true) :: r=>(bsD r).map (i :: ·)
 | _=>none
def Fq:D→Option (List Int)
 | .dict kvs=>bsD kvs
 | _=>none
def sX:D→D→Option D:=fun y x=>(Fq x).bind fun S=>match y with
 | .int i=>some (.bool (decide (i ∈ S)))
 | .none=>some (.bool false)
 | _=>none
def pD (S:List Int) (i:Int):List Int:=if i ∈ S then S else S++[i]
def tK (i:Nat) (fk:FE):FS:=fun δ=>(aF i δ).bind fun x=>(fk δ).bind fun y=>(Fq x).bind fun S=>match y with
 | .int k=>if S.length < 1000000 then some (.nx (δ.set i (some (.d (dsB (pD S k)))))) else none
 | _=>none
theorem Dy:∀ S:List Int,bsD (S.map fun i=>((.int i,.bool true):D × D))=some S
 | []=>rfl
 | i :: S=>by
  rw [bC,bsD,Dy S]
  rfl
theorem yp (S:List Int):Fq (dsB S)=some S:=Dy S
end D3
namespace D3
open PySem
def scD:List D→Bool
 | []=>true
 | .int _ :: r=>scD r
 | .none :: r=>scD r
 | _=>false
def tvD:D→Bool
 | .none=>true
 | .tuple ds=>scD ds
 | _=>false
def Ft:List (D × D)→Option (List (Int × D))
 | []=>some []
 | (.int i,d) :: r=>if tvD d=true then (Ft r).map ((i,d) :: ·) else none
 | _=>none
def tW:D→Option (List (Int × D))
 | .dict kvs=>Ft kvs
 | _=>none
def tvP (S:List (Int × D)):List (D × D):=S.map fun q=>(.int q.1,q.2)
def dtv (S:List (Int × D)):D:=.dict (tvP S)
def dO (S:List (Int × D)) (i:Int):Option D:=(S.find? fun q=>decide (q.1=i)).map (·.2)
def z7:D→D→Option D:=fun y x=>(tW x).bind fun S=>match y with
 | .int i=>some (.bool (dO S i).isSome)
 | _=>none
def rH:D→D→Option D:=fun y x=>(tW x).bind fun S=>match y with
 | .int i=>some (.bool (!(dO S i).isSome))
 | _=>none
def oN:D→D→Option D:=fun x y=>(tW x).bind fun S=>match y with
 | .int i=>dO S i
 | _=>none
def uU (fk:FE):FE:=fun δ=>(fk δ).bind fun y=>match y with
 | .int i=>some (dtv [(i,.none)])
 | _=>none
def mF (S:List (Int × D)) (k:Int) (d:D):List (Int × D):=if (dO S k).isSome=true then S else S++[(k,d)]
def uV (i:Nat) (fk fv:FE):FS:=fun δ=>(aF i δ).bind fun x=>(fk δ).bind fun y=>(fv δ).bind fun z=>(tW x).bind fun S=>match y with
 | .int k=>if tvD z=true∧S.length < 1000000 then some (.nx (δ.set i (some (.d (dtv (mF S k z)))))) else none
 | _=>none
def tvA (S:List (Int × D)):Bool:=S.all fun q=>tvD q.2
theorem pX:∀ {S:List (Int × D)},tvA S=true→tW (dtv S)=some S
 | [],_=>rfl
 | q :: S,h=>by
  rw [tvA,mX,aM] at h
  have ih:=pX (S:=S) h.2
  unfold tW dtv tvP at ih
  unfold tW dtv tvP
  dsimp only at ih
  rw [bC]
  dsimp only
  rw [Ft,if_pos h.1,ih]
  rfl
theorem rJ:∀ {kvs:List (D × D)} {S:List (Int × D)},Ft kvs=some S→tvA S=true∧kvs=tvP S
 | [],S,h=>by cases h;exact ⟨rfl,rfl⟩
 | (a,b) :: r,S,h=>by
  unfold Ft at h
  split at h
  ·next e=>cases e
  ·next e =>
   cases e
   split at h
   ·next hd =>
    cases e3:Ft r with
    | none=>rw [e3] at h;cases h
    | some S' =>
     rw [e3] at h
     cases h
     obtain ⟨h1,h2⟩:=rJ e3
     refine ⟨?_,?_⟩
     ·rw [tvA,mX,aM]
      exact ⟨hd,h1⟩
     ·rw [h2]
      rfl
   ·cases h
  ·cases h
theorem KN {S:List (Int × D)} {k:Int} {d:D} (h:tvA S=true) (hd:tvD d=true):tvA (mF S k d)=true:=by
 unfold mF
 split
 ·exact h
 ·unfold tvA at h ⊢
  rw [List.all_append,h]
  simp [hd]
end D3
namespace D3
open PySem
def rK:List D→Option D
 | [x]=>(tW x).bind fun S=>if S.length < 64 then some (.list ((nG (S.map (·.1))).map .int)) else none
 | _=>none
end D3
namespace D3
open PySem
def Dz (fk:FE):FE:=fun δ=>(fk δ).bind fun y=>match y with
 | .int i=>some (dsB [i])
 | _=>none
end D3
namespace L2
open PySem PySem.Spec PyProof.Rows
section
variable {κ:Type} [DecidableEq κ]
def lH (kvs:List (κ × V)) (k:κ):Option V:=(kvs.find? fun kv=>decide (kv.1=k)).map (·.2)
def putK (kvs:List (κ × V)) (k:κ) (v:V):List (κ × V) :=
 if (kvs.any fun kv=>decide (kv.1=k))=true then kvs.map (fun kv=>if kv.1=k then (kv.1,v) else kv) else kvs++[(k,v)]
theorem pF {p:κ × V} {r:List (κ × V)} {k:κ} (e:p.1=k):lH (p :: r) k=some p.2:=by simp [lH,fX,e]
theorem pG {p:κ × V} {r:List (κ × V)} {k:κ} (e:¬ p.1=k):lH (p :: r) k=lH r k:=by simp [lH,fX,e]
theorem uW (k:κ):∀ kvs:List (κ × V),(kvs.any fun kv=>decide (kv.1=k))=(lH kvs k).isSome
 | []=>rfl
 | p :: r=>by
  rw [jw]
  by_cases e:p.1=k
  ·simp only [pF e,dTr e,Bool.true_or,Option.isSome_some]
  ·rw [pG e,dFa e,Bool.false_or];exact uW k r
theorem pH (kvs:List (κ × V)) (k:κ) (v:V):(putK kvs k v).length ≤ kvs.length + 1:=by
 unfold putK
 split
 ·rw [aJ];omega
 ·rw [bQ,bM,gO];omega
theorem Ia {kvs:List (κ × V)} {k:κ} (v:V) (h:lH kvs k=none):putK kvs k v=kvs++[(k,v)]:=by
 unfold putK
 rw [uW,h]
 exact if_neg (by decide)
theorem rU.isSome_eq {o:Option V} {u:Option Value} (r:rU o u):o.isSome=u.isSome:=by
 cases o with
 | none=>cases u with
  | none=>rfl
  | some _=>exact (show False from r).elim
 | some _=>cases u with
  | none=>exact (show False from r).elim
  | some _=>rfl
theorem rU.getD {o:Option V} {u:Option Value} {d:V} {d':Value} (r:rU o u) (rd:RelV d d'):RelV (o.getD d) (u.getD d'):=by
 cases o with
 | none=>cases u with
  | none=>exact rd
  | some _=>exact (show False from r).elim
 | some _=>cases u with
  | none=>exact (show False from r).elim
  | some _=>exact r
theorem KV.val {kvs:List (κ × V)} {vs:List (κ × Value)} (r:KV kvs vs) (k:κ):rU (lH kvs k) (valueAt vs k):=by
 unfold KV at r
 induction r with
 | nil=>exact True.intro
 | @cons p q ps qs h t ih =>
  obtain ⟨h1,h2⟩:=h
  by_cases e:p.1=k
  ·have e':q.1=k:=h1.symm.trans e
   have b:valueAt (q :: qs) k=some q.2:=by simp [valueAt,fX,e']
   rw [pF e,b];exact h2
  ·have e':¬ q.1=k:=fun z=>e (h1.trans z)
   have b:valueAt (q :: qs) k=valueAt qs k:=by simp [valueAt,fX,e']
   rw [pG e,b];exact ih
theorem KV.any {kvs:List (κ × V)} {vs:List (κ × Value)} (r:KV kvs vs) (k:κ):(kvs.any fun kv=>decide (kv.1=k))=vs.any fun kv=>decide (kv.1=k):=by
 unfold KV at r
 induction r with
 | nil=>rfl
 | cons h t ih=>rw [jw,jw,ih,h.1]
theorem KV.repl {kvs:List (κ × V)} {vs:List (κ × Value)} (r:KV kvs vs) (k:κ) {y:V} {u:Value} (ry:RelV y u) :
 KV (kvs.map fun kv=>if kv.1=k then (kv.1,y) else kv) (vs.map fun kv=>if kv.1=k then (kv.1,u) else kv):=by
 unfold KV at r ⊢
 induction r with
 | nil=>exact .nil
 | @cons p q ps qs h t ih =>
  rw [bC,bC]
  refine .cons ?_ ih
  obtain ⟨h1,h2⟩:=h
  by_cases e:p.1=k
  ·rw [if_pos e,if_pos (h1.symm.trans e)];exact ⟨h1,ry⟩
  ·rw [if_neg e,if_neg (fun z=>e (h1.trans z))];exact ⟨h1,h2⟩
theorem KV.put {kvs:List (κ × V)} {vs:List (κ × Value)} (r:KV kvs vs) (k:κ) {y:V} {u:Value} (ry:RelV y u):KV (putK kvs k y) (stored vs k u):=by
 unfold putK stored
 rw [r.any k]
 by_cases e:(vs.any fun kv=>decide (kv.1=k))=true
 ·rw [if_pos e,if_pos e];exact r.repl k ry
 ·rw [if_neg e,if_neg e];exact Paired.snoc r ⟨rfl,ry⟩
theorem KV.keys {kvs:List (κ × V)} {vs:List (κ × Value)} (r:KV kvs vs):kvs.map (·.1)=vs.map (·.1):=by
 unfold KV at r
 induction r with
 | nil=>rfl
 | cons h t ih=>rw [bC,bC,ih,h.1]
theorem KV.length {kvs:List (κ × V)} {vs:List (κ × Value)} (r:KV kvs vs):kvs.length=vs.length:=Paired.length r
end
theorem uX {P:Program} {w:World} {k:Key} {u:Value} (r:RelV (kV k) u):(dX P w).is k u=true:=by
 cases k with
 | inl i=>obtain ⟨t,e⟩:=(show ∃ t,u=Value.int i t from r);subst e;exact zm P w i t
 | inr x=>obtain ⟨t,e⟩:=(show ∃ t,u=Value.str x t from r);subst e;exact zp P w x t
theorem wW {P:Program} {w:World}:∀ {ks:List Key} {us:List Value},Vals (ks.map kV) us→ItemsAre (dX P w) ks us
 | [],_,r=>by rw [lA] at r;cases r;exact .nil
 | k :: ks,_,r=>by
  rw [bC] at r
  cases r with
  | cons h t=>exact .cons (uX h) (wW t)
abbrev KT (H:Hp):List (List Key × V)→List (List Key × Addr × Value)→Prop:=Paired fun p q=>p.1=q.1∧H q.2.1=some (.tup (p.1.map kV))∧RelV p.2 q.2.2
theorem KT.val {H:Hp} {kvs:List (List Key × V)} {xs:List (List Key × Addr × Value)} (r:KT H kvs xs) (k:List Key):rU (lH kvs k) ((atKey xs k).map (·.2)):=by
 induction r with
 | nil=>exact True.intro
 | @cons p q ps qs h t ih =>
  obtain ⟨h1,_,h2⟩:=h
  by_cases e:p.1=k
  ·have e':q.1=k:=h1.symm.trans e
   have b:atKey (q :: qs) k=some q.2:=by simp [atKey,fX,e']
   rw [pF e,b];exact h2
  ·have e':¬ q.1=k:=fun z=>e (h1.trans z)
   have b:atKey (q :: qs) k=atKey qs k:=by simp [atKey,fX,e']
   rw [pG e,b];exact ih
theorem KT.repl {H:Hp} {kvs:List (List Key × V)} {xs:List (List Key × Addr × Value)} (r:KT H kvs xs) (k:List Key) {y:V} {u:Value} (ry:RelV y u) :
 KT H (kvs.map fun kv=>if kv.1=k then (kv.1,y) else kv) (xs.map (putAt k u)):=by
 induction r with
 | nil=>exact .nil
 | @cons p q ps qs h t ih =>
  rw [bC,bC]
  refine .cons ?_ ih
  obtain ⟨h1,h2,h3⟩:=h
  unfold putAt
  by_cases e:p.1=k
  ·rw [if_pos e,if_pos (h1.symm.trans e)];exact ⟨h1,h2,ry⟩
  ·rw [if_neg e,if_neg (fun z=>e (h1.trans z))];exact ⟨h1,h2,h3⟩
theorem KT.put {H:Hp} {kvs:List (List Key × V)} {xs:List (List Key × Addr × Value)} (r:KT H kvs xs) (k:List Key) {b:Addr} {y:V} {u:Value} (hb:H b=some (.tup (k.map kV))) (ry:RelV y u) :
 KT H (putK kvs k y) (storedH xs k b u):=by
 have e:(kvs.any fun kv=>decide (kv.1=k))=(atKey xs k).isSome:=by
  rw [uW,(r.val k).isSome_eq,jJ]
 unfold putK storedH
 rw [e]
 by_cases q:(atKey xs k).isSome=true
 ·rw [if_pos q,if_pos q];exact r.repl k ry
 ·rw [if_neg q,if_neg q];exact Paired.snoc r ⟨rfl,hb,ry⟩
theorem KT.keeps {H H':Hp} {kvs:List (List Key × V)} {xs:List (List Key × Addr × Value)} (r:KT H kvs xs) (ht:∀ b ys,H b=some (.tup ys)→H' b=some (.tup ys)):KT H' kvs xs :=
 Paired.mapP r fun _ _ z=>⟨z.1,ht _ _ z.2.1,z.2.2⟩
section
variable {P:Program} {w:World} {H:Hp} {h:Heap} {a:Addr}
theorem Nq {u:HO} (ok:HOk P w H h) (e:Rd H a u):gB P w H h a u:=e.ok ok
theorem tL {kvs:List (Key × V)} (ok:HOk P w H h) (e:Rd H a (.dK kvs)):kvs.length ≤ sizeLine∧(a == sysModules)=false∧∃ vs,KV kvs vs∧h.DictOf (dX P w) a vs :=
 show gB P w H h a (.dK kvs) from Nq ok e
theorem Ie {kvs:List (Key × V)} (ok:HOk P w H h) (e:H a=some (.dK kvs)):kvs.length ≤ sizeLine∧(a == sysModules)=false∧∃ vs,KV kvs vs∧h.DictOf (dX P w) a vs:=tL ok (.inl e)
theorem uY {ks:List Key} (ok:HOk P w H h) (e:H a=some (.tup (ks.map kV))):(tupleKind (dX P w)).is h ks a:=by
 obtain ⟨_,its,r,o,h1,h2,n,h3⟩:=(show gB P w H h a (.tup (ks.map kV)) from ok a _ e)
 exact ⟨o,its.toArray,n,h1,h2,h3,by simpa using wW r⟩
theorem wX {kvs:List (List Key × V)} (ok:HOk P w H h) (e:Rd H a (.dT kvs)):kvs.length ≤ sizeLine∧(a == sysModules)=false ∧
 ∃ xs,KT H kvs xs∧h.DictOfH (tupleKind (dX P w)) a xs:=by
 obtain ⟨z,y,xs,r,o,es,ep,h1,h2,h3,h4,h5⟩:=(show gB P w H h a (.dT kvs) from Nq ok e)
 refine ⟨z,y,xs,r,o,es,ep,h1,h2,h3,h4,fun x hx=>?_,h5⟩
 have all:∀ {l:List (List Key × V)} {m:List (List Key × Addr × Value)},KT H l m→∀ x ∈ m,(tupleKind (dX P w)).is h x.1 x.2.1:=by
  intro l m q
  induction q with
  | nil=>intro x hx;exact nomatch hx
  | @cons p q ps qs hq t ih =>
   intro x hx
   rcases bH.mp hx with e | hx
   ·subst e
    exact uY ok (by rw [← hq.1];exact hq.2.1)
   ·exact ih x hx
 exact all r x hx
theorem S7 {kvs:List (List Key × V)} (ok:HOk P w H h) (e:H a=some (.dT kvs)):kvs.length ≤ sizeLine∧(a == sysModules)=false ∧
 ∃ xs,KT H kvs xs∧h.DictOfH (tupleKind (dX P w)) a xs:=wX ok (.inl e)
end
def vM (H:Hp) (a:Addr) (y:V) (r:Option V):Prop :=
 (∃ kvs k,Rd H a (.dK kvs)∧y=kV k∧r=lH kvs k)∨∃ kvs k b,Rd H a (.dT kvs)∧y = .ref b∧H b=some (.tup (k.map kV))∧r=lH kvs k
def Fv (H:Hp) (a:Addr) (y v:V) (H':Hp):Prop :=
 (∃ kvs k,H a=some (.dK kvs)∧y=kV k∧kvs.length < sizeLine∧H'=upd H a (.dK (putK kvs k v))) ∨
 ∃ kvs k b,H a=some (.dT kvs)∧y = .ref b∧H b=some (.tup (k.map kV))∧kvs.length < sizeLine∧H'=upd H a (.dT (putK kvs k v))
theorem vM.t {H:Hp} {a b:Addr} {kvs:List (List Key × V)} {k:List Key} (e:H a=some (.dT kvs)) (eb:H b=some (.tup (k.map kV))):vM H a (.ref b) (lH kvs k):=.inr ⟨kvs,k,b,.inl e,rfl,eb,rfl⟩
theorem Fv.k {H:Hp} {a:Addr} {kvs:List (Key × V)} {k:Key} {v:V} (e:H a=some (.dK kvs)) (hl:kvs.length < sizeLine):Fv H a (kV k) v (upd H a (.dK (putK kvs k v))):=.inl ⟨kvs,k,e,rfl,hl,rfl⟩
theorem Fv.t {H:Hp} {a b:Addr} {kvs:List (List Key × V)} {k:List Key} {v:V} (e:H a=some (.dT kvs)) (eb:H b=some (.tup (k.map kV))) (hl:kvs.length < sizeLine) :
 Fv H a (.ref b) v (upd H a (.dT (putK kvs k v))):=.inr ⟨kvs,k,b,e,rfl,eb,hl,rfl⟩
section
variable {X:Cx} {pins:List (Addr × Obj)} {σ:St} {H:Hp} {s:Shared} {a:Addr} {y v:V} {u r:Value} {o:Option V} {A:Around} {E:Value→Shared→Prop}
theorem Inv.big (I:Inv X pins σ H s):sysModules < s.heap.objs.size:=by
 have h:mainGlobals < s.heap.objs.size:=(I.mod.glob.keeps I.bk).lt
 exact jg (by decide) h
theorem Fw {Q:Value→Shared→Prop} (hu:A.units + 1 < cLine) (I:Inv X pins σ H s) (g:vM H a y (some v)) (ry:RelV y u) (h:∀ w' s',Inv X pins σ H s'→RelV v w'→Q w' s') :
 wpAny (model X.prog X.w) A (getItem (.ref a) u) Q E s:=by
 rcases g with ⟨kvs,k,e,ey,l⟩ | ⟨kvs,k,b,e,ey,eb,l⟩
 ·subst ey
  obtain ⟨z,hd,vs,rel,dd⟩:=tL I.hok e
  obtain ⟨w',hw,rw'⟩:=rU.some_of (v:=v) (o:=valueAt vs k) (by rw [l];exact rel.val k)
  exact wpAny_getItem_of (uX ry) dd.mapOf hw (h w' _ (I.tok _) rw')
 ·subst ey
  cases (show u=Value.ref b from ry)
  obtain ⟨z,hd,xs,rel,dd⟩:=wX I.hok e
  obtain ⟨w',hw,rw'⟩:=rU.some_of (v:=v) (o:=(atKey xs k).map (·.2)) (by rw [l];exact rel.val k)
  obtain ⟨p,hp,hp2⟩:=Option.map_eq_some_iff.mp hw
  refine wpAny_getItem_heap (tupleKind_room_in1 hu) (uY I.hok eb) dd hp ?_
  rw [hp2]
  exact h w' _ (I.tok _) rw'
theorem S8 {Q:Value→Shared→Prop} (hu:A.units + 1 < cLine) (I:Inv X pins σ H s) (g:vM H a y o) (ry:RelV y u) (h:∀ s',Inv X pins σ H s'→Q (.bool o.isSome) s') :
 wpAny (model X.prog X.w) A (compareOp .In u (.ref a)) Q E s:=by
 rcases g with ⟨kvs,k,e,ey,l⟩ | ⟨kvs,k,b,e,ey,eb,l⟩
 ·subst ey
  obtain ⟨z,hd,vs,rel,dd⟩:=tL I.hok e
  refine wpAny_in_of (uX ry) hd dd.mapOf ?_
  rw [← (rel.val k).isSome_eq,← l]
  exact h _ (I.tok _)
 ·subst ey
  cases (show u=Value.ref b from ry)
  obtain ⟨z,hd,xs,rel,dd⟩:=wX I.hok e
  refine wpAny_in_heap (tupleKind_room_in1 hu) (uY I.hok eb) hd dd ?_
  have q:=(rel.val k).isSome_eq
  rw [jJ] at q
  rw [← q,← l]
  exact h _ (I.tok _)
theorem KQ {Q:Value→Shared→Prop} (hu:A.units + 1 < cLine) (I:Inv X pins σ H s) (g:vM H a y o) (ry:RelV y u) (h:∀ s',Inv X pins σ H s'→Q (.bool (!o.isSome)) s') :
 wpAny (model X.prog X.w) A (compareOp .NotIn u (.ref a)) Q E s:=by
 rcases g with ⟨kvs,k,e,ey,l⟩ | ⟨kvs,k,b,e,ey,eb,l⟩
 ·subst ey
  obtain ⟨z,hd,vs,rel,dd⟩:=tL I.hok e
  refine wpAny_notIn_of (uX ry) hd dd.mapOf ?_
  rw [← (rel.val k).isSome_eq,← l]
  exact h _ (I.tok _)
 ·subst ey
  cases (show u=Value.ref b from ry)
  obtain ⟨z,hd,xs,rel,dd⟩:=wX I.hok e
  refine wpAny_notIn_heap (tupleKind_room_in1 hu) (uY I.hok eb) hd dd ?_
  have q:=(rel.val k).isSome_eq
  rw [jJ] at q
  rw [← q,← l]
  exact h _ (I.tok _)
theorem uf {h':Heap} {t':Nat} {ob:HO} (I:Inv X pins σ H s) (mu:Mut (H a)) (hs:Heap.SameBut a s.heap h') (he:∃ q,h'.get? a=some q) (new:gB X.prog X.w (upd H a ob) h' a ob) :
 Inv X pins σ (upd H a ob) { s with heap:=h',toks:=t' } :=
 I.write (x:=a) (e:=a) mu (.inl rfl) (fun b q hb z=>(hs.2 b hb).trans z) he new
theorem BW {P:Program} {w:World} {H':Hp} {h':Heap} {kvs:List (Key × V)} {vs:List (Key × Value)} (z:kvs.length ≤ sizeLine) (hd:(a == sysModules)=false) (rel:KV kvs vs) (dd:h'.DictOf (dX P w) a vs) :
 gB P w H' h' a (.dK kvs):=⟨z,hd,vs,rel,dd⟩
theorem Fx {H':Hp} {Q:Unit→Shared→Prop} (hu:A.units + 1 < cLine) (I:Inv X pins σ H s) (g:Fv H a y v H') (ry:RelV y u) (rv:RelV v r) (h:∀ s',Inv X pins σ H' s'→Q () s') :
 wpAny (model X.prog X.w) A (setItem (.ref a) u r) Q E s:=by
 rcases g with ⟨kvs,k,e,ey,l,eH⟩ | ⟨kvs,k,b,e,ey,eb,l,eH⟩
 ·subst ey eH
  obtain ⟨z,hd,vs,rel,dd⟩:=Ie I.hok e
  have hz:vs.length ≤ sizeLine:=by rw [← rel.length];exact z
  have hl:(putK kvs k v).length ≤ sizeLine:=by have:=pH kvs k v;omega
  refine wpAny_setItem_pairs (hsz:=hz) (uX ry) dd fun h' dd' hs=>h _ ?_
  have he:∃ q,h'.get? a=some q:=let ⟨q,_,_,hq,_⟩:=dd';⟨q,hq⟩
  exact uf I (by rw [e];exact True.intro) hs he (BW hl hd (rel.put k rv) dd')
 ·subst ey eH
  cases (show u=Value.ref b from ry)
  obtain ⟨z,hd,xs,rel,dd⟩:=S7 I.hok e
  have hz:xs.length ≤ sizeLine:=by rw [← Paired.length rel];exact z
  have hl:(putK kvs k v).length ≤ sizeLine:=by have:=pH kvs k v;omega
  refine wpAny_setItem_heap (hsz:=hz) (tupleKind_room_in1 hu) (uY I.hok eb) dd fun h' dd' hs=>h _ ?_
  obtain ⟨q,es,ep,hq,h2,h3,h4,_,h5⟩:=dd'
  refine uf I (by rw [e];exact True.intro) hs ⟨q,hq⟩ ⟨hl,hd,_,(rel.put k eb rv).keeps fun c ys ec=>?_,q,es,ep,hq,h2,h3,h4,h5⟩
  rw [cC (CV ec e (fun z=>nomatch z))]
  exact ec
end
section
variable {X:Cx} {pins:List (Addr × Obj)} {σ:St} {H:Hp} {s:Shared} {a:Addr} {kvs:List (Key × V)} {k:Key} {u:Value} {A:Around} {E:Value→Shared→Prop}
end
def PX (i:Expr):Prop:=∀ ov iv,subscripted i false ov iv=operate [ov,iv] (getItem ov iv)
theorem KR {prog:Program} {w:World} {A:Around} {E:Value→Shared→Prop} {s:Shared} {env:Env} {value slice:Expr} {pos:Pos} {T id:String} {Q:Value→Shared→Prop}
 (hl:typeLookup (.type T) "__getitem__" = pure (some (.builtin id))) (hs:PX slice)
 (h:wpAny (model prog w) A (eval value env) (fun o s₁=>wpAny (model prog w) A (eval slice env) (fun i s₂=>s₂.TypeIs o T∧wpAny (model prog w) A (getItem o i) Q E s₂) E s₁) E s) :
 wpAny (model prog w) A (eval (.Subscript value slice pos) env) Q E s:=by
 refine Subscript_ (wpAny_mono h (fun o s₁ h₁=>wpAny_mono h₁ (fun i s₂ h₂=>?_) fun _ _ x=>x) fun _ _ x=>x)
 obtain ⟨hT,h₂⟩:=h₂
 unfold subscriptTail
 refine wpAny_bind ?_
 rw [getitemInPython_of_ne hT.not_modules]
 refine wpAny_bind (wpAny_specialOf hT hl ?_)
 have fin:wpAny (model prog w) A (subscripted slice false o i) (fun r s₃=>wpAny (model prog w) A (letTemporaryGo value o r >>= fun _=>pure r) Q E s₃) E s₂:=by
  rw [hs o i]
  exact wpAny_operating (wpAny_mono h₂ (fun r s₃ h₃=>wpAny_bind (wpAny_letTemporaryGo (wpAny_pure h₃))) fun _ _ x=>x)
 first
  | exact wpAny_pure (wpAny_bind fin)
  | exact wpAny_bind (wpAny_pure (wpAny_bind fin))
  | exact wpAny_bind fin
theorem z8 {X:Cx} {pins:List (Addr × Obj)} {σ:St} {H:Hp} {s:Shared} {a:Addr} {y:V} {o:Option V} (I:Inv X pins σ H s) (g:vM H a y o):s.TypeIs (.ref a) "dict" := by
 rcases g with ⟨kvs,k,e,_,_⟩ | ⟨kvs,k,b,e,_,_,_⟩
 ·obtain ⟨_,_,vs,_,dd⟩:=tL I.hok e
  exact dd.typeIs
 ·obtain ⟨_,_,xs,_,dd⟩:=wX I.hok e
  exact dd.typeIs
def S9 (td ty:TE):TE:=fun σ H Q=>td σ H fun x H1=>ty σ H1 fun y H2=>∃ a v,x = .ref a∧vM H2 a y (some v)∧Q v H2
section
variable {X:Cx} {o i e value:Expr} {pos pos' tpos:Pos} {td ty tv:TE}
theorem KY (hu:X.A.units + 1 < cLine) (ho:PE X o td) (hi:PE X i ty) (hs:PX i):PE X (.Subscript o i pos) (S9 td ty):=by
 intro pins s σ H Q I h
 refine KR PySem.F.slot_dict_getitem.lookup hs (thn (ho pins s σ H _ I h) fun u s1 ⟨x,H1,I1,rx,q1⟩=>thn (hi pins s1 σ H1 _ I1 q1) fun iv s2 ⟨y,H2,I2,ry,a,v,ex,g,q2⟩=>?_)
 subst ex
 obtain rfl:u=Value.ref a:=rx
 exact ⟨z8 I2 g,Fw hu I2 g ry fun w' s3 I3 rw'=>⟨v,H2,I3,rw',q2⟩⟩
end
theorem uE {P:Program} {w:World} {H:Hp} (h:Heap) (hb:sysModules < h.objs.size):gB P w H (h.push { cls:=.type "dict", data:=.dict #[] }) h.objs.size (.dK []) :=
 ⟨dU _,beq_eq_false_iff_ne.mpr (Ne.symm (bR hb)),[],.nil,Heap.DictOf.new h⟩
section
variable {X:Cx} {pos:Pos}
end
def BX:List (TE × TE)→St→Hp→(List (V × V)→Hp→Prop)→Prop
 | [],_,H,Q=>Q [] H
 | (tk,tv) :: r,σ,H,Q=>tk σ H fun x H1=>tv σ H1 fun y H2=>BX r σ H2 fun ps H3=>Q ((x,y) :: ps) H3
abbrev VV:List (V × V)→List (Value × Value)→Prop:=Paired fun p q=>RelV p.1 q.1∧RelV p.2 q.2
def PPs (X:Cx) (pos:Pos) (keys:List (Option Expr)) (values:List Expr) (trs:List (TE × TE)):Prop :=
 ∀ (pins:List (Addr × Obj)) (s:Shared) (σ:St) (H:Hp) (Q:List (V × V)→Hp→Prop),Inv X pins σ H s→BX trs σ H Q →
  wpAny (model X.prog X.w) X.A (evalPairs (pairTrees keys values X.env pos)) (fun vs s'=>∃ ps H',Inv X pins σ H' s'∧VV ps vs∧Q ps H') X.xe s
theorem DK {X:Cx} {pos:Pos}:PPs X pos [] [] []:=fun pins s σ H Q I h=>pairTrees_nil_walk ⟨[],H,I,.nil,h⟩
theorem z9 {X:Cx} {pos:Pos} {k v:Expr} {ks:List (Option Expr)} {vs:List Expr} {tk tv:TE} {trs:List (TE × TE)} (hk:PE X k tk) (hv:PE X v tv) (hr:PPs X pos ks vs trs) :
 PPs X pos (some k :: ks) (v :: vs) ((tk,tv) :: trs):=fun pins s σ H Q I h =>
 pairTrees_cons_walk (thn (hk pins s σ H _ I h) fun u s1 ⟨x,H1,I1,rx,q1⟩=>thn (hv pins s1 σ H1 _ I1 q1) fun w2 s2 ⟨y,H2,I2,ry,q2⟩ =>
  thn (hr pins s2 σ H2 _ I2 q2) fun ws s3 ⟨ps,H3,I3,rel,q3⟩=>⟨(x,y) :: ps,H3,I3,.cons ⟨rx,ry⟩ rel,q3⟩)
def uZ (kvs more:List (Key × V)):List (Key × V):=more.foldl (fun acc kv=>putK acc kv.1 kv.2) kvs
theorem KV.merge:∀ {more:List (Key × V)} {rs:List (Key × Value)} {kvs:List (Key × V)} {vs:List (Key × Value)},KV more rs→KV kvs vs→KV (uZ kvs more) (merged vs rs):=by
 intro more rs kvs vs r
 unfold KV at r
 induction r generalizing kvs vs with
 | nil=>intro q;exact q
 | @cons p q ps qs h t ih =>
  intro r0
  have e:KV (putK kvs p.1 p.2) (stored vs q.1 q.2):=by
   have:=r0.put p.1 h.2
   rw [← h.1];exact this
  exact ih e
theorem ql:∀ (more kvs:List (Key × V)),(uZ kvs more).length ≤ kvs.length + more.length
 | [],kvs=>by show kvs.length ≤ kvs.length + 0;omega
 | p :: r,kvs=>by
  have h1:=ql r (putK kvs p.1 p.2)
  have h2:=pH kvs p.1 p.2
  show (uZ (putK kvs p.1 p.2) r).length ≤ _
  rw [bM];omega
theorem u_ {P:Program} {w:World}:∀ {kvs:List (Key × V)} {ws:List (Value × Value)},VV (kvs.map fun kv=>(kV kv.1,kv.2)) ws→∃ rs,Carries (dX P w) ws rs∧KV kvs rs
 | [],_,r=>by rw [lA] at r;cases r;exact ⟨[],True.intro,.nil⟩
 | p :: kvs,_,r=>by
  rw [bC] at r
  cases r with
  | @cons a b as bs h t =>
   obtain ⟨rs,c,q⟩:=u_ (P:=P) (w:=w) t
   obtain ⟨b1,b2⟩:=b
   exact ⟨(p.1,b2) :: rs,⟨uX h.1,rfl,c⟩,.cons ⟨rfl,h.2⟩ q⟩
def S_ (trs:List (TE × TE)):TE:=fun σ H Q=>∀ p,H p=none→BX trs σ (upd H p (.dK [])) fun ps H2=>H2 p=some (.dK [])∧∃ kvs:List (Key × V),ps=kvs.map (fun kv=>(kV kv.1,kv.2))∧kvs.length ≤ 15∧Q (.ref p) (upd H2 p (.dK (uZ [] kvs)))
theorem DN {X:Cx} {pos:Pos} {keys:List (Option Expr)} {values:List Expr} {trs:List (TE × TE)} (h:PPs X pos keys values trs) (hall:keys.all (·.isSome)=true) (hl:keys.length=values.length) (h0:keys ≠ [])
 (h15:keys.length ≤ 15):PE X (.Dict keys values pos) (S_ trs):=by
 intro pins s σ H Q I q
 have hn:=I.hok.fresh (bf s.heap.objs.size)
 have I1:=I.laid (a:=s.heap.objs.size) (o:=.dK []) (h':=s.heap.push { cls:=.type "dict", data:=.dict #[] }) (t':=s.toks) (fun _ _ q=>Heap.get?_push_of_some _ q) (bf _) (uE s.heap I.big)
 refine wpAny_Dict_walk (knd:=dX X.prog X.w) hall hl h0 h15 (thn (h pins _ σ _ _ I1 (q _ hn)) fun ws s2 ⟨ps,H2,I2,rel,e,kvs,ep,lk,q2⟩=>?_)
 subst ep
 obtain ⟨rs,c,rk⟩:=u_ (P:=X.prog) (w:=X.w) rel
 obtain ⟨z,hd,vs0,r0,dd⟩:=Ie I2.hok e
 cases r0
 refine ⟨rs,c,dd,fun h' dd' hs=>⟨.ref s.heap.objs.size,_,?_,rfl,q2⟩⟩
 have hz:(uZ [] kvs).length ≤ sizeLine:=by
  have h1:=ql kvs []
  rw [gO] at h1
  rw [sizeLine_eq];omega
 have he:∃ q,h'.get? s.heap.objs.size=some q:=let ⟨q,_,_,hq,_⟩:=dd';⟨q,hq⟩
 exact uf I2 (by rw [e];exact True.intro) hs he (BW hz hd (rk.merge .nil) dd')
structure M1 (X:Cx) (o:Expr) (m:Str) (apos:Pos) (e:Expr) (cpos:Pos):Prop where
 base:attributeBase o m X.env (eval o X.env)=eval o X.env
 few:((backTo cpos (starEach [e] X.env)).all (fun x=>!x.1) && (backToKw cpos (keywordEach [] X.env)).all (fun x=>x.1.isSome)
  && decide (([e]:List Expr).length + ([]:List Keyword).length + (if ([]:List Keyword).isEmpty then 0 else 1) < 30))=true
 line:(apos.endLine == cpos.line)=true
 trees:backTo cpos (starEach [e] X.env)=[(false,eval e X.env)]
structure M2 (X:Cx) (o:Expr) (m:Str) (apos:Pos) (e f:Expr) (cpos:Pos):Prop where
 base:attributeBase o m X.env (eval o X.env)=eval o X.env
 few:((backTo cpos (starEach [e,f] X.env)).all (fun x=>!x.1) && (backToKw cpos (keywordEach [] X.env)).all (fun x=>x.1.isSome)
  && decide (([e,f]:List Expr).length + ([]:List Keyword).length + (if ([]:List Keyword).isEmpty then 0 else 1) < 30))=true
 line:(apos.endLine == cpos.line)=true
 trees:backTo cpos (starEach [e,f] X.env)=[(false,eval e X.env),(false,eval f X.env)]
def IsD (H:Hp) (a:Addr):Prop:=(∃ kvs,Rd H a (.dK kvs))∨∃ kvs,Rd H a (.dT kvs)
theorem P_ {X:Cx} {pins:List (Addr × Obj)} {σ:St} {H:Hp} {s:Shared} {a:Addr} (I:Inv X pins σ H s) (d:IsD H a) :
 s.TypeIs (.ref a) "dict" ∧ (∀ b,Value.ref a = .ref b→∃ ob,s.heap.get? b=some ob∧ob.dict=none)∧(a == sysModules)=false:=by
 rcases d with ⟨kvs,e⟩ | ⟨kvs,e⟩
 ·obtain ⟨_,hd,vs,_,dd⟩:=tL I.hok e
  refine ⟨dd.typeIs,fun b q=>?_,hd⟩
  cases q
  obtain ⟨ob,_,_,h1,h2,_⟩:=dd
  exact ⟨ob,h1,h2.2.1⟩
 ·obtain ⟨_,hd,xs,_,dd⟩:=wX I.hok e
  refine ⟨dd.typeIs,fun b q=>?_,hd⟩
  cases q
  obtain ⟨ob,_,_,h1,h2,_⟩:=dd
  exact ⟨ob,h1,h2.2.1⟩
section
variable {X:Cx} {pins:List (Addr × Obj)} {σ:St} {H:Hp} {s:Shared} {a:Addr} {y d:V} {u r:Value} {o:Option V} {A:Around} {E:Value→Shared→Prop}
end
section
variable {X:Cx} {o e f:Expr} {apos cpos:Pos} {td ty tx:TE}
end
section
variable {X:Cx} {pins:List (Addr × Obj)} {σ:St} {H:Hp} {s:Shared} {a:Addr} {kvs:List (Key × V)} {A:Around} {E:Value→Shared→Prop}
end
section
variable {X:Cx} {pins:List (Addr × Obj)} {σ:St} {H:Hp} {s:Shared} {a:Addr} {y:V} {u:Value} {A:Around} {E:Value→Shared→Prop}
end
section
variable {κ:Type} [DecidableEq κ]
end
end L2
namespace XK
open PySem PySem.Spec PyProof.Rows L2 My D3
section
variable {K:PySem.W.Frag} {H:Hp}
theorem KZ {H H':Hp} {a:Addr} {u:HO} (s:Same H H') (h:L2.Rd H a u):L2.Rd H' a u:=by
 rcases h with h | ⟨o,h⟩
 ·exact .inl (s _ _ h)
 ·exact .inr ⟨o,s _ _ h⟩
end
section
variable {X:Cx} {fl:List Fl} {e a b c ke:Expr} {f fa fb fc fk:FE} {pos:Pos}
def Tc:R2:=fun x y H Q=>∃ p o,y = .ref p∧vM H p x o∧Q (.bl o.isSome) H
def DP:R2:=fun x y H Q=>∃ p o,y = .ref p∧vM H p x o∧Q (.bl (!o.isSome)) H
theorem Qa (hu:X.A.units + 64 < cLine):OpR X (compareOp .In) Tc:=by
 intro pins s σ H x y v u Q I rx ry h
 obtain ⟨p,o,rfl,g,q⟩:=h
 obtain rfl:u=Value.ref p:=ry
 exact S8 (by omega) I g rx fun s' I'=>⟨.bl o.isSome,H,I',rfl,q⟩
theorem Fy (hu:X.A.units + 64 < cLine):OpR X (compareOp .NotIn) DP:=by
 intro pins s σ H x y v u Q I rx ry h
 obtain ⟨p,o,rfl,g,q⟩:=h
 obtain rfl:u=Value.ref p:=ry
 exact KQ (by omega) I g rx fun s' I'=>⟨.bl (!o.isSome),H,I',rfl,q⟩
theorem DQ:∀ (l:List Value) (ns:List Int),l.length=ns.length→(∀ (j:Nat) (v:Value),l[j]? = some v→∃ n t,ns[j]? = some n∧v=Value.int n t)→IntsAre l ns
 | [],[],_,_=>.nil
 | [],_ :: _,h,_=>by simp at h
 | _ :: _,[],h,_=>by simp at h
 | v :: l,n :: ns,h,g=>by
  obtain ⟨n',t,e1,e2⟩:=g 0 v rfl
  cases e1
  subst e2
  exact .cons _ _ (DQ l ns (by simpa using h) fun j v hv=>by simpa using g (j + 1) v (by simpa using hv))
end
end XK
namespace XK
open PySem PySem.Spec PyProof.Rows L2 My D3
theorem hu1 {n:Nat} (h:n + 64 < cLine):n + 1 < cLine:=by omega
section
variable {K:PySem.W.Frag} {fl:List Fl}
end
def Td:V→V→V→Hp→(Hp→Prop)→Prop:=fun o i v H Q=>∃ p kvs k,o = .ref p∧i=kV k∧H p=some (.dK kvs)∧kvs.length < sizeLine∧Q (upd H p (.dK (putK kvs k v)))
section
variable {X:Cx} {fl:List Fl} {e a b c ke:Expr} {f fa fb fc fk:FE} {pos:Pos}
theorem Ig (hu:X.A.units + 1 < cLine):Om X Td:=by
 intro pins s σ H o i v ov iv u Q I ro ri rv h
 obtain ⟨p,kvs,k,rfl,rfl,hp,hl,q⟩:=h
 cases ro
 exact Fx hu I (Fv.k hp hl) ri rv fun s' I'=>⟨_,I',q⟩
end
end XK
namespace XB
open PySem PySem.Spec PyProof.Rows L2 My D3 XK
def nIs:Option Key→Value→Bool
 | none,.none=>true
 | none,_=>false
 | some k,v=>nA k v
def nH (w:World):Option Key→Int
 | none=>0xFCA86420
 | some k=>Rv w k
theorem kW {v:Value} (h:nIs none v=true):v = .none:=by
 cases v <;> first | rfl | cases h
theorem Fz {P:Program} {w:World} {A:Around} {E:Value→Shared→Prop} {s:Shared} {Q:Int→Shared→Prop} (h:Q 0xFCA86420 { s with toks:=s.toks + 1 }):wpAny (model P w) A (pyHash .none) Q E s :=
 PySem.W.pyHash_slot (T := "NoneType") rfl F.slot_NoneType_hash F.entry_NoneType_hash (F.args_NoneType_hash_1 _) (beq_builtin_none _) (.inl rfl) (wpAny_bind (wpAny_pure (wpAny_bind (wpAny_mkInt (wpAny_pure ⟨_,_,rfl,h⟩)))))
theorem K1 {P:Program} {w:World} {A:Around} {E:Value→Shared→Prop} {s:Shared} {Q:Bool→Shared→Prop} (h:Q true s):wpAny (model P w) A (eqBool .none .none) Q E s:=by
 unfold eqBool
 refine wpAny_holding ?_
 refine wpAny_ite_split (fun _=>wpAny_bind (wpAny_rule (wpAny_pure h))) (fun z=>absurd rfl z)
def Nr (P:Program) (w:World):PySem.KeyKind P w (Option Key) where
 is:=nIs
 hash:=nH w
 inj:=fun v a b ha hb=>by
  cases a with
  | none =>
   cases b with
   | none=>rfl
   | some k =>
    rw [kW ha] at hb
    rcases dJ (show nA k .none=true from hb) with ⟨i,t,_,e⟩ | ⟨x,t,_,e⟩ <;> cases e
  | some k =>
   cases b with
   | none =>
    rw [kW hb] at ha
    rcases dJ (show nA k .none=true from ha) with ⟨i,t,_,e⟩ | ⟨x,t,_,e⟩ <;> cases e
   | some l=>rw [(dX P w).inj v k l ha hb]
 byValue:=fun k v h=>by
  cases k with
  | none=>rw [kW h];rfl
  | some k=>exact (dX P w).byValue k v h
 pyHash:=fun {A E s k v Q} h q=>by
  cases k with
  | none=>rw [kW h];exact Fz q
  | some k=>exact (dX P w).pyHash (k:=k) h q
 eqBool:=fun {A E s a b u v Q} ha hb q=>by
  cases a with
  | none =>
   rw [kW ha]
   cases b with
   | none=>rw [kW hb];exact K1 q
   | some k =>
    rcases dJ (show nA k v=true from hb) with ⟨i,t,_,rfl⟩ | ⟨x,t,_,rfl⟩
    ·exact PySem.SeqAt.EqAt.none_int i t P w E Q q
    ·exact PySem.SeqAt.EqAt.none_str x t P w E Q q
  | some k =>
   cases b with
   | none =>
    rw [kW hb]
    rcases dJ (show nA k u=true from ha) with ⟨i,t,_,rfl⟩ | ⟨x,t,_,rfl⟩
    ·exact PySem.SeqAt.EqAt.int_none i t P w E Q q
    ·exact PySem.SeqAt.EqAt.str_none x t P w E Q q
   | some l =>
    have e:decide (some k=some l)=decide (k=l):=by simp
    exact (dX P w).eqBool (a:=k) (b:=l) ha hb (e ▸ q)
 «strs»:=fun k x t v h=>by
  cases k with
  | none=>cases h
  | some k=>exact (dX P w).«strs» k x t v h
theorem map_none {P:Program} {w:World} {h:Heap} {a:Addr} {vs:List (Key × Value)} (d:h.DictOf (dX P w) a vs):h.MapOf (Nr P w) a fun k=>match k with | none=>none | some k=>valueAt vs k:=by
 obtain ⟨o,es,ep,h1,h2,h3,h4,h5⟩:=d.mapOf
 refine ⟨o,es,ep,h1,h2,h3,fun e he=>?_,fun k=>?_⟩
 ·obtain ⟨k,k1,k2⟩:=h4 e he
  exact ⟨some k,k1,k2⟩
 ·cases k with
  | some k=>exact h5 k
  | none =>
   show findBy nIs es none=none
   unfold findBy
   rw [Option.map_eq_none_iff,Array.find?_eq_none]
   intro e he z
   obtain ⟨k,k1,_⟩:=h4 e he
   rw [kW z] at k1
   rcases dJ (show nA k .none=true from k1) with ⟨i,t,_,e⟩ | ⟨x,t,_,e⟩ <;> cases e
theorem FJ {X:Cx} {pins:List (Addr × Obj)} {σ:L2.St} {H:Hp} {s:Shared} {a:Addr} {kvs:List (Key × V)} {A:Around} {E:Value→Shared→Prop} {Q:Value→Shared→Prop} (I:Inv X pins σ H s) (g:Rd H a (.dK kvs)) (h:∀ s',Inv X pins σ H s'→Q (.bool false) s') :
 wpAny (model X.prog X.w) A (compareOp .In .none (.ref a)) Q E s:=by
 obtain ⟨z,hd,vs,rel,dd⟩:=tL I.hok g
 exact wpAny_in_of (knd:=Nr X.prog X.w) (k:=none) rfl hd (map_none dd) (h _ (I.tok _))
def dbI (S:List Int):List (Key × V):=S.map fun i=>(.inl i,.bl true)
def Te:R2:=fun x y H Q=>∃ p kvs,y = .ref p∧Rd H p (.dK kvs)∧((x = .non∧Q (.bl false) H)∨∃ k,x=kV k∧Q (.bl (lH kvs k).isSome) H)
theorem BZ {X:Cx} (hu:X.A.units + 64 < cLine):OpR X (compareOp .In) Te:=by
 intro pins s σ H x y v u Q I rx ry h
 obtain ⟨p,kvs,rfl,g,h⟩:=h
 obtain rfl:u=Value.ref p:=ry
 rcases h with ⟨rfl,q⟩ | ⟨k,rfl,q⟩
 ·obtain rfl:v=Value.none:=rx
  exact FJ I g fun s' I'=>⟨.bl false,H,I',rfl,q⟩
 ·exact S8 (by omega) I (.inl ⟨kvs,k,g,rfl,rfl⟩) rx fun s' I'=>⟨.bl (lH kvs k).isSome,H,I',rfl,q⟩
theorem Ih:∀ {kvs:List (D × D)} {S:List Int},bsD kvs=some S→dk0 kvs=dbI S
 | [],S,h=>by cases h;rfl
 | (a,b) :: r,S,h=>by
  unfold bsD at h
  split at h
  ·next e=>cases e
  ·next i r' e =>
   cases e
   cases e3:bsD r with
   | none=>rw [e3] at h;cases h
   | some S' =>
    rw [e3] at h
    cases h
    rw [dk0,Ih e3]
    rfl
  ·cases h
theorem yq:∀ {kvs:List (D × D)} {S:List Int},bsD kvs=some S→Bk kvs=true
 | [],_,_=>rfl
 | (a,b) :: r,S,h=>by
  unfold bsD at h
  split at h
  ·next e=>cases e
  ·next e =>
   cases e
   cases e3:bsD r with
   | none=>rw [e3] at h;cases h
   | some S=>exact (show Bk r=true from yq e3)
  ·cases h
theorem B_ {kvs:List (D × D)} {S:List Int} (h:bsD kvs=some S):dh0 kvs = .dK (dbI S):=by
 rw [← Ih h]
 cases kvs with
 | nil=>rfl
 | cons q r =>
  obtain ⟨k,v⟩:=q
  unfold dh0
  cases k with
  | int i=>rfl
  | _=>unfold bsD at h;cases h
theorem K3 {K:PySem.W.Frag} {ok:Ok} {pl:Bool} {H:Hp} {v:V} {x:D} {S:List Int} (e:Fq x=some S) (r:RA K ok pl H v x):∃ a,v = .ref a∧L2.Rd H a (.dK (dbI S)):=by
 cases x with
 | dict kvs =>
  obtain ⟨a,rfl,h⟩:=r.dicE (yq e)
  rw [B_ e] at h
  exact ⟨a,rfl,h⟩
 | _=>cases e
theorem Ii:∀ (S:List Int) (i:Int),(lH (dbI S) (Sum.inl i)).isSome=decide (i ∈ S)
 | [],i=>rfl
 | q :: S,i=>by
  unfold dbI
  rw [bC]
  by_cases h:q=i
  ·subst h
   rw [pF rfl]
   simp
  ·rw [pG (fun z=>h (by injection z))]
   have:=Ii S i
   unfold dbI at this
   rw [this]
   have h2:¬ i=q:=fun z=>h z.symm
   simp [h2]
theorem Qc (S:List Int) (i:Int):putK (dbI S) (Sum.inl i) (.bl true)=dbI (pD S i):=by
 unfold putK pD dbI
 have e:((S.map fun i=>((Sum.inl i,V.bl true):Key × V)).any fun q=>decide (q.1=Sum.inl i))=decide (i ∈ S):=by
  induction S with
  | nil=>rfl
  | cons q S ih =>
   rw [bC,jw,ih]
   by_cases h:q=i
   ·subst h;simp
   ·have h2:¬ i=q:=fun z=>h z.symm
    simp [h2,h]
 rw [e]
 by_cases h:i ∈ S
 ·rw [dTr h,if_pos rfl,if_pos h,dR]
  refine ig fun q _=>?_
  show (if (Sum.inl q:Key)=Sum.inl i then ((Sum.inl q:Key),V.bl true) else (Sum.inl q,V.bl true))=_
  split <;> rfl
 ·rw [dFa h,if_neg dg,if_neg h,eE]
  rfl
theorem Ij {K:PySem.W.Frag}:BrO K Te sX:=by
 intro H x y dx dy d Q rx ry e q
 obtain ⟨S,e4,e5⟩:=bind1 e
 obtain ⟨p,rfl,hp⟩:=K3 e4 ry
 split at e5
 ·next i =>
  cases e5
  obtain rfl:=RA.intE rx
  refine ⟨p,_,rfl,hp,.inr ⟨.inl i,rfl,?_⟩⟩
  rw [Ii]
  exact q _ rfl (.bl _)
 ·cases e5
  obtain rfl:=RA.nonE rx
  exact ⟨p,_,rfl,hp,.inl ⟨rfl,q _ rfl (.bl _)⟩⟩
 ·cases e5
section
variable {K:PySem.W.Frag} {fl:List Fl}
theorem Ik {G:Gh} {ow:Ow} {σ:L2.St} {H:Hp} {δ:DS} {i:Nat} {x:D} {S:List Int} (R:Rel K fl G ow σ H δ) (hfl:fl[i]? = some .N) (hx:aF i δ=some x) (hq:Fq x=some S) :
 ∃ a,σ[i]? = some (some (.ref a))∧H a=some (.dK (dbI S))∧∀ H',Same H H'→∀ S',∃ ow',Rel K fl G ow' σ (upd H' a (.dK (dbI S'))) (δ.set i (some (.d (dsB S')))):=by
 have e:=lD hx
 have hi:i < δ.length:=by
  rcases jh i δ.length with z | z
  ·exact z
  ·rw [bA z] at e;cases e
 obtain ⟨v,h1,h2,h3⟩:=R.nr i x (by rw [hfl];rfl) e
 generalize hN:ow.n i=as at h2 h3
 cases h2 with
 | dic ha hg =>
  rename_i a u kvs
  rw [hg.old (yq hq)] at ha
  have ha':=ha
  rw [B_ hq] at ha'
  refine ⟨a,h1,ha',fun H' s S'=>?_⟩
  refine (R.grow s).mutN (as:=[a]) hfl hi (by rw [hN];exact nu _) (s _ _ ha) h1 ?_ (fun b hb=>by rw [hN];exact hb) (bV.mpr ⟨iu,.nil⟩)
  refine .dic cQ (.inl ⟨yq (Dy S'),?_⟩)
  rw [B_ (Dy S')]
 | non=>cases hq
 | bl _=>cases hq
 | int _=>cases hq
 | str _=>cases hq
 | lst _ _=>cases hq
 | tup _ _=>cases hq
end
section
variable {X:Cx} {fl:List Fl} {e a b c ke:Expr} {f fa fb fc fk:FE} {pos:Pos}
theorem DR (hu:X.A.units + 1 < cLine) {i:Nat} {x:Str} {vpos spos:Pos} (hfl:fl[i]? = some .N) (he:PE X e (tC (.bl true))) (hk:DE X fl .P ke fk) (hN:X.N[i]? = some x) (hv:Vis X.env.scope x:=by first | exact Or.inl rfl | exact Or.inr (Or.inl rfl) | exact Or.inr (Or.inr rfl)) (hd:(x == ("__debug__" : Str))=false:=by decide)
 (hcd:(x == ("__classdict__" : Str))=false:=by decide) (ha:∀ v,assign (.Subscript (.Name x vpos) ke spos) X.env v=(do
  let ov ← holding [v] (eval (.Name x vpos) X.env)
  let iv ← holding [v,ov] (eval ke X.env)
  standAt spos
  holding [v,ov,iv] (setItem ov iv v)
  release [v,ov,iv] []):=by intro _;rfl)
 (hs:swapsWithSole [.Subscript (.Name x vpos) ke spos] e pos.line X.env=pure false:=by rfl) (hw:swappedStores [.Subscript (.Name x vpos) ke spos] e X.env=pure none:=by rfl)
 (h1:(assignEach [.Subscript (.Name x vpos) ke spos] X.env).map (·.2)=[assign (.Subscript (.Name x vpos) ke spos) X.env]:=by rfl) :
 DS1 X fl (.Assign [.Subscript (.Name x vpos) ke spos] e pos) (tK i fk) :=
 PS.imp (Ax he (GR (mY hN hv hd hcd) hk (Ig hu) ha) hs hw h1) fun Dn σ H h=>by
 obtain ⟨G,ow,δ,o,R,hf,q⟩:=h
 obtain ⟨y,e1,hf⟩:=bind1 hf
 obtain ⟨z,e2,hf⟩:=bind1 hf
 obtain ⟨S,e3,hf⟩:=bind1 hf
 split at hf
 case h_2=>cases hf
 next k _ =>
 by_cases hc:S.length < 1000000
 case neg=>rw [if_neg hc] at hf;cases hf
 rw [if_pos hc] at hf
 cases hf
 obtain ⟨p,h1,h2,h3⟩:=Ik R hfl e1 e3
 refine ⟨_,h1,G,ow,δ,_,R,e2,fun u H2 s2 r2=>?_⟩
 obtain rfl:=RA.intE r2
 obtain ⟨ow',R'⟩:=h3 H2 s2 (pD S k)
 refine ⟨p,dbI S,.inl k,rfl,rfl,s2 _ _ h2,by unfold dbI;rw [aJ];exact jg hc (by decide),?_⟩
 rw [Qc]
 exact q ow' σ _ R'
end
end XB
namespace XB
open PySem PySem.Spec PyProof.Rows L2 My D3 XK
theorem K4 {X:Cx} {fl:List Fl} {ke:Expr} {fk:FE} {pos:Pos} {j:Nat} {p1:Pos} (hk:DE X fl .P ke fk):DE X fl .T (.Dict [some ke] [.Constant (.bool true) j p1] pos) (Dz fk):=PE.imp (DN (z9 hk CW DK) rfl rfl (by intro z;cases z) (show 1 ≤ 15 by decide)) fun σ H Q h=>by
 obtain ⟨G,ow,δ,d,R,hf,q⟩:=h
 obtain ⟨y,e1,e2⟩:=bind1 hf
 split at e2
 case h_2=>cases e2
 next i =>
 cases e2
 intro p hp
 refine ⟨G,ow,δ,_,R.grow (dG hp _),e1,fun v H1 s1 r1=>?_⟩
 obtain rfl:=RA.intE r1
 refine ⟨s1 _ _ cQ,[(.inl i,.bl true)],rfl,(show 1 ≤ 15 by decide),q _ _ (fun b0 o e=>?_) ⟨[p],.dic cQ (.inl ⟨rfl,rfl⟩),bV.mpr ⟨iu,.nil⟩,fun x hx=>by rw [aK.mp hx];exact hp⟩⟩
 have ne:b0 ≠ p:=gZ e hp
 rw [cC ne]
 exact s1 _ _ (by rw [cC ne];exact e)
end XB
namespace XD
open PySem PySem.Spec PyProof.Rows L2 My D3 XK
theorem DX:∀ ds:List D,scD ds=scs ds
 | []=>rfl
 | .int _ :: r=>DX r
 | .none :: r=>DX r
 | .bool _ :: _=>rfl
 | .str _ :: _=>rfl
 | .list _ :: _=>rfl
 | .tuple _ :: _=>rfl
 | .dict _ :: _=>rfl
theorem Ca {K:PySem.W.Frag} {ok:Ok} {pl:Bool} {H:Hp}:∀ {ds:List D},scs ds=true→RAs K ok pl H (ds.map scV) ds
 | [],_=>.nil
 | .int i :: r,h=>.cons (.int i) (Ca h)
 | .none :: r,h=>.cons .non (Ca h)
theorem Cd {K:PySem.W.Frag} {ok:Ok} {pl:Bool} {H:Hp}:∀ {ds:List D} {xs:List V},scs ds=true→RAs K ok pl H xs ds→xs=ds.map scV
 | [],_,_,.nil=>rfl
 | .int i :: r,_ :: _,h,.cons a q=>by
  have h1:=RA.intE a
  have h2:=Cd (show scs r=true from h) q
  subst h1 h2
  rfl
 | .none :: r,_ :: _,h,.cons a q=>by
  have h1:=RA.nonE a
  have h2:=Cd (show scs r=true from h) q
  subst h1 h2
  rfl
theorem yr:∀ {ds:List D},scs ds=true→flats ds=true
 | [],_=>rfl
 | .int i :: r,h=>by rw [flats,aM];exact ⟨rfl,yr h⟩
 | .none :: r,h=>by rw [flats,aM];exact ⟨rfl,yr h⟩
theorem K5 {d:D} (h:tvD d=true):flat d=true:=by
 cases d with
 | none=>rfl
 | tuple ds =>
  have:=yr (show scs ds=true by rw [← DX];exact h)
  simpa [flat] using this
 | _=>cases h
theorem Tf {K:PySem.W.Frag} {ok:Ok} {pl:Bool} {H:Hp} {v:V} {d:D} (t:TV H v d):RA K ok pl H v d:=by
 rcases t with ⟨rfl,rfl⟩ | ⟨b,ds,rfl,rfl,h1,h2⟩
 ·exact .non
 ·exact .tup h1 (Ca h2)
theorem Tg {K:PySem.W.Frag} {ok:Ok} {pl:Bool} {H:Hp} {v:V} {d:D} (h:tvD d=true) (r:RA K ok pl H v d):TV H v d:=by
 cases d with
 | none=>exact .inl ⟨RA.nonE r,rfl⟩
 | tuple ds =>
  have hs:scs ds=true:=by rw [← DX];exact h
  obtain ⟨a,xs,rfl,h1,h2⟩:=r.tupE0
  rw [Cd hs h2] at h1
  exact .inr ⟨a,ds,rfl,rfl,h1,hs⟩
 | _=>cases h
theorem Nt {H:Hp} {u:HO} {S:List (Int × D)} (g:DH H u (tvP S)) (h:tvA S=true):∃ ks,u = .dK ks∧TVs H ks (tvP S):=by
 rcases g with ⟨g1,g2⟩ | g
 ·cases S with
  | nil=>exact ⟨[],g2,.nil⟩
  | cons q S =>
   exfalso
   rw [tvA,mX,aM] at h
   obtain ⟨i,d⟩:=q
   have hd:tvD d=true:=h.1
   cases d <;> first | (cases hd;done) | exact absurd g1 dg
 ·exact g
theorem ug {K:PySem.W.Frag} {ok:Ok} {pl:Bool} {H:Hp} {v:V} {x:D} {S:List (Int × D)} (e:tW x=some S) (r:RA K ok pl H v x):∃ a ks,v = .ref a∧L2.Rd H a (.dK ks)∧TVs H ks (tvP S):=by
 cases x with
 | dict kvs =>
  obtain ⟨h1,rfl⟩:=rJ e
  obtain ⟨a,u,rfl,h2,g⟩:=r.dicU
  obtain ⟨ks,rfl,t⟩:=Nt g h1
  exact ⟨a,ks,rfl,h2,t⟩
 | _=>cases e
theorem yt {H:Hp}:∀ {S:List (Int × D)} {ks:List (Key × V)} (i:Int),TVs H ks (tvP S)→(dO S i=none∧lH ks (Sum.inl i)=none)∨∃ d v,dO S i=some d∧lH ks (Sum.inl i)=some v∧TV H v d
 | [],_,i,h=>by cases h;exact .inl ⟨rfl,rfl⟩
 | q :: S,_,i,h=>by
  cases h with
  | cons t r =>
   rename_i v r0
   by_cases e:q.1=i
   ·refine .inr ⟨q.2,v,?_,pF (by rw [e]),t⟩
    simp [dO,e]
   ·rw [pG (fun z=>e (by injection z))]
    have:dO (q :: S) i=dO S i:=by simp [dO,e]
    rw [this]
    exact yt i r
theorem z_ {H:Hp} {v:V} {d:D} {k:Int} (t:TV H v d):∀ {S:List (Int × D)} {ks:List (Key × V)},TVs H ks (tvP S)→TVs H (ks++[(.inl k,v)]) (tvP (S++[(k,d)]))
 | [],_,h=>by cases h;exact .cons t .nil
 | q :: S,_,h=>by
  cases h with
  | cons t' r=>exact .cons t' (z_ t r)
theorem yu {H:Hp} {a:Addr} {S:List (Int × D)} {ks:List (Key × V)} (i:Int) (h:L2.Rd H a (.dK ks)) (t:TVs H ks (tvP S)):∃ o,vM H a (.int i) o∧o.isSome=(dO S i).isSome∧∀ d,dO S i=some d→∃ v,o=some v∧TV H v d:=by
 rcases yt i t with ⟨h1,h2⟩ | ⟨d,v,h1,h2,h3⟩
 ·exact ⟨none,.inl ⟨ks,.inl i,h,rfl,h2.symm⟩,by rw [h1];rfl,fun d z=>by rw [h1] at z;cases z⟩
 ·exact ⟨some v,.inl ⟨ks,.inl i,h,rfl,h2.symm⟩,by rw [h1];rfl,fun d' z=>by rw [h1] at z;cases z;exact ⟨v,rfl,h3⟩⟩
theorem Qd {K:PySem.W.Frag}:BrO K Tc z7:=by
 intro H x y dx dy d Q rx ry e q
 obtain ⟨S,e4,e5⟩:=bind1 e
 obtain ⟨p,ks,rfl,hp,t⟩:=ug e4 ry
 split at e5
 ·next i =>
  cases e5
  obtain rfl:=RA.intE rx
  obtain ⟨o,g1,g2,_⟩:=yu i hp t
  refine ⟨p,o,rfl,g1,?_⟩
  rw [g2]
  exact q _ rfl (.bl _)
 ·cases e5
theorem FN {K:PySem.W.Frag}:BrO K DP rH:=by
 intro H x y dx dy d Q rx ry e q
 obtain ⟨S,e4,e5⟩:=bind1 e
 obtain ⟨p,ks,rfl,hp,t⟩:=ug e4 ry
 split at e5
 ·next i =>
  cases e5
  obtain rfl:=RA.intE rx
  obtain ⟨o,g1,g2,_⟩:=yu i hp t
  refine ⟨p,o,rfl,g1,?_⟩
  rw [g2]
  exact q _ rfl (.bl _)
 ·cases e5
section
variable {X:Cx} {fl:List Fl} {e a b c ke ve:Expr} {f fa fb fc fk fv:FE} {pos:Pos}
theorem Qe {S:List (Int × D)} {i:Int} {d:D} (h:tvA S=true) (e:dO S i=some d):tvD d=true:=by
 unfold dO at e
 cases e1:S.find? fun q=>decide (q.1=i) with
 | none=>rw [e1] at e;cases e
 | some q =>
  rw [e1] at e
  cases e
  exact jW.mp h q (mq e1)
theorem vd (hu:X.A.units + 1 < cLine) (ha:DE X fl .P a fa) (hb:DE X fl .P b fb) (hs:PX b):DE X fl .FC (.Subscript a b pos) (dOp oN fa fb):=PE.imp (KY hu ha hb hs) fun σ H Q h=>by
 obtain ⟨G,ow,δ,d,R,hf,q⟩:=h
 obtain ⟨x,y,e1,e2,e3⟩:=zO hf
 refine ⟨G,ow,δ,x,R,e1,fun v H1 s1 r1=>⟨G,ow,δ,y,R.grow s1,e2,fun u H2 s2 r2=>?_⟩⟩
 obtain ⟨S,e4,e5⟩:=bind1 e3
 obtain ⟨p,ks,rfl,hp,t⟩:=ug e4 r1
 split at e5
 ·next i =>
  obtain rfl:=RA.intE r2
  obtain ⟨o,g1,g2,g3⟩:=yu i (KZ s2 hp) (t.imp fun _ _ z=>jG.same s2 z)
  obtain ⟨w,rfl,tw⟩:=g3 d e5
  have hA:tvA S=true:=by
   cases x with
   | dict kvs=>exact (rJ e4).1
   | _=>cases e4
  exact ⟨p,w,rfl,g1,q _ H2 (s1.trans s2) (.inl ⟨K5 (Qe hA e5),Tf tw⟩)⟩
 ·cases e5
end
section
variable {K:PySem.W.Frag} {fl:List Fl}
theorem Qf {G:Gh} {ow:Ow} {σ:L2.St} {H:Hp} {δ:DS} {i:Nat} {x:D} {S:List (Int × D)} (R:Rel K fl G ow σ H δ) (hfl:fl[i]? = some .N) (hx:aF i δ=some x) (hq:tW x=some S) :
 ∃ a ks,σ[i]? = some (some (.ref a))∧H a=some (.dK ks)∧TVs H ks (tvP S)∧∀ H',Same H H'→∀ ks' S',TVs H' ks' (tvP S')→∃ ow',Rel K fl G ow' σ (upd H' a (.dK ks')) (δ.set i (some (.d (dtv S')))):=by
 have e:=lD hx
 have hi:i < δ.length:=by
  rcases jh i δ.length with z | z
  ·exact z
  ·rw [bA z] at e;cases e
 obtain ⟨v,h1,h2,h3⟩:=R.nr i x (by rw [hfl];rfl) e
 generalize hN:ow.n i=as at h2 h3
 cases h2 with
 | dic ha hg =>
  rename_i a u kvs
  obtain ⟨hA,rfl⟩:=rJ hq
  obtain ⟨ks,rfl,t⟩:=Nt hg hA
  refine ⟨a,ks,h1,ha,t,fun H' s ks' S' t'=>?_⟩
  refine (R.grow s).mutN (as:=[a]) hfl hi (by rw [hN];exact nu _) (s _ _ ha) h1 ?_ (fun b hb=>by rw [hN];exact hb) (bV.mpr ⟨iu,.nil⟩)
  exact .dic cQ (.inr ⟨ks',rfl,t'.imp fun _ _ z=>jG.upd (s _ _ ha) z⟩)
 | non=>cases hq
 | bl _=>cases hq
 | int _=>cases hq
 | str _=>cases hq
 | lst _ _=>cases hq
 | tup _ _=>cases hq
end
section
variable {X:Cx} {pins:List (Addr × Obj)} {σ:L2.St} {H:Hp} {s:Shared} {a:Addr} {kvs:List (Key × V)} {k:Key} {z:V} {u r:Value} {A:Around} {E:Value→Shared→Prop}
theorem Il {Q:Value→Shared→Prop} (I:L2.Inv X pins σ H s) (e:H a=some (.dK kvs)) (hl:kvs.length < sizeLine) (ry:RelV (kV k) u) (rz:RelV z r)
 (h1:∀ v w' s',lH kvs k=some v→L2.Inv X pins σ H s'→RelV v w'→Q w' s') (h2:∀ s',lH kvs k=none→L2.Inv X pins σ (upd H a (.dK (kvs++[(k,z)]))) s'→Q r s') :
 wpAny (model X.prog X.w) A (call (.builtin "dict.setdefault") [.ref a,u,r]) Q E s:=by
 obtain ⟨z0,hd,vs,rel,dd⟩:=Ie I.hok e
 refine call_meetsIn PySem.F.slot_dict_setdefault dd.typeIs PySem.F.entry_dict_setdefault (PySem.F.args_dict_setdefault_3 _ _ _) (kt_meets_setdefault (dX X.prog X.w) a (uX ry) hd r)
  ⟨vs,dd,by rw [← rel.length];exact z0,fun w' hw=>?_,fun hw h' dd' hs=>?_⟩
 ·have q:=rel.val k
  rw [hw] at q
  cases e1:lH kvs k with
  | none=>rw [e1] at q;cases q
  | some v =>
   rw [e1] at q
   exact h1 v w' _ e1 (I.tok _) q
 ·have q:=rel.val k
  rw [hw] at q
  have e1:lH kvs k=none:=by
   cases e1:lH kvs k with
   | none=>rfl
   | some v=>rw [e1] at q;cases q
  have he:∃ q,h'.get? a=some q:=let ⟨q,_,_,hq,_⟩:=dd';⟨q,hq⟩
  refine h2 _ e1 (uf I (by rw [e];exact True.intro) hs he (BW ?_ hd ?_ dd'))
  ·rw [bQ];exact hl
  ·rw [← Ia z e1]
   exact rel.put k rz
end
def Ti (td ty tx:TE):TE:=fun σ H Q=>td σ H fun x H1=>∃ a,x = .ref a∧IsD H1 a∧ty σ H1 fun y H2=>tx σ H2 fun z H3=>∃ kvs k,H3 a=some (.dK kvs)∧kvs.length < sizeLine∧y=kV k ∧
 (∀ v,lH kvs k=some v→Q v H3)∧(lH kvs k=none→Q z (upd H3 a (.dK (kvs++[(k,z)]))))
section
variable {X:Cx} {o e f:Expr} {apos cpos:Pos} {td ty tx:TE}
theorem K6 (ho:PE X o td) (he:PE X e ty) (hf:PE X f tx) (m:M2 X o "setdefault" apos e f cpos):PE X (.Call (.Attribute o "setdefault" apos) [e,f] [] cpos) (Ti td ty tx):=by
 intro pins s σ H Q I h
 refine wpAny_Call_method m.base m.few m.line PySem.F.plainAttrs_dict PySem.F.slot_dict_setdefault PySem.F.type_dict_setdefault (thn (ho pins s σ H _ I h) fun u s1 ⟨x,H1,I1,rx,a,ex,d,q1⟩=>?_)
 subst ex
 obtain rfl:u=Value.ref a:=rx
 obtain ⟨t1,t2,_⟩:=P_ I1 d
 refine ⟨t1,t2,?_⟩
 rw [m.trees]
 refine Calls.callWith_builtin rfl (Calls.evalArgs_plain (Calls.spliced_cons (thn (he pins s1 σ H1 _ I1 q1) fun iv s2 ⟨y,H2,I2,ry,q2⟩ =>
  Calls.spliced_cons (thn (hf pins s2 σ H2 _ I2 q2) fun fv s3 ⟨z,H3,I3,rz,kvs,k,ea,hl,ey,q3,q4⟩=>Calls.spliced_nil ?_))))
 subst ey
 exact Il I3 ea hl ry rz (fun v w' s4 l I4 rw'=>⟨v,H3,I4,rw',q3 v l⟩) fun s4 l I4=>⟨z,_,I4,rz,q4 l⟩
end
section
variable {X:Cx} {fl:List Fl} {ke ve:Expr} {fk fv:FE} {pos:Pos}
theorem DY {H:Hp}:∀ {S:List (Int × D)} {ks:List (Key × V)},TVs H ks (tvP S)→ks.length=S.length
 | [],_,h=>by cases h;rfl
 | q :: S,_,h=>by
  cases h with
  | cons _ r=>rw [bM,bM,DY r]
theorem Qg {y:D} {S:List (Int × D)} (e:tW y=some S):dtv S=y:=by
 cases y with
 | dict kvs=>rw [dtv,(rJ e).2]
 | _=>cases e
theorem set_same {δ:DS} {i:Nat} {y:D} (h:δ[i]? = some (some (.d y))):δ.set i (some (.d y))=δ:=by
 apply d7
 intro j
 rw [mG]
 split
 ·next z =>
  subst z
  split
  ·exact h.symm
  ·next z=>rw [bA (Nat.le_of_not_lt z)] at h;cases h
 ·rfl
theorem Qh {i:Nat} {x:Str} {vpos apos cpos:Pos} (hfl:fl[i]? = some .N) (hk:DE X fl .P ke fk) (hw:DE X fl .P ve fv) (hN:X.N[i]? = some x) (hm:M2 X (.Name x vpos) "setdefault" apos ke ve cpos) (hv:Vis X.env.scope x:=by first | exact Or.inl rfl | exact Or.inr (Or.inl rfl) | exact Or.inr (Or.inr rfl)) (hd:(x == ("__debug__" : Str))=false:=by decide)
 (hcd:(x == ("__classdict__" : Str))=false:=by decide) (hs:swapsWith (.Call (.Attribute (.Name x vpos) "setdefault" apos) [ke,ve] [] cpos) none pos.line X.env=pure false:=by rfl) :
 DS1 X fl (.Expr (.Call (.Attribute (.Name x vpos) "setdefault" apos) [ke,ve] [] cpos) pos) (uV i fk fv):=PS.imp (tY (K6 (mY hN hv hd hcd) hk hw hm) hs) fun Dn σ H hh=>by
 obtain ⟨G,ow,δ,o,R,hf,q⟩:=hh
 obtain ⟨y,e1,hg⟩:=bind1 hf
 clear hf
 obtain ⟨kk,e2,hf⟩:=bind1 hg
 clear hg
 obtain ⟨zz,e3,hg⟩:=bind1 hf
 clear hf
 obtain ⟨S,e4,hf⟩:=bind1 hg
 clear hg
 split at hf
 case h_2=>cases hf
 next k =>
 by_cases hc:tvD zz=true∧S.length < 1000000
 case neg=>rw [if_neg hc] at hf;cases hf
 rw [if_pos hc] at hf
 cases hf
 obtain ⟨p,ks,h1,h2,h3,h4⟩:=Qf R hfl e1 e4
 refine ⟨_,h1,p,rfl,.inl ⟨_,.inl h2⟩,G,ow,δ,_,R,e2,fun u H1 s1 r1=>⟨G,ow,δ,_,R.grow s1,e3,fun w H2 s2 r2=>?_⟩⟩
 obtain rfl:=RA.intE r1
 have t2:TV H2 w zz:=Tg hc.1 r2
 have s12:=s1.trans s2
 have h3':TVs H2 ks (tvP S):=h3.imp fun _ _ z=>jG.same s12 z
 refine ⟨ks,.inl k,s12 _ _ h2,by rw [DY h3];exact jg hc.2 (by decide),rfl,fun v hv'=>?_,fun hv'=>?_⟩
 ·have hx:mF S k zz=S:=by
   unfold mF
   rcases yt k h3' with ⟨_,b⟩ | ⟨d,v',a,b,_⟩
   ·rw [b] at hv';cases hv'
   ·rw [if_pos (by rw [a];rfl)]
  rw [hx] at q
  rw [Qg e4,set_same (lD e1)] at q
  exact q ow σ _ (R.grow s12)
 ·have hx:mF S k zz=S++[(k,zz)]:=by
   unfold mF
   rcases yt k h3' with ⟨a,_⟩ | ⟨d,v',a,b,_⟩
   ·rw [if_neg (by rw [a];simp)]
   ·rw [b] at hv';cases hv'
  rw [hx] at q
  obtain ⟨ow',R'⟩:=h4 H2 s12 (ks++[(.inl k,w)]) (S++[(k,zz)]) (z_ t2 h3')
  exact q ow' σ _ R'
theorem Im {j:Nat} {p1:Pos} (hk:DE X fl .P ke fk):DE X fl .T (.Dict [some ke] [.Constant .none j p1] pos) (uU fk):=PE.imp (DN (z9 hk Gz DK) rfl rfl (by intro z;cases z) (show 1 ≤ 15 by decide)) fun σ H Q h=>by
 obtain ⟨G,ow,δ,d,R,hf,q⟩:=h
 obtain ⟨y,e1,e2⟩:=bind1 hf
 split at e2
 case h_2=>cases e2
 next i =>
 cases e2
 intro p hp
 refine ⟨G,ow,δ,_,R.grow (dG hp _),e1,fun v H1 s1 r1=>?_⟩
 obtain rfl:=RA.intE r1
 refine ⟨s1 _ _ cQ,[(.inl i,.non)],rfl,(show 1 ≤ 15 by decide),q _ _ (fun b0 o e=>?_) ⟨[p],.dic cQ (.inr ⟨_,rfl,.cons (.inl ⟨rfl,rfl⟩) .nil⟩),bV.mpr ⟨iu,.nil⟩,fun x hx=>by rw [aK.mp hx];exact hp⟩⟩
 have ne:b0 ≠ p:=gZ e hp
 rw [cC ne]
 exact s1 _ _ (by rw [cC ne];exact e)
end
end XD
namespace XD
open PySem PySem.Spec PyProof.Rows L2 My D3 XK
section
variable {X:Cx} {fl:List Fl} {e:Expr} {pos:Pos}
theorem yw (hc:X.calm=true):mJ X (.builtin "sorted") (fun xs H Q=>∃ (p:Addr) (ks:List (Key × V)) (is:List Int),xs=[.ref p]∧L2.Rd H p (.dK ks)∧ks.map (·.1)=is.map Sum.inl∧is.length < 64∧∀ l,H l=none→Q (.ref l) (upd H l (.lst ((nG is).map V.int)))):=by
 intro pins s σ H xs us Q I r h
 obtain ⟨p,ks,is,rfl,hx,hK,h64,q⟩:=h
 obtain ⟨u,rfl,rx⟩:=vals1 r
 cases rx
 obtain ⟨_,hd,vs,rel,dd⟩:=tL I.hok hx
 obtain ⟨ep,hat⟩:=dd.dictAt
 have hv:vs.map (·.1)=is.map Sum.inl:=by rw [← rel.keys];exact hK
 have hlen:vs.length=is.length:=by
  have:=congrArg List.length hv
  rwa [aJ,aJ] at this
 refine Calls.call_function_entry kind_sorted plain_sorted entry_sorted (args_sorted1 _) ?_
 unfold Builtin.«sorted»
 refine wpAny_bind (m:=checkCount "sorted" 1 1 _) (wpAny_pure ?_)
 refine wpAny_bind (PySem.W.kdu_collect (A:=X.A.in1) (PySem.W.kdl_dict (knd:=dX X.prog X.w) (kvs:=vs) (ep:=ep) hd) (I.ok.hd hc) hat (by rw [hlen];exact bT (fZ h64) (by decide)) fun h' tk acc hk hacc=>?_)
 have hl:acc.toList.length=is.length:=by rw [lq,hacc.1,hlen]
 have hI:IntsAre acc.toList is:=DQ _ _ hl fun j v hv'=>by
  obtain ⟨k,x,hkx,his⟩:=hacc.2 j v (by rw [← Array.getElem?_toList];exact hv')
  have e1:(vs.map (·.1))[j]? = some k:=by rw [aQ,hkx];rfl
  rw [hv,aQ] at e1
  cases e2:is[j]? with
  | none=>rw [e2] at e1;cases e1
  | some i =>
   rw [e2] at e1
   have e3:k=Sum.inl i:=by
    cases e1
    rfl
   subst e3
   rw [Aw] at his
   obtain ⟨t,rfl⟩:∃ t,v=Value.int i t:=Value.isInt_shape his
   exact ⟨i,t,rfl,rfl⟩
 have I1:L2.Inv X pins σ H { s with heap:=h',toks:=tk }:=I.kept hk
 refine wpAny_bind (wpAny_newList ?_ (by rw [hl];exact bT (fZ h64) (by decide)))
 have hoL:(h'.push (seqObj "list" acc.toList.toArray 0)).get? h'.objs.size=some (seqObj "list" acc.toList.toArray 0):=Heap.get?_push_size _ rfl
 show wpAny _ _ _ _ _ { s with heap:=h'.push (seqObj "list" acc.toList.toArray 0),toks:=tk }
 refine wpAny_bind (wpAny_holding (wpAny_call_entry slot_list_sort ⟨_,hoL,rfl⟩ entry_list_sort (list_sort_tree hoL hI (by rw [hl];exact h64) fun out ns' a1 a2 a3=>⟨_,rfl,?_⟩) (args_list_sort _)))
 refine wpAny_pure ⟨_,rfl,?_⟩
 obtain rfl:=sS (a2.trans (jE _).symm) a3 (o9 _)
 obtain ⟨e,he⟩:=sortedHeap_at (out:=out) hoL
 have hn:H h'.objs.size=none:=I1.hok.fresh (bf _)
 have ll:(nG is).length=is.length:=(jE _).length_eq
 have I2:=I1.laid (h':=sortedHeap (h'.push (seqObj "list" acc.toList.toArray 0)) h'.objs.size acc.toList out) (t':=tk) (a:=h'.objs.size) (o:=.lst ((nG is).map V.int)) (fun b u e=>by
  have hlt:=Heap.lt_size e
  rw [sortedHeap_old (bR hlt) (by rw [size_push'];exact Nat.lt_succ_of_lt hlt)]
  exact Heap.get?_push_of_some _ e) (bf _)
  ⟨by rw [aJ,ll];exact bT (fZ h64) (by decide),out.toList,e,D3.lK a1,by simpa [seqObj] using he⟩
 exact ⟨.ref _,_,I2,rfl,q _ hn⟩
theorem Aa {H:Hp}:∀ {S:List (Int × D)} {ks:List (Key × V)},TVs H ks (tvP S)→ks.map (·.1)=(S.map (·.1)).map Sum.inl
 | [],_,h=>by cases h;rfl
 | q :: S,_,h=>by
  cases h with
  | cons _ r=>rw [bC,Aa r];rfl
theorem FP (hc:X.calm=true) {fa:FA} {p:Pos} (ha:DB X fl .P [e] fa) (hg:Gl X "sorted") (hm:X.mg "sorted" = none)
 (he:starEach [e] X.env=(false,eval e X.env) :: starEach [] X.env:=by rfl) (hpl:(backTo pos (starEach [] X.env)).any (·.1)=false:=by rfl):DE X fl .FC (.Call (.Name "sorted" p) [e] [] pos) (dCall rK fa) :=
 PE.imp (nF (yw hc) hg hm (show bootBuiltins "sorted" = some (.builtin "sorted") by decide +kernel) ha (by decide) (by decide) he hpl) fun σ H Q h=>by
 obtain ⟨G,ow,δ,d,R,hf,q⟩:=h
 obtain ⟨ds,e1,e2⟩:=bind1 hf
 refine ⟨G,ow,δ,ds,R,e1,fun vs H' s r'=>?_⟩
 unfold rK at e2
 split at e2
 ·next x =>
  obtain ⟨S,e3,e4⟩:=bind1 e2
  by_cases hS:S.length < 64
  ·rw [if_pos hS] at e4
   cases e4
   cases r' with
   | cons r1 r2 =>
    cases r2
    obtain ⟨a,ks,rfl,hx,t⟩:=ug e3 r1
    exact ⟨a,ks,S.map (·.1),rfl,hx,Aa t,by rw [aJ];exact hS,fun l hn=>q _ _ (s.trans (dG hn _)) (.inr ⟨_,_,_,rfl,rfl,s.free hn,cQ,pR _⟩)⟩
  ·rw [if_neg hS] at e4;cases e4
 ·cases e2
end
end XD
namespace XL
open PySem PySem.Spec PySem.W PyProof.Rows L2 My D3
abbrev FQ (x y:Str) (p1 p2 p3 p4 p5:Pos) (kd:Nat):Expr:=.Subscript (.Subscript (.Name x p1) (.Name y p2) p3) (.Constant (.int 0) kd p4) p5
section
variable {prog:Program} {w:World} {A:Around} {R:Result→Shared→Prop} {s:Shared} {f c' a b cell:Addr} {nm q x y:Str} {params:Arguments} {scope:Scope} {pm ctv:Value} {p1 p2 p3 p4 p5:Pos} {kd:Nat} {i k:Int} {j:Nat} {t t':Tok} {its its2:Array Value}
theorem Io {x:Value} {E:Value→Shared→Prop} {Q:Value→Shared→Prop} (hl:s.heap.IsList a its) (hlo : -(its.size:Int) ≤ i) (hhi:i < its.size) (hsz:its.size ≤ sizeLine) (hsx:seqIndex? i its.size=some j) (hi:its[j]? = some x) (h:Q x s) :
 wpAny (model prog w) A (getItem (.ref a) (.int i t)) Q E s:=by
 have hn:=rY
 by_cases h0:0 ≤ i
 ·have hj:i.toNat=j:=by
   rw [seqIndex_of h0 hhi] at hsx
   exact cN.inj hsx
  exact wpAny_getItem_list hl h0 (by omega) (by rw [hj];exact hi) h
 ·have hj:(i + (its.size:Int)).toNat=j:=by
   rw [seqIndex_neg (by omega) hlo] at hsx
   exact cN.inj hsx
  exact wpAny_getItem_list_neg hl (by omega) hlo (by omega) (by rw [hj];exact hi) h
theorem K7 (ho:s.heap.get? f=some (kla_obj nm q params (FQ x y p1 p2 p3 p4 p5 kd) scope [(x,cell)] pm c' ctv)) (hcd:s.heap.CodeRec (.ref c') q) (hroom:A.depth < recursionLimit) (hlim:s.heap.NoLimit)
 (hbind:∀ u,bindArgs (kla_fn nm q params (FQ x y p1 p2 p3 p4 p5 kd) scope [(x,cell)] pm (.ref c') ctv) ⟨[u],[]⟩=pure [(y,u)])
 (hco:scope.isCoroutine=false) (hgen:scope.isGenerator=false) (hk:scope.kind = .function) (hcell:∀ z ∈ scope.names,z.2 ≠ .cell) (hy:scope.names.lookup y=some .local) (hx:scope.names.lookup x=some .free)
 (hxd:(x == ("__debug__" : Str))=false) (hyd:(y == ("__debug__" : Str))=false) (hxc:(x == ("__classdict__" : Str))=false)
 (hc:s.heap.IsCell cell (some (.ref a))) (hl:s.heap.IsList a its) (hlo : -(its.size:Int) ≤ i) (hhi:i < its.size) (hsz:its.size ≤ sizeLine) (hsx:seqIndex? i its.size=some j) (hi:its[j]? = some (.ref b)) (ht:IsTup s.heap b its2) (hk0:its2[0]? = some (.int k t'))
 (h:∀ h' tk,(∀ b o,s.heap.get? b=some o→h'.get? b=some o)→R (.ok (.ret (.int k t'))) { s with heap:=h',toks:=tk }) :
 codeAny (model prog w) A (.call (.ref f) ⟨[.int i t],[]⟩) R s:=by
 refine kla_callFunE hroom ho rfl hco hgen rfl hcd ?_
 rw [hbind]
 refine wpAny_pure (wpAny_newFunctionEnv hcell (fun z hz=>?_) (fun h₁ hns hsb=>⟨hlim.fresh _ hsb,?_⟩) hk)
 ·rw [aK.mp hz]
  exact hy
 have hk₁:∀ b o,s.heap.get? b=some o→h₁.get? b=some o:=fun b o e=>hsb.extBut b o (bR (Heap.lt_size e)) (Heap.get?_push_of_some _ e)
 refine kla_codeExpr ?_
 have hl':h₁.IsList a its:=by
  obtain ⟨o,e1,e2⟩:=hl
  exact ⟨o,hk₁ _ _ e1,e2⟩
 have ht':IsTup h₁ b its2:=by
  obtain ⟨o,e1,e2⟩:=ht
  exact ⟨o,hk₁ _ _ e1,e2⟩
 refine Subscript_ ?_
 refine Subscript_ ?_
 refine wpAny_Name ?_ hxd
 refine wpAny_loadName_free (c:=cell) (v:=.ref a) hk hx ?_ ?_ ?_ hxc
 ·show sZ x [(x,cell)]=some cell
  simp
 ·obtain ⟨o,e1,e2⟩:=hc
  exact ⟨o,hk₁ _ _ e1,e2⟩
 refine wpAny_Name ?_ hyd
 refine wpAny_loadName_local (v:=.int i t) hk hy hns ?_ ?_
 ·simp
 refine subscriptTail_builtin (T := "list") (id := "list.__getitem__") ?_ PySem.F.slot_list_getitem.lookup ?_
 ·obtain ⟨o,e1,e2,_⟩:=hl'
  exact ⟨o,e1,e2⟩
 refine Io hl' hlo hhi hsz hsx hi ?_
 refine wpAny_Constant_int ?_
 refine kba_turn (value':=PySem.Expr.Name (PySem.Str.ofString "_") ⟨0,0,0,0⟩) (fun _=>rfl) ?_
 refine subscriptTail_builtin (T := "tuple") (id := "tuple.__getitem__") ?_ PySem.F.slot_tuple_getitem.lookup ?_
 ·obtain ⟨o,e1,e2,_⟩:=ht'
  exact ⟨o,e1,e2⟩
 refine PyProof.Rows.getItem_tuple (j:=0) (x:=.int k t') ht' (by decide) (by decide) ?_ hk0 ?_
 ·have:0 < its2.size:=by
   rcases jh 0 its2.size with z | z
   ·exact z
   ·rw [Array.getElem?_eq_none z] at hk0;cases hk0
  unfold seqIndex?
  have h2:(0:Int) < (its2.size:Int):=by omega
  show (if (decide ((0:Int) ≤ 0) && decide ((0:Int) < (its2.size:Int)))=true then some (0:Int).toNat else none)=some 0
  rw [dTr (dI 0),dTr h2]
  rfl
 ·exact h h₁ _ hk₁
end
section
variable {M:Model} {A:Around} {E:Value→Shared→Prop} {s:Shared} {params:Arguments} {body:Expr} {scope:Scope} {env:Env} {c P:Addr} {pos:Pos} {mg:Str→Option Value} {clos:List (Str × Addr)} {Q:Value→Shared→Prop} {q:Str}
abbrev ent (pos:Pos) (c':Addr):Array Value:=#[rawInt pos.line,rawInt pos.col,.ref c']
theorem Ip (hq:env.qual ++ "<lambda>" = q) (hdef:defaultsOf params env=([],[])) (hcl:closureFor scope env=pure clos) (hge0:env.globals=mainGlobals) (hg:s.heap.Ns mainGlobals mg) (hcode:env.code = .ref c) (C:CodeHd s.heap c P) (hgP:mainGlobals ≠ P) (hb:s.heap.BuiltinsAt mg P)
 (hT:∃ ps,s.heap.get? P=some (tabObj ps)∧(ps = #[]∨∃ c',ps=ent pos c'∧s.heap.CodeRec (.ref c') q))
 (h:∀ f c' ctv h' tk,(∀ b o,b ≠ P→s.heap.get? b=some o→h'.get? b=some o)→h'.get? P=some (tabObj (ent pos c'))→(s.heap.get? P=some (tabObj (ent pos c'))∨(s.heap.get? P=some (tabObj #[])∧s.heap.objs.size ≤ c'∧c' ≠ f))→s.heap.objs.size ≤ f →
  h'.get? f=some (kla_obj "<lambda>" q params body scope clos ((mg "__name__").getD .none) c' ctv)→h'.CodeRec (.ref c') q→Q (.ref f) { s with heap:=h',toks:=tk }) :
 wpAny M A (eval (.Lambda params body scope pos) env) Q E s:=by
 refine kla_eval hdef ?_
 rw [hq]
 obtain ⟨ps,hP,z | ⟨c',z,hr⟩⟩:=hT
 ·subst z
  refine kla_makeFunction (mg:=mg) hcl hge0 hg hcode C hP trivial rfl hgP hb fun c' ctv h' tk hx hge hlt hrec htb=>?_
  have up:∀ b o,h'.get? b=some o→(h'.push (kla_obj "<lambda>" q params body scope clos ((mg "__name__").getD .none) c' ctv)).get? b=some o:=fun b o e=>Heap.get?_push_of_some _ e
  obtain ⟨c2,oc,vs,tq,e1,e2,e3⟩:=hrec
  refine h h'.objs.size c' ctv _ tk (fun b o hb e=>up b o (hx b o hb e)) (up _ _ (by rw [htb];rfl)) (.inr ⟨hP,hge,bR hlt⟩) (bT hge (fZ hlt)) (Heap.get?_push_size _ rfl) ⟨c2,oc,vs,tq,e1,up _ _ e2,e3⟩
 ·subst z
  have ha:codeAmong pos (ent pos c').toList=some (.ref c'):=by simp [codeAmong,rawInt]
  refine kla_makeFunctionHit (mg:=mg) hcl hge0 hg hcode C hP trivial ha hb fun ctv h' tk hk hsz=>?_
  have up:∀ b o,s.heap.get? b=some o→(h'.push (kla_obj "<lambda>" q params body scope clos ((mg "__name__").getD .none) c' ctv)).get? b=some o:=fun b o e=>Heap.get?_push_of_some _ (hk b o e)
  obtain ⟨c2,oc,vs,tq,e1,e2,e3⟩:=hr
  exact h h'.objs.size c' ctv _ tk (fun b o _ e=>up b o e) (up _ _ hP) (.inl hP) hsz (Heap.get?_push_size _ rfl) ⟨c2,oc,vs,tq,e1,up _ _ e2,e3⟩
end
end XL
namespace XL
open PySem PySem.Spec PySem.W PyProof.Rows L2 My D3 XS
section
variable {prog:Program} {w:World} {A:Around} {h₀:Heap} {L kS:Addr} {m:Str→Option Value} {f:Value} {nw:List (Addr × Obj)}
def Ab (prog:Program) (w:World) (A:Around) (nw:List (Addr × Obj)) (f v:Value) (k:Int):Prop :=
 ∃ t,∀ (s:Shared) (R:Result→Shared→Prop),(∀ p ∈ nw,s.heap.get? p.1=some p.2)→s.heap.NoLimit→(∀ h' tk,(∀ b o,s.heap.get? b=some o→h'.get? b=some o)→R (.ok (.ret (.int k t))) { s with heap:=h',toks:=tk }) →
  codeAny (model prog w) A (.call f ⟨[v],[]⟩) R s
theorem Ac {Fin:List Value→Nat→Shared→Prop} (hne:∀ y ∈ nw,y.1 ≠ kS) (hlim:∀ s:Shared,(∀ p ∈ nw,s.heap.get? p.1=some p.2)→s.heap.NoLimit):∀ (vs:List Value) (ns:List Int) (ks:List Value) (e:Nat) (s:Shared),Paired (fun v k=>Ab prog w A nw f v k) vs ns →
 Fr h₀ L s.heap m→News h₀ L s.heap ((kS,seqObj "list" (gP ks) e) :: nw) →
 (∀ ks' e' s',Fr h₀ L s'.heap m→News h₀ L s'.heap ((kS,seqObj "list" (gP (ks++ks')) e') :: nw)→s'.gens=s.gens→s'.drawn=s.drawn→s'.os=s.os→Paired (fun (v:Value) (k:Int)=>∃ t,v = .int k t) ks' ns→Fin (ks++ks') e' s') →
 KatKeys prog w A h₀ L m kS f Fin vs ks e s
 | [],_,ks,e,s,p,F,N,h=>by
  cases p
  have:=h [] e s F (by rw [cP];exact N) rfl rfl rfl .nil
  rw [cP] at this
  exact this
 | v :: vs,_,ks,e,s,p,F,N,h=>by
  cases p with
  | cons p1 p2 =>
  rename_i k ns
  obtain ⟨t,c⟩:=p1
  have hnw:∀ p ∈ nw,s.heap.get? p.1=some p.2:=fun p hp=>(N p (aO _ hp)).1
  refine KatKeys.cons (wpAny_call (c s _ hnw (hlim s hnw) fun h' tk hk=>?_))
  have F':Fr h₀ L h' m:=⟨F.ns.keeps hk,fun b o z=>hk b o (F.keep b o z),F.above⟩
  have N':News h₀ L h' ((kS,seqObj "list" (gP ks) e) :: nw):=fun p hp=>⟨hk _ _ (N p hp).1,(N p hp).2⟩
  refine KatBack.intro (s:={ s with heap:=h',toks:=tk }) F' N' (.head hne) fun h2 e2 F2 N2=>?_
  refine Ac hne hlim vs ns (ks++[.int k t]) e2 { s with heap:=h2,toks:=tk } p2 F2 N2 fun ks' e' s' F3 N3 g1 g2 g3 q=>?_
  have z:=h (.int k t :: ks') e' s' F3 (by rw [show ks++.int k t :: ks'=ks++[.int k t]++ks' by simp];exact N3) g1 g2 g3 (.cons ⟨t,rfl⟩ q)
  rw [show ks++.int k t :: ks'=ks++[.int k t]++ks' by simp] at z
  exact z
end
section
variable {prog:Program} {w:World} {A:Around} {E:Value→Shared→Prop} {s:Shared} {h₀:Heap} {L l fa:Addr} {m:Str→Option Value} {vs:List Value} {ns:List Int} {news:List (Addr × Obj)} {Q:Value→Shared→Prop}
def ltK (ns:List Int) (i j:Nat):Bool:=decide (ns.getD i 0 < ns.getD j 0)
theorem vf (a b:Value):argsOk "sorted" ⟨[a],[(Str.ofString "key", b)]⟩:=by unfold argsOk;kernel_rfl
theorem tM (a b:Value):argsOk "list.sort" ⟨[a],[(Str.ofString "key", b)]⟩:=by unfold argsOk;kernel_rfl
theorem ints_of:∀ {ks:List Value} {ns:List Int},Paired (fun (v:Value) (k:Int)=>∃ t,v = .int k t) ks ns→IntsAre ks ns
 | _,_,.nil=>.nil
 | _,_,.cons p q=>by
  obtain ⟨t,rfl⟩:=p
  exact .cons _ _ (ints_of q)
theorem yx:∀ {ks:List Value} {ns:List Int},Paired (fun (v:Value) (k:Int)=>∃ t,v = .int k t) ks ns→∀ i,i < ks.length→∃ t,ks.getD i .none = .int (ns.getD i 0) t
 | _,_,.nil,i,h=>by cases h
 | _,_,.cons p q,0,h=>by obtain ⟨t,rfl⟩:=p;exact ⟨t,rfl⟩
 | _,_,.cons p q,i + 1,h=>by
  obtain ⟨t,e⟩:=yx q i (by simpa using h)
  exact ⟨t,by simpa using e⟩
theorem Ir (F:Fr h₀ L s.heap m) (N:News h₀ L s.heap news) (hl:s.heap.IsList l vs.toArray) (h2:2 ≤ vs.length) (h64:vs.length < 64)
 (hc:Paired (fun v k=>Ab prog w A.in1.in1 news (.ref fa) v k) vs ns) (hlim:∀ s:Shared,(∀ p ∈ news,s.heap.get? p.1=some p.2)→s.heap.NoLimit)
 (h:∀ D h' e tk,Fr h₀ L h' m→News h₀ L h' ((D,seqObj "list" (gP ((lY vs.length (ltK ns)).map fun i=>vs.getD i Value.none)) e) :: news)→(∀ q ∈ news,q.1 < D)→Q (.ref D) { s with heap:=h',toks:=tk }) :
 wpAny (model prog w) A (call (.builtin "sorted") [.ref l] [(Str.ofString "key", .ref fa)]) Q E s:=by
 refine kat_sortedK (b:=false) (f:=.ref fa) F N hl h2 h64 (vf _ _) (fun x=>tM _ _) (fun x=>ksk_t1 fa x) fun D kS e1 h' F' N' lt1 lt2=>?_
 have hne:∀ y ∈ (D,seqObj "list" #[] e1) :: news,y.1 ≠ kS:=fun y hy=>by
  rcases bH.mp hy with rfl | z
  ·exact bR lt1
  ·exact bR (jg (lt2 y z) lt1)
 have hc':Paired (fun v k=>Ab prog w A.in1.in1 ((D,seqObj "list" #[] e1) :: news) (.ref fa) v k) vs ns:=Paired.mapP hc fun v k ⟨t,z⟩=>⟨t,fun s R q1 q2 q3=>z s R (fun p hp=>q1 p (aO _ hp)) q2 q3⟩
 refine Ac (kS:=kS) hne (fun s q=>hlim s fun p hp=>q p (aO _ hp)) vs ns [] 0 _ hc' F' N' fun ks e s' F2 N2 g1 g2 g3 pk=>?_
 have lk:ks.length=vs.length:=pk.length.trans hc.length.symm
 rw [oR] at N2 ⊢
 rw [ksk_kind (ints_of pk) (by rw [bO,lk];exact h2)]
 refine wpAny_pure ?_
 refine yc (n:=vs.length) (lt:=ltK ns) (R:=good vs.length) (fun i j C hi hj hC=>?_) _ (sV (by omega)) ?_
 ·obtain ⟨t1,q1⟩:=yx pk i (by rw [lk];exact hi)
  obtain ⟨t2,q2⟩:=yx pk j (by rw [lk];exact hj)
  unfold kas_ask
  show wpAny _ _ (keyLt' oneType' (ks.getD i Value.none) (ks.getD j Value.none)) _ _ _
  rw [q1,q2]
  exact kat_lt_int hC
 ·obtain ⟨hp,gn,dr,tk,os⟩:=s'
  simp only at g1 g2 g3 F2 N2
  subst g1 g2 g3
  refine KatFin.intro F2 N2 (.head hne) fun h3 c3 F3 N3=>?_
  refine KasFin.intro F3 N3 (.tail (Nat.ne_of_gt lt1) (.head fun y hy=>bR (lt2 y hy))) fun h4 c4 F4 N4=>?_
  exact h D h4 c4 tk F4 (fun p hp=>N4 p (aO _ hp)) lt2
theorem wY {α β:Type} {R:α→β→Prop}:∀ {l:List α} {r:List β},Paired R l r→∀ {i:Nat} {a:α} {b:β},l[i]? = some a→r[i]? = some b→R a b
 | _,_,.nil,i,a,b,h,_=>by simp at h
 | _,_,.cons p q,0,a,b,h1,h2=>by
  simp at h1 h2
  subst h1 h2
  exact p
 | _,_,.cons p q,i + 1,a,b,h1,h2=>wY q (i:=i) (by simpa using h1) (by simpa using h2)
theorem K8 (F:Fr h₀ L s.heap m) (N:News h₀ L s.heap news) (hl:s.heap.IsList l vs.toArray) (h1:vs.length ≤ 1)
 (hc:Paired (fun v k=>Ab prog w A.in1.in1 news (.ref fa) v k) vs ns) (hlim:∀ s:Shared,(∀ p ∈ news,s.heap.get? p.1=some p.2)→s.heap.NoLimit)
 (h:∀ D h' e tk,Fr h₀ L h' m→News h₀ L h' ((D,seqObj "list" (gP vs) e) :: news)→(∀ q ∈ news,q.1 < D)→Q (.ref D) { s with heap:=h',toks:=tk }) :
 wpAny (model prog w) A (call (.builtin "sorted") [.ref l] [(Str.ofString "key", .ref fa)]) Q E s:=by
 refine ksk_sorted (b:=false) (kz:=ns) (f:=.ref fa) F N hl hc.length.symm (by omega) (vf _ _) (fun x=>tM _ _) (fun x=>ksk_t1 fa x) (fun i v k hv hk hp tk own F' N'=>?_) fun D h' tk out c F' N' lt ko=>?_
 ·obtain ⟨t,z⟩:=wY hc hv hk
  have hnw:∀ p ∈ news,hp.get? p.1=some p.2:=fun p q=>(N' p (aW _ q)).1
  refine wpAny_call (z { s with heap:=hp,toks:=tk } _ hnw (hlim { s with heap:=hp,toks:=tk } hnw) fun h2 tk2 hk2=>?_)
  exact ⟨h2,tk2,t,rfl,rfl,⟨F'.ns.keeps hk2,fun b o z=>hk2 b o (F'.keep b o z),F'.above⟩,fun p q=>⟨hk2 _ _ (N' p q).1,(N' p q).2⟩⟩
 ·obtain ⟨ps,hp,ho,_⟩:=ko
  have e:out.toList=vs:=by
   cases hc with
   | nil =>
    have hp:ps.Perm []:=hp
    rw [List.perm_nil.mp hp] at ho
    exact ho
   | cons p q =>
    cases q with
    | nil =>
     have hp:ps.Perm [(_,_)]:=hp
     rw [List.perm_singleton.mp hp] at ho
     exact ho
    | cons _ _=>simp at h1
  have e2:out=vs.toArray:=Array.toList_inj.mp (e.trans (by simp))
  rw [e2] at N'
  exact h D h' c tk F' N' lt
end
end XL
namespace XS
open PySem D3
def qm (l:List D) (ns:List Int):List D:=if l.length ≤ 1 then l else (lY l.length fun i j=>decide (ns.getD i 0 < ns.getD j 0)).map fun i=>l.getD i .none
def yC (fa fe:FE) (ix:List Nat):FE:=fun δ=>(fa δ).bind fun x=>match x with
 | .list l=>if l.length < 64∧flats l=true then (dW (gNl 0) D3.jM fe (jj 1 ix δ) l).bind fun ks=>(i_ ks).map fun ns=>.list (qm l ns) else none
 | _=>none
def dK0:FE:=fun δ=>match δ with
 | [some (.d (.int z)),some (.d (.list ds))]=>(pAt ds z).bind fun t=>match t with
  | .tuple (.int n :: _)=>some (.int n)
  | _=>none
 | _=>none
def qSK (x:Option D) (k:List D→Option (List D)):Option D:=match x with
 | some (.list l)=>if l.length < 64∧flats l=true then (k l).bind fun ks=>(i_ ks).map fun ns=>.list (qm l ns) else none
 | _=>none
theorem K9 {fa fe:FE} {ix:List Nat} {δ:DS}:yC fa fe ix δ=qSK (fa δ) (dW (gNl 0) D3.jM fe (jj 1 ix δ)):=by
 unfold yC qSK
 cases fa δ with
 | none=>rfl
 | some d=>cases d <;> rfl
theorem FW {l ks:List D} {ns:List Int} {k:List D→Option (List D)} (h1:l.length < 64) (h2:flats l=true) (h3:k l=some ks) (h4:i_ ks=some ns):qSK (some (.list l)) k=some (.list (qm l ns)):=by
 unfold qSK
 dsimp only
 rw [if_pos ⟨h1,h2⟩,h3,aL,h4]
 rfl
end XS
namespace XL
open PySem PySem.Spec PySem.W PyProof.Rows L2 My D3 XS
section
variable {X:Cx} {pins:List (Addr × Obj)} {σ:L2.St} {H:Hp} {s:Shared} {h':Heap} {P c':Addr} {q:Str} {lp:Pos} {tk:Nat}
theorem K_ (I:Inv X pins σ H s) (hT:H P=some (.tbl q lp)) (kp:∀ b o,b ≠ P→s.heap.get? b=some o→h'.get? b=some o) (hP:h'.get? P=some (tabObj (ent lp c')))
 (hor:s.heap.get? P=some (tabObj (ent lp c'))∨(s.heap.get? P=some (tabObj #[])∧s.heap.objs.size ≤ c')) (hrec:h'.CodeRec (.ref c') q) :
 ∃ H2,Inv X pins σ H2 { s with heap:=h',toks:=tk }∧Same H H2:=by
 rcases hor with z | ⟨z,hge⟩
 ·refine ⟨H,I.kept fun b o e=>?_,fun _ _ e=>e⟩
  by_cases hb:b=P
  ·subst hb
   rw [z] at e;cases e
   exact hP
  ·exact kp b o hb e
 ·have hn:H c'=none:=I.hok.fresh hge
  have ne:∀ {b u},H b=some u→b ≠ c':=fun e=>gZ e hn
  have nP:∀ {b},H b=none→b ≠ P:=fun e y=>by rw [y,hT] at e;cases e
  refine ⟨upd H c' (.own P),?_,dG hn _⟩
  refine I.step (g':=s.gens) (d':=s.drawn) (ch:=[]) (fun b hb=>by cases hb) (fun b u _ _ _ e n=>kp b u (nP n) e) (fun b u _ _ _ e n=>⟨u.slots,kp b u (nP n) e⟩) (fun b u _ e n=>?_) (fun b u _ e=>?_)
   (fun b xs e=>by rw [cC (ne e)];exact e) (fun b u v e=>by rw [cC (ne e)];exact e) (fun b q p e=>by rw [cC (ne e)];exact e) (fun m ⟨o,es,ep,e,r⟩=>⟨o,es,ep,kp _ o (nP I.free) e,r⟩) (fun b u e=>?_) I.bare
  ·rw [cC (bR (bN (Heap.lt_size e) hge))];exact n
  ·by_cases hb:b=P
   ·exact ⟨_,by rw [hb];exact hP⟩
   ·exact ⟨u,kp b u hb e⟩
  ·by_cases hb:b=c'
   ·subst hb
    rw [cQ] at e
    cases e
    obtain ⟨c2,oc,vs,tq,e1,e2,_⟩:=hrec
    cases e1
    exact ⟨_,e2⟩
   ·rw [cC hb] at e
    by_cases hbP:b=P
    ·subst hbP
     rw [hT] at e;cases e
     exact ⟨_,hP,.inr ⟨c',rfl,cQ,hrec⟩⟩
    ·refine (I.hok b u e).stay (fun c w hc y=>kp c w (fun y2=>?_) y) (fun c y=>by rw [cC (ne y)];exact y) fun c xs y=>by rw [cC (ne y)];exact y
     rcases hc with rfl | y3
     ·exact hbP y2
     ·rw [y2,hT] at y3;cases y3
end
theorem La {K:Frag} {H H':Hp} {a:Addr} {xs:List V} (e:Same H H') (h:SqL K H a xs):SqL K H' a xs:=by
 rcases h with (h | ⟨o,h⟩) | h
 ·exact .inl (.inl (e _ _ h))
 ·exact .inl (.inr ⟨o,e _ _ h⟩)
 ·exact .inr h
theorem wZ:∀ {ys:List V} {vs:List Value},Vals ys vs→∀ i,RelV (ys.getD i .non) (vs.getD i .none)
 | _,_,.nil,i=>by simp;rfl
 | _,_,.cons r rs,0=>r
 | _,_,.cons r rs,i + 1=>by simpa using wZ rs i
theorem w6 {fe:FE} {δ0:DS}:∀ {l ks:List D} {ns:List Int},dW (gNl 0) D3.jM fe δ0 l=some ks→i_ ks=some ns→Paired (fun d n=>∃ δ1,gNl 0 d δ0=some δ1∧fe δ1=some (.int n)) l ns
 | [],ks,ns,h1,h2=>by
  cases h1
  cases h2
  exact .nil
 | d :: l,ks,ns,h1,h2=>by
  unfold dW at h1
  obtain ⟨δ1,e1,h1⟩:=bind1 h1
  obtain ⟨b,e2,h1⟩:=bind1 h1
  cases e2
  rw [if_pos rfl] at h1
  obtain ⟨x,e3,h1⟩:=bind1 h1
  obtain ⟨r,e4,h1⟩:=bind1 h1
  cases h1
  cases x with
  | int n =>
   have h2':(i_ r).bind (fun m=>some (n :: m))=some ns:=by
    cases e5:i_ r with
    | none=>unfold i_ at h2;rw [e5] at h2;cases h2
    | some m=>unfold i_ at h2;rw [e5] at h2;cases h2;rfl
   obtain ⟨m,e5,e6⟩:=bind1 h2'
   cases e6
   exact .cons ⟨δ1,e1,e3⟩ (w6 e4 e5)
  | _=>unfold i_ at h2;cases h2
theorem D_ {K:PySem.W.Frag} {ok:Ok} {pl:Bool} {H:Hp} {S:D→Int→Prop} {R:Value→Int→Prop} (f:∀ y d v n,RA K ok pl H y d→RelV y v→S d n→R v n):∀ {ys:List V} {l:List D} {vs:List Value} {ns:List Int},RAs K ok pl H ys l→Vals ys vs→Paired S l ns→Paired R vs ns
 | _,_,_,_,.nil,.nil,.nil=>.nil
 | _,_,_,_,.cons a b,.cons c d,.cons e g=>.cons (f _ _ _ _ a c e) (D_ f b d g)
structure LamAt (X:Cx) (P:Addr) (q:Str) (lp:Pos):Prop where
 cd:∃ c,X.env.code = .ref c∧codeHdIn X.K c P=true
 qn:X.env.qual ++ "<lambda>" = q
 tb:(P,q,lp) ∈ tabs
section
variable {X:Cx} {fl:List Fl} {e:Expr} {fa:FE} {p pos kpos lp p1 p2 p3 p4 p5:Pos} {x y q:Str} {P:Addr} {kd i k:Nat} {params:Arguments} {scope:Scope}
theorem Qi {δ0 δ1:DS} {d:D} {n:Int} {u:Option U} (h0:δ0=[none,u]) (h1:gNl 0 d δ0=some δ1) (h2:dK0 δ1=some (.int n)):∃ z ds r,d = .int z∧u=some (.d (.list ds))∧pAt ds z=some (.tuple (.int n :: r)):=by
 subst h0
 cases h1
 unfold dK0 at h2
 split at h2
 ·next z ds e =>
  cases e
  obtain ⟨t,e1,e2⟩:=bind1 h2
  split at e2
  ·next m r=>cases e2;exact ⟨z,ds,r,rfl,rfl,e1⟩
  ·cases e2
 ·cases h2
theorem Ce (hl:LamAt X P q lp) (hr:Room k X.A) (ha:DB X fl .P [e] (aH fa bh)) (hg:Gl X "sorted") (hm:X.mg "sorted" = none)
 (hix:X.N[i]? = some x) (hfl:fl[i]? = some .A) (hcell:X.env.kindOf x=some .cell)
 (hdef:defaultsOf params X.env=([],[])) (hcl:∀ c,X.env.cells.lookup x=some c→closureFor scope X.env=pure [(x,c)])
 (hbind:∀ (cl:List (Str × Addr)) (pm:Value) (c':Addr) (ctv u:Value),bindArgs (kla_fn "<lambda>" q params (FQ x y p1 p2 p3 p4 p5 kd) scope cl pm (.ref c') ctv) ⟨[u],[]⟩=pure [(y,u)])
 (hco:scope.isCoroutine=false) (hgen:scope.isGenerator=false) (hk:scope.kind = .function) (hcells:∀ z ∈ scope.names,z.2 ≠ .cell) (hy:scope.names.lookup y=some .local) (hxf:scope.names.lookup x=some .free)
 (hxd:(x == ("__debug__" : Str))=false) (hyd:(y == ("__debug__" : Str))=false) (hxc:(x == ("__classdict__" : Str))=false)
 (he:backTo pos (starEach [e] X.env)=(false,eval e X.env) :: backTo pos (starEach [] X.env)) (hpl:(backTo pos (starEach [e] X.env)).any (·.1)=false)
 : DE X fl .FC (.Call (.Name "sorted" p) [e] [⟨some (Str.ofString "key"),.Lambda params (FQ x y p1 p2 p3 p4 p5 kd) scope lp,kpos⟩] pos) (yC fa dK0 [i]):=by
 have bs:bootBuiltins "sorted" = some (.builtin "sorted"):=by decide +kernel
 intro pins s σ H Q I hq
 obtain ⟨G,ow,δ,d,R,hf,q0⟩:=hq
 obtain ⟨xd,e1,hf1⟩:=bind1 hf
 obtain ⟨l,rfl⟩:∃ l,xd = .list l:=by
  cases xd <;> first | exact ⟨_,rfl⟩ | cases hf1
 dsimp only at hf1
 by_cases hc:l.length < 64∧flats l=true
 case neg=>rw [if_neg hc] at hf1;cases hf1
 rw [if_pos hc] at hf1
 obtain ⟨ks,e2,hf2⟩:=bind1 hf1
 cases e3:i_ ks with
 | none=>rw [e3] at hf2;cases hf2
 | some ns =>
 rw [e3] at hf2
 cases hf2
 have e1':aH fa bh δ=some [.list l]:=by unfold aH;rw [e1];rfl
 refine wpAny_Call_Name_kw (qt I hg hm bs ?_)
 refine PyProof.Rows.callWith_kw ?_ he hpl rfl rfl
 refine thn (ha pos pins s σ H (fun vs H1=>Same H H1∧RAs X.K ok1 true H1 vs [.list l]) I ⟨G,ow,δ,_,R,e1',fun vs H' s' r'=>⟨s',r'⟩⟩) fun us s1 ⟨vs,H1,I1,r1,sm1,ra⟩=>?_
 cases ra with
 | cons ra1 ra2 =>
 cases ra2
 obtain ⟨a,ys,rfl,hx,hrs⟩:=ra1.lstE
 cases r1 with
 | cons c1 c2 =>
 cases c2
 cases c1
 have R1:=R.grow sm1
 have hT:H1 P=some (.tbl q lp):=R1.tb _ hl.tb
 obtain ⟨c,hcx⟩:=I1.ok.has x (.inl hcell)
 obtain ⟨cc,hcode,hhd⟩:=hl.cd
 have KX:=I1.kIn
 have hgl:s1.heap.Ns mainGlobals X.mg:=I1.mod.glob.keeps I1.bk
 have hgP:mainGlobals ≠ P:=fun z=>by
  obtain ⟨o,_,_,g1,_⟩:=I1.mod.glob
  have:=(I1.bs _ _ g1).2
  rw [z,hT] at this;cases this
 have hbm:s1.heap.BuiltinsAt X.mg P:=by
  obtain ⟨bm,ob,g1,g2,g3,g4,g5,g6⟩:=I1.mod.bm
  refine ⟨bm,ob,g1,g2,fun z=>?_,fun z=>?_,I1.bk _ _ g3,g4,g5,g6⟩
  ·obtain ⟨o,_,_,k1,k2,_⟩:=I1.mod.glob
   rw [z,k1] at g3;cases g3
   rw [k2] at g6;cases g6
  ·have:=(I1.bs _ _ g3).2
   rw [z,hT] at this;cases this
 have hTT:∃ ps,s1.heap.get? P=some (tabObj ps)∧(ps = #[]∨∃ c',ps=ent lp c'∧s1.heap.CodeRec (.ref c') q):=by
  obtain ⟨ps,g1,g2⟩:=I1.hok P _ hT
  refine ⟨ps,g1,?_⟩
  rcases g2 with g | ⟨c',g,_,g3⟩
  ·exact .inl g
  ·exact .inr ⟨c',g,g3⟩
 show wpAny _ _ (evalAll [do let v ← eval (.Lambda params (FQ x y p1 p2 p3 p4 p5 kd) scope lp) X.env;standAt pos;pure v]) _ _ s1
 refine wpAny_evalAll_cons (wpAny_bind ?_)
 refine Ip (mg:=X.mg) hl.qn hdef (hcl c hcx) I1.ok.glob hgl hcode (codeHd_of_K KX hhd) hgP hbm hTT fun f c' ctv h' tk kp hP' hor hfs hfo hrec=>wpAny_bind (wpAny_standAt (wpAny_pure ?_))
 refine wpAny_evalAll_nil ?_
 show wpAny _ _ (PySem.call (.builtin "sorted") [.ref a] [(Str.ofString "key", .ref f)]) _ _ _
 obtain ⟨H2,I2,sm2⟩:=K_ (tk:=tk) I1 hT kp hP' (hor.imp (fun z=>z) fun z=>⟨z.1,z.2.1⟩) hrec
 have R2:=R1.grow sm2
 obtain ⟨its,rvs,pli,hz⟩:=I2.list (show SqL X.K H2 a ys from La sm2 hx)
 have hrs2:=hrs.same sm2
 have len:its.length=l.length:=rvs.length.symm.trans hrs2.length
 obtain ⟨m,hmm,hlk⟩:=id I2.loc
 have notL:∀ {b:Addr} {o:Obj},h'.get? b=some o→(∀ es ep,o.data ≠ .dict es ep)→b ≠ X.env.locals:=fun {b o} g1 g2 z=>by
  obtain ⟨o2,es,ep,k1,k2,_⟩:=hmm
  rw [← z] at k1
  rw [show h'.get? b=some o2 from k1] at g1;cases g1
  exact g2 _ _ k2
 have mem:∀ {b:Addr} {o:Obj},h'.get? b=some o→b ≠ X.env.locals→(b,o) ∈ lB (Att.jL h') h' X.env.locals:=fun g1 g2=>o7 g2 (Att.n_ _ _) g1
 have hlim:∀ s':Shared,(∀ p ∈ lB (Att.jL h') h' X.env.locals,s'.heap.get? p.1=some p.2)→s'.heap.NoLimit:=fun s' hk'=>I2.ok.mod.nolimit.keeps fun b o g=>hk' (b,o) (mem (I2.bk b o g) (bR (bN (Heap.lt_size (I2.ok.bs b o g).1) I2.ok.above)))
 have calls:Paired (fun v n=>Ab X.prog X.w X.A.in1.in1 (lB (Att.jL h') h' X.env.locals) (.ref f) v n) its ns:=by
  refine D_ (S:=fun d n=>∃ δ1,gNl 0 d (jj 1 [i] δ)=some δ1∧dK0 δ1=some (.int n)) (fun y0 d v n r1 r2 ⟨δ1,g1,g2⟩=>?_) hrs2 rvs (w6 e2 e3)
  obtain ⟨z,ds,r,rfl,g4,g5⟩:=Qi (u:=(δ[i]?).getD none) rfl g1 g2
  obtain rfl:=r1.intE
  obtain ⟨t0,rfl⟩:=r2
  have g6:δ[i]? = some (some (.d (.list ds))):=by
   cases g7:δ[i]? with
   | none=>rw [g7] at g4;cases g4
   | some u=>rw [g7] at g4;exact congrArg some g4
  have own0:ow i=none:=by
   cases g7:ow i with
   | none=>rfl
   | some b =>
    obtain ⟨_,g8,_⟩:=R2.own i b g7
    rw [hfl] at g8
    rcases g8 with ⟨g8,_⟩ | ⟨g8,_⟩ <;> cases g8
  obtain ⟨v0,k1,k2⟩:=R2.dat i _ g6 (by rw [hfl];rfl) own0
  obtain ⟨b,xs,rfl,k3,k4⟩:=k2.lstE
  obtain ⟨v1,k5,k6⟩:=k4.at g5
  obtain ⟨b2,ws,rfl,k7,k8⟩:=k6.tupE
  cases k8 with
  | cons k9 k10 =>
  obtain rfl:=k9.intE
  obtain ⟨it2,rv2,pl2,hz2⟩:=I2.list k3
  obtain ⟨it3,rv3,pl3,_⟩:=I2.tuple k7
  obtain ⟨j,j1,j2,j3,j4,j5⟩:=tZ k5
  obtain ⟨w1,j6,j7⟩:=rv2.get j2
  cases j7
  cases rv3 with
  | cons r3 rv3 =>
  obtain ⟨t3,rfl⟩:=r3
  have l2:=rv2.length
  obtain ⟨u,u1,u2⟩:=hlk i x _ hix k1 (.inr (.inl hcell))
  cases u1
  rcases u2 with ⟨u3,_⟩ | ⟨_,cl,u4,u5⟩
  ·have:some NameKind.cell=some NameKind.local:=hcell.symm.trans u3
   cases this
  have:cl=c:=by rw [hcx] at u4;exact (cN.inj u4).symm
  subst this
  refine ⟨t3,fun s' R' hk' hlim' hR=>?_⟩
  have kk:∀ {b:Addr} {o:Obj},h'.get? b=some o→(∀ es ep,o.data ≠ .dict es ep)→s'.heap.get? b=some o:=fun g1 g2=>hk' _ (mem g1 (notL g1 g2))
  have f1:s'.heap.get? f=some (kla_obj "<lambda>" q params (FQ x y p1 p2 p3 p4 p5 kd) scope [(x,cl)] ((X.mg "__name__").getD .none) c' ctv):=kk hfo (fun _ _ z=>by cases z)
  have f2:s'.heap.CodeRec (.ref c') q:=by
   obtain ⟨c2,oc,vs2,tq,w1,w2,w3,w4⟩:=hrec
   exact ⟨c2,oc,vs2,tq,w1,kk w2 (fun _ _ z=>by rw [w3] at z;cases z),w3,w4⟩
  have f3:s'.heap.IsCell cl (some (.ref b)):=by
   obtain ⟨o,w1,w2⟩:=u5
   exact ⟨o,kk w1 (fun _ _ z=>by rw [w2] at z;cases z),w2⟩
  have f4:s'.heap.IsList b it2.toArray:=by
   obtain ⟨o,w1,w2,w3,w4⟩:=pl2.isList
   exact ⟨o,kk w1 (fun _ _ z=>by rw [w4] at z;cases z),w2,w3,w4⟩
  have f5:∀ {it5:Array Value},IsTup h' b2 it5→IsTup s'.heap b2 it5:=fun ⟨o,w1,w2,w3,w4⟩=>⟨o,kk w1 (fun _ _ z=>by rw [w4] at z;cases z),w2,w3,w4⟩
  exact K7 (i:=z) (j:=j) (its:=it2.toArray) f1 f2 (by have:=hr.dp;show X.A.depth < _;omega) hlim' (fun u=>hbind _ _ _ _ u) hco hgen hk hcells hy hxf hxd hyd hxc f3 f4 (by rw [bO,← l2];exact j4) (by rw [bO,← l2];exact j5)
   (by rw [bO,← l2];exact hz2) (by rw [bO,← l2];exact j1) (by simpa using j6) (f5 pl3) (by simp) hR
 have fin:∀ (D:Addr) (h3:Heap) (ec tk3:Nat) (is:List V) (ds:List D3.D) (vo:List Value),Vals is vo→is.length ≤ sizeLine→(∀ (Hx:Hp),RAs X.K ok1 true Hx ys l→RAs X.K ok0 false Hx is ds) →
  qm l ns=ds→Fr (Att.jL h') X.env.locals h3 m→News (Att.jL h') X.env.locals h3 ((D,seqObj "list" (gP vo) ec) :: lB (Att.jL h') h' X.env.locals)→(∀ z ∈ lB (Att.jL h') h' X.env.locals,z.1 < D) →
  EP X pins σ Q (.ref D) { s1 with heap:=h3,toks:=tk3 }:=fun D h3 ec tk3 is ds vo v1 v2 v3 v4 F3 N3 lt=>by
  have kept3:∀ b o,b ≠ X.env.locals→h'.get? b=some o→h3.get? b=some o:=fun b o hb g=>(N3 (b,o) (aO _ (mem g hb))).1
  have hD:h'.get? D=none:=by
   cases g:h'.get? D with
   | none=>rfl
   | some o =>
    by_cases z:D=X.env.locals
    ·exact absurd z (N3 _ (aN ..)).2.1
    ·exact absurd (lt (D,o) (mem g z)) (gw _)
  have hn:H2 D=none:=by
   cases g:H2 D with
   | none=>rfl
   | some u =>
    obtain ⟨w,hw⟩:=sW (I2.hok D u g)
    rw [show h'.get? D=some w from hw] at hD;cases hD
  have new:gB X.prog X.w (upd H2 D (.lst is)) h3 D (.lst is):=⟨v2,vo,ec,v1,(N3 _ (aN ..)).1⟩
  have J:=Dv (s:={ s1 with heap:=h',toks:=tk }) (h':=h3) I2 hmm F3.ns kept3 hD new
  refine ⟨.ref D,_,J.tok tk3,rfl,q0 _ _ ((sm1.trans sm2).trans (dG hn _)) (.inr ⟨D,is,ds,rfl,(by show PyData.list (qm l ns)=_;rw [v4]),(sm1.trans sm2).free hn,cQ,?_⟩)⟩
  exact (v3 _ (hrs2.same (dG hn _))).imp (fun _ z=>z.elim) (fun z=>z)
 by_cases h1:l.length ≤ 1
 ·refine K8 (Att.Bb hmm) ux pli.isList (by rw [len];exact h1) calls hlim fun D h3 ec tk3 F3 N3 lt=>?_
  exact fin D h3 ec tk3 ys l its rvs (by rw [hrs2.length];exact bT h1 (by decide)) (fun Hx r=>RAs.flat hc.2 r) (by unfold qm;rw [if_pos h1]) F3 N3 lt
 ·refine Ir (Att.Bb hmm) ux pli.isList (by omega) (by omega) calls hlim fun D h3 ec tk3 F3 N3 lt=>?_
  have eo:qm l ns=(lY its.length (ltK ns)).map fun i=>l.getD i .none:=by unfold qm;rw [if_neg h1,len];rfl
  have pm:=jd (n:=its.length) (by omega) (ltK ns)
  refine fin D h3 ec tk3 ((lY its.length (ltK ns)).map fun i=>ys.getD i .non) _ _ ?_ ?_ ?_ eo F3 N3 lt
  ·generalize lY its.length (ltK ns)=is
   induction is with
   | nil=>exact .nil
   | cons i is ih=>exact .cons (wZ rvs i) ih
  ·rw [aJ,pm.length_eq,aY,len]
   exact bT (fZ hc.1) (by decide)
  ·intro Hx r
   generalize lY its.length (ltK ns)=is
   induction is with
   | nil=>exact .nil
   | cons i is ih=>exact .cons (RA.flat (uT hc.2 i) (yj r i)) ih
end
theorem Lb {K:Frag} {h:Heap} {c P:Addr} {q:Str} {lp:Pos} (KX:K.In h) (hP:h.get? P=some (tabObj #[])) (hc:codeHdIn K c P=true) (hn:K.lookup P=none) :
 (∀ t ∈ [(P,q,lp)],h.get? t.1=some { cls:=.none,data:=.fields #[] })∧(∀ t ∈ [(P,q,lp)],isCodeTable h t.1)∧∀ t ∈ [(P,q,lp)],K.lookup t.1=none :=
 ⟨fun t ht=>by rw [aK.mp ht];exact hP,fun t ht=>by rw [aK.mp ht];exact ((codeHd_of_K KX hc).tab hP).isCodeTable,fun t ht=>by rw [aK.mp ht];exact hn⟩
theorem Iu {P:Addr} {q:Str} {lp:Pos}:∀ t ∈ [(P,q,lp)],∀ t' ∈ [(P,q,lp)],t.1=t'.1→t=t':=fun t ht t' ht' _=>(aK.mp ht).trans (aK.mp ht').symm
theorem Iv {scope:Scope} {env:Env} {x y:Str} {c:Addr} (hn:scope.names=[(y,.local),(x,.free)]) (h:env.cells.lookup x=some c):closureFor scope env=pure [(x,c)]:=by
 unfold closureFor
 rw [hn]
 simp [cellOf,h]
section
variable {P:Program} {w:World} {K:PySem.W.Frag} {mg:Str→Option Value} {base:Heap} {x:Str} {ps N:List Str} {st:Stmt} {k n:Nat} {fs:FS} {fl:List Fl} {Pt:Addr} {q:Str} {lp:Pos}
structure DgT (K:PySem.W.Frag) (mg:Str→Option Value) (x:Str) (st:Stmt) (ps:List Str) (Pt:Addr) (q:Str) (lp:Pos):Prop where
 ex:∃ (f:Addr) (fd:FuncData) (c:Addr),FunD K x st f fd∧Binds K fd ps []∧mg x=some (.ref f)∧fd.code = .ref c∧codeHdIn K c Pt=true
 tb:(Pt,q,lp) ∈ tabs
theorem Qj {h:Heap} {f c:Addr} {oc kV dc pm ct:Value} {od an:Option Addr} {sl:Array (Option Value)} (X:K.In h) (G:h.Ns mainGlobals mg)
 (hb:∀ (kV doc pm:Value) (an:Option Addr) (cdv ct:Value) (us:List Value),us.length=ps.length→bindArgs (PySem.W.fnOf x x (j9 st) (iK st) (bx st) .none kV doc pm an cdv ct) ⟨us,[]⟩=pure (ps.zip us))
 (a:PySem.W.nsIn K mainGlobals x=some (some (.ref f))) (l:K.lookup f=some ⟨oc,od,.func (PySem.W.fnOf x x (j9 st) (iK st) (bx st) .none kV dc pm an (.ref c) ct),sl⟩) (ci:PySem.W.codeIn K (.ref c) x=true) (k:PySem.W.keepIn K (.ref f)=true)
 (hd:codeHdIn K c Pt=true) (tb:(Pt,q,lp) ∈ tabs):DgT K mg x st ps Pt q lp :=
 ⟨⟨_,_,c,⟨⟨oc,od,.none,kV,dc,pm,an,.ref c,ct,sl,rfl,l,ci⟩,k⟩,.all (hb kV dc pm an (.ref c) ct),PySem.W.mg_of X G a,rfl,hd⟩,tb⟩
theorem okT {f c:Addr} {fd:FuncData} {sp:Sp} (F:FunD K x st f fd) (hcd:fd.code = .ref c) (S:FnScope N ps (bx st)) (len:∀ vs H Q E,sp vs H Q E→vs.length=ps.length)
 (hbody:∀ (A:Around) (outer:List Env) (s:Shared) (H:Hp) (vs:List V) (Q:VK) (E:XK),Room k (A.deeper (envOfC x (bx st) s.heap.objs.size f (.ref c)))→sp vs H Q E →
  ∃ t,PSs (zE CX0 P w K mg base N x (bx st) f (.ref c) A outer s H E).nox (iK st) t∧t { nx:=fun _ H'=>Q .non H',rt:=Q } (L2.start N vs) H):FnOk P w K mg base CX0 (k + 1) f fd ps sp:=by
 obtain ⟨oc,od,dV,kV,doc,pm,an,cdv,ct,osl,rfl,lk,hcd'⟩:=F.ex
 have e:cdv = .ref c:=hcd
 subst e
 refine Nf lk hcd' S len fun A outer s H vs Q E hr hsp=>?_
 obtain ⟨t,h,q⟩:=hbody A outer s H vs Q E hr hsp
 exact ⟨t,h.nox,q⟩
theorem Qk (Dd:DgT K mg x st ps Pt q lp) (S:FnScope N ps (bx st)) (hp:∀ i,i < ps.length→fl[i]? = some .A) (hN:ps.length ≤ N.length)
 (hbody:∀ (f c:Addr) (A:Around) (outer:List Env) (s:Shared) (H:Hp) (E:XK),codeHdIn K c Pt=true→Room k (A.deeper (envOfC x (bx st) s.heap.objs.size f (.ref c)))→DSs (cx P w K mg base N x st f (.ref c) A outer s H E) fl (iK st) fs) :
 Has P w K mg base (k + 1) x ps (spD K (fnD ps.length (N.length - ps.length) fs)):=by
 obtain ⟨f,fd,c,Fn,b,m,hcd,hhd⟩:=Dd.ex
 refine ⟨f,fd,?_,b,Fn.kp,m⟩
 refine okT Fn hcd S (fun vs H Q E h=>?_) (fun A outer s H vs Q E hr h=>?_)
 ·obtain ⟨ds,d,r,hf,_⟩:=h
  unfold fnD at hf
  by_cases z:ds.length=ps.length
  ·rw [r.2.length];exact z
  ·rw [if_neg z] at hf;cases hf
 ·obtain ⟨ds,d,r,hf,q⟩:=h
  refine ⟨_,hbody f c A outer s H E hhd hr,?_⟩
  unfold fnD at hf
  by_cases z:ds.length=ps.length
  ·rw [if_pos z] at hf
   split at hf
   ·next d' e =>
    cases hf
    exact ⟨_,_,_,_,pQ ps.length hp z hN r,e,fun v H' s r=>q v H' s r⟩
   ·next δ' e =>
    cases hf
    exact ⟨_,_,_,_,pQ ps.length hp z hN r,e,fun ow' σ' H' R'=>q .non H' R'.same0 .non⟩
   ·cases hf
  ·rw [if_neg z] at hf;cases hf
end
end XL
namespace D3
open PySem PySem.Spec PyProof.Rows L2 My
section
variable {X:Cx} {fl:List Fl} {e a b:Expr} {es:List Expr} {f fa fb:FE} {fr:FA} {k:Kd} {pos:Pos}
theorem vA (i:Nat) {x:Str} (hfl:fl[i]? = some .A:=by rfl) (hN:X.N[i]? = some x:=by rfl) (hv:Vis X.env.scope x:=by first | exact Or.inl rfl | exact Or.inr (Or.inl rfl) | exact Or.inr (Or.inr rfl)) (hd:(x == ("__debug__" : Str))=false:=by decide)
 (hcd:(x == ("__classdict__" : Str))=false:=by decide):DE X fl .A (.Name x pos) (aF i):=xP i hfl hN hv hd hcd
theorem vP (i:Nat) {x:Str} (hfl:fl[i]? = some .A:=by rfl) (hN:X.N[i]? = some x:=by rfl) (hv:Vis X.env.scope x:=by first | exact Or.inl rfl | exact Or.inr (Or.inl rfl) | exact Or.inr (Or.inr rfl)) (hd:(x == ("__debug__" : Str))=false:=by decide)
 (hcd:(x == ("__classdict__" : Str))=false:=by decide):DE X fl .P (.Name x pos) (aF i):=cT (xP i hfl hN hv hd hcd)
theorem vB (i:Nat) {x:Str} (hfl:fl[i]? = some .A:=by rfl) (hN:X.N[i]? = some x:=by rfl) (hv:Vis X.env.scope x:=by first | exact Or.inl rfl | exact Or.inr (Or.inl rfl) | exact Or.inr (Or.inr rfl)) (hd:(x == ("__debug__" : Str))=false:=by decide)
 (hcd:(x == ("__classdict__" : Str))=false:=by decide):DE X fl (.B []) (.Name x pos) (aF i):=dY (xP i hfl hN hv hd hcd)
theorem iP {i j pos}:DE X fl .P (.Constant (.int i) j pos) (dC (.int i)):=bK Hq
theorem iC {i j pos}:DE X fl .C (.Constant (.int i) j pos) (dC (.int i)):=g_ Hq
theorem dz:DB X fl k [] bh:=Hz
theorem dq (h:DE X fl k e f) (hr:DB X fl k es fr) (hk:isR k=true:=by rfl) (hs:starEach (e :: es) X.env=(false,eval e X.env) :: starEach es X.env:=by exact oK rfl):DB X fl k (e :: es) (aH f fr):=Ks hk h hr hs
theorem dx {L:List Nat} (ha:DE X fl (.B L) a fa) (hb:DE X fl .P b fb) (hs:xJ b:=by exact fun _ _=>rfl):DE X fl .A (.Subscript a b pos) (dOp gIx fa fb):=SJ ha hb hs
theorem sA {i:Nat} {x:Str} {pos':Pos} (hN:X.N.Nodup) (h:DE X fl .A e f) (hfl:fl[i]? = some .A:=by rfl) (hi:X.N[i]? = some x:=by rfl) (hv:X.env.scope.names.lookup x=some .local∨X.env.scope.names.lookup x=some .cell:=by first | exact Or.inl rfl | exact Or.inr rfl)
 (hs:swapsWith e (some (.Name x pos')) pos.line X.env=pure false:=by rfl) (hfn:X.fn x=true∨X.env.scope.names.lookup x=some .local:=by first | exact .inl rfl | exact .inr rfl) :
 DS1 X fl (.Assign [.Name x pos'] e pos) (bW i f):=Kq hfl hN hi hv h hs hfn
theorem gN' {i:Nat} {x:Str} {pos:Pos} (hN:X.N.Nodup) (hfl:fl[i]? = some .A:=by rfl) (hi:X.N[i]? = some x:=by rfl) (hv:X.env.scope.names.lookup x=some .local∨X.env.scope.names.lookup x=some .cell:=by first | exact Or.inl rfl | exact Or.inr rfl)
 (hfn:X.fn x=true∨X.env.scope.names.lookup x=some .local:=by first | exact .inl rfl | exact .inr rfl):DG X fl [i] (.Name x pos) (gNl i):=Kr hfl hN hi hv hfn
end
theorem fsc {N P:List Str} {sc:Scope} (a:sc.kind = .function:=by rfl) (b:sc.isCoroutine=false:=by rfl) (c:sc.isGenerator=false:=by rfl) (d:N.Nodup:=by decide +kernel) (e:N.take P.length=P:=by rfl) (f:∀ x ∈ P,sc.names.lookup x=some .local∨sc.names.lookup x=some .cell:=by decide +kernel) (g:∀ y ∈ sc.names,y.2 ≠ .free:=by decide +kernel):FnScope N P sc:=⟨a,b,c,d,e,f,g⟩
end D3
namespace D3
open PySem
def qS (o:Option Oc) (b:FS):Option Oc:=match o with
 | some (.nx δ)=>b δ
 | some o=>some o
 | none=>none
def qI (o:Option Bool) (a b:FS) (δ:DS):Option Oc:=match o with
 | some true=>a δ
 | some false=>b δ
 | none=>none
def qO (g:D→D→Option D) (a b:Option D):Option D:=match a,b with
 | some x,some y=>g x y
 | _,_=>none
def qU (g:D→Option D) (a:Option D):Option D:=match a with
 | some x=>g x
 | none=>none
def qC (a:Option D) (r:Option (List D)):Option (List D):=match a,r with
 | some x,some l=>some (x :: l)
 | _,_=>none
def qF (F:List D→Option D) (l:Option (List D)):Option D:=match l with
 | some l=>F l
 | none=>none
def qR (a:Option D):Option Oc:=match a with
 | some d=>some (.rt d)
 | none=>none
def Ql (i:Nat) (a:Option D) (δ:DS):Option Oc:=match a with
 | some d=>if i < δ.length then some (.nx (δ.set i (some (.d d)))) else none
 | none=>none
def FZ (a:Option D) (fb:FE) (δ:DS):Option D:=match a with
 | some (.bool true)=>fb δ
 | some (.bool false)=>some (.bool false)
 | _=>none
def qOr (a:Option D) (fb:FE) (δ:DS):Option D:=match a with
 | some (.bool true)=>some (.bool true)
 | some (.bool false)=>fb δ
 | _=>none
def qN (a:Option D):Option D:=match a with
 | some (.bool b)=>some (.bool (!b))
 | _=>none
def qB (a:Option D):Option Bool:=match a with
 | some (.bool b)=>some b
 | _=>none
def qTA (a:Option Bool) (b:FT) (δ:DS):Option Bool:=match a with
 | some true=>b δ
 | some false=>some false
 | none=>none
def qTO (a:Option Bool) (b:FT) (δ:DS):Option Bool:=match a with
 | some true=>some true
 | some false=>b δ
 | none=>none
def qTN (a:Option Bool):Option Bool:=match a with
 | some b=>some (!b)
 | none=>none
def qE (a:Option Bool) (fa fb:FE) (δ:DS):Option D:=match a with
 | some true=>fa δ
 | some false=>fb δ
 | none=>none
def qL (a:Option D):Option (List D):=match a with
 | some (.list l)=>some l
 | _=>none
def Qm (a:Option (List D)) (g:FG) (b:FS) (δ:DS):Option Oc:=match a with
 | some l=>iW g b l δ
 | none=>none
def qD (a:Option DS):Option Oc:=match a with
 | some δ=>some (.nx δ)
 | none=>none
def qG (a:Option D) (g:FG) (δ:DS):Option DS:=match a with
 | some d=>g d δ
 | none=>none
def qGs (a:Option DS) (r:List D→DS→Option DS) (l:List D):Option DS:=match a with
 | some δ=>r l δ
 | none=>none
def qT (a:Option (List D)):Option D:=match a with
 | some l=>if l.length ≤ sizeLine then some (.tuple l) else none
 | none=>none
def qK (a:Option (List D)):Option D:=match a with
 | some l=>if l.length ≤ sizeLine then some (.list l) else none
 | none=>none
def qFl (p:D→Bool) (a:Option D):Option D:=match a with
 | some d=>if p d=true then some d else none
 | none=>none
def qA (i:Nat) (x a:Option D) (δ:DS):Option Oc:=match x,a with
 | some (.list l),some d=>if l.length < 1000000 then some (.nx (δ.set i (some (.d (.list (l++[d])))))) else none
 | _,_=>none
def qP (i:Nat) (a x k:Option D) (δ:DS):Option Oc:=match a,x,k with
 | some d,some (.list l),some (.int j)=>(pIx l.length j).bind fun n=>some (.nx (δ.set i (some (.d (.list (l.set n d))))))
 | _,_,_=>none
def qCh (g':D→D→Option D) (z:Option D) (y:Option D) (fc:FE) (δ:DS):Option D:=match z with
 | some (.bool true)=>qO g' y (fc δ)
 | some (.bool false)=>some (.bool false)
 | _=>none
def qFn (o:Option Oc):Option D:=match o with
 | some (.rt d)=>some d
 | some (.nx _)=>some .none
 | _=>none
def qCo (a:Option (List D)) (g:FG) (c:FT) (e:FE) (t:Nat) (ix:List Nat) (δ:DS):Option D:=match a with
 | some l=>if l.length ≤ 100000 then (match dW g c e (jj t ix δ) l with | some r=>some (.list r) | none=>none) else none
 | none=>none
section
variable {a b:FS} {c c':FT} {fa fb fc:FE} {fr:FA} {δ:DS} {g:D→D→Option D} {h:D→Option D} {F:List D→Option D} {i:Nat} {G:FG} {d:D}
theorem Tj:b_ a b δ=qS (a δ) b:=by
 unfold b_ qS
 cases a δ with
 | none=>rfl
 | some o=>cases o <;> rfl
theorem Iw {δ':DS}:qS (some (.nx δ')) b=b δ':=rfl
theorem Iz:qS (some (.rt d)) b=some (.rt d):=rfl
theorem IK {δ':DS}:qS (some (.bk δ')) b=some (.bk δ'):=rfl
theorem IV {δ':DS}:qS (some (.ct δ')) b=some (.ct δ'):=rfl
theorem Tp:fO δ=some (.nx δ):=rfl
theorem Vj:sBk δ=some (.bk δ):=rfl
theorem Vk:sCt δ=some (.ct δ):=rfl
theorem Vl:sIf c a b δ=qI (c δ) a b δ:=by
 unfold sIf qI
 cases c δ with
 | none=>rfl
 | some t=>cases t <;> rfl
theorem Qn:qI (some true) a b δ=a δ:=rfl
theorem Qo:qI (some false) a b δ=b δ:=rfl
theorem v_op:dOp g fa fb δ=qO g (fa δ) (fb δ):=by
 unfold dOp qO
 cases fa δ <;> cases fb δ <;> rfl
theorem Qq {x y:D}:qO g (some x) (some y)=g x y:=rfl
theorem Vm:dUn h fa δ=qU h (fa δ):=by
 unfold dUn qU
 cases fa δ <;> rfl
theorem Qs {x:D}:qU h (some x)=h x:=rfl
theorem Qt:bh δ=some []:=rfl
theorem Ld:aH fa fr δ=qC (fa δ) (fr δ):=by
 unfold aH qC
 cases fa δ <;> cases fr δ <;> rfl
theorem Ga {x:D} {l:List D}:qC (some x) (some l)=some (x :: l):=rfl
theorem Qu:dCall F fr δ=qF F (fr δ):=by
 unfold dCall qF
 cases fr δ <;> rfl
theorem IW {l:List D}:qF F (some l)=F l:=rfl
theorem Tq:d8 fa δ=qR (fa δ):=by
 unfold d8 qR
 cases fa δ <;> rfl
theorem Le:qR (some d)=some (.rt d):=rfl
theorem Qw:R9 δ=some (.rt .none):=rfl
theorem Tr:bW i fa δ=Ql i (fa δ) δ:=by
 unfold bW R8 Ql
 cases fa δ with
 | none=>simp
 | some d=>rfl
theorem Lf:Ql i (some d) δ=if i < δ.length then some (.nx (δ.set i (some (.d d)))) else none:=rfl
theorem v_c:dC d δ=some d:=rfl
theorem v_and:su fa fb δ=FZ (fa δ) fb δ:=by
 unfold su FZ
 cases fa δ with
 | none=>rfl
 | some x =>
  cases x <;> try rfl
  next b=>cases b <;> rfl
theorem Lg:FZ (some (.bool true)) fb δ=fb δ:=rfl
theorem Lh:FZ (some (.bool false)) fb δ=some (.bool false):=rfl
theorem v_or:dOr fa fb δ=qOr (fa δ) fb δ:=by
 unfold dOr qOr
 cases fa δ with
 | none=>rfl
 | some x =>
  cases x <;> try rfl
  next b=>cases b <;> rfl
theorem Qx:qOr (some (.bool true)) fb δ=some (.bool true):=rfl
theorem Qy:qOr (some (.bool false)) fb δ=fb δ:=rfl
theorem v_not:Hj fa δ=qN (fa δ):=by
 unfold Hj qN
 cases fa δ with
 | none=>rfl
 | some x=>cases x <;> rfl
theorem Li {b:Bool}:qN (some (.bool b))=some (.bool (!b)):=rfl
theorem Vo:bB fa δ=qB (fa δ):=by
 unfold bB qB
 cases fa δ with
 | none=>rfl
 | some x=>cases x <;> rfl
theorem Qz {b:Bool}:qB (some (.bool b))=some b:=rfl
theorem QB:D3.jA c c' δ=qTA (c δ) c' δ:=by
 unfold D3.jA qTA
 cases c δ with
 | none=>rfl
 | some t=>cases t <;> rfl
theorem I_:qTA (some true) c δ=c δ:=rfl
theorem Ja:qTA (some false) c δ=some false:=rfl
theorem Tt:D3.tOr c c' δ=qTO (c δ) c' δ:=by
 unfold D3.tOr qTO
 cases c δ with
 | none=>rfl
 | some t=>cases t <;> rfl
theorem Lj:qTO (some true) c δ=some true:=rfl
theorem Lk:qTO (some false) c δ=c δ:=rfl
theorem QC:D3.n6 c δ=qTN (c δ):=by
 unfold D3.n6 qTN
 cases c δ <;> rfl
theorem Jb {b:Bool}:qTN (some b)=some (!b):=rfl
theorem v_ite:dIf c fa fb δ=qE (c δ) fa fb δ:=by
 unfold dIf qE
 cases c δ with
 | none=>rfl
 | some t=>cases t <;> rfl
theorem Ln:qE (some true) fa fb δ=fa δ:=rfl
theorem Lp:qE (some false) fa fb δ=fb δ:=rfl
theorem Tv:kI fa δ=qL (fa δ):=by
 unfold kI qL asList
 cases fa δ with
 | none=>rfl
 | some x=>cases x <;> rfl
theorem Lq {l:List D}:qL (some (.list l))=some l:=rfl
theorem Tw:mD fr G b δ=Qm (fr δ) G b δ:=by
 unfold mD Qm
 cases fr δ <;> rfl
theorem Lr {l:List D}:Qm (some l) G b δ=iW G b l δ:=rfl
theorem Gb:iW G b [] δ=some (.nx δ):=rfl
theorem Tz:Fe fa G δ=qD (qG (fa δ) G δ):=by
 unfold Fe qG qD
 cases fa δ with
 | none=>rfl
 | some d =>
  dsimp only [aL]
  cases G d δ <;> rfl
theorem Ls:qG (some d) G δ=G d δ:=rfl
theorem Lw {δ':DS}:qD (some δ')=some (.nx δ'):=rfl
theorem Vp:gNl i d δ=if i < δ.length then some (δ.set i (some (.d d))) else none:=rfl
theorem Vq {n:Nat} {gs:List D→DS→Option DS} {l:List D}:gTn n gs (.tuple l) δ=if l.length=n then gs l δ else none:=rfl
theorem TF:jN [] δ=some δ:=rfl
theorem TJ {gs:List D→DS→Option DS} {l:List D}:cM G gs (d :: l) δ=qGs (G d δ) gs l:=by
 show (G d δ).bind (fun δ'=>gs l δ')=qGs (G d δ) gs l
 cases G d δ <;> rfl
theorem Lx {gs:List D→DS→Option DS} {l:List D} {δ':DS}:qGs (some δ') gs l=gs l δ':=rfl
theorem TQ:dTup fr δ=qT (fr δ):=by
 unfold dTup qT
 cases fr δ <;> rfl
theorem Ly {l:List D}:qT (some l)=if l.length ≤ sizeLine then some (.tuple l) else none:=rfl
theorem Vr:mC fr δ=qK (fr δ):=by
 unfold mC qK
 cases fr δ <;> rfl
theorem QD {l:List D}:qK (some l)=if l.length ≤ sizeLine then some (.list l) else none:=rfl
theorem QF:cR fa δ=qFl flat (fa δ):=by
 unfold cR qFl
 cases fa δ <;> rfl
theorem TX:qg fa δ=qFl fl1 (fa δ):=by
 unfold qg qFl
 cases fa δ <;> rfl
theorem QG {p:D→Bool}:qFl p (some d)=if p d=true then some d else none:=rfl
theorem TY:xM i fa δ=qA i (aF i δ) (fa δ) δ:=by
 unfold xM qA
 cases aF i δ with
 | none=>rfl
 | some x =>
  cases fa δ with
  | none=>cases x <;> rfl
  | some d=>cases x <;> rfl
theorem Lz {l:List D}:qA i (some (.list l)) (some d) δ=if l.length < 1000000 then some (.nx (δ.set i (some (.d (.list (l++[d])))))) else none:=rfl
theorem T3 {fk:FE}:rm i fk fa δ=qP i (fa δ) (aF i δ) (fk δ) δ:=by
 unfold rm qP
 cases fa δ with
 | none=>rfl
 | some d =>
  cases aF i δ with
  | none=>rfl
  | some x =>
   cases fk δ with
   | none=>cases x <;> rfl
   | some k=>cases x <;> cases k <;> rfl
theorem LC {l:List D} {j:Int}:qP i (some d) (some (.list l)) (some (.int j)) δ=(pIx l.length j).bind fun n=>some (.nx (δ.set i (some (.d (.list (l.set n d)))))):=rfl
theorem LK {g':D→D→Option D}:m5 g g' fa fb fc δ=qCh g' (qO g (fa δ) (fb δ)) (fb δ) fc δ:=by
 unfold m5 qCh qO
 cases fa δ with
 | none=>rfl
 | some x =>
  cases fb δ with
  | none=>rfl
  | some y =>
   dsimp only [aL]
   cases g x y with
   | none=>rfl
   | some z =>
    cases z <;> try rfl
    next b =>
    cases b with
    | false=>rfl
    | true=>dsimp only [aL];cases fc δ <;> rfl
theorem Gd {g':D→D→Option D} {y:Option D}:qCh g' (some (.bool true)) y fc δ=qO g' y (fc δ):=rfl
theorem Ge {g':D→D→Option D} {y:Option D}:qCh g' (some (.bool false)) y fc δ=some (.bool false):=rfl
theorem T4 {p q:Nat} {ds:List D}:fnD p q b ds=if ds.length=p then qFn (b (ds.map (fun d=>some (.d d))++bG q none)) else none:=by
 unfold fnD qFn
 rfl
theorem LQ:qFn (some (.rt d))=some d:=rfl
theorem LR {δ':DS}:qFn (some (.nx δ'))=some .none:=rfl
theorem QH {t:Nat} {ix:List Nat}:gD fr G c fa t ix δ=qCo (fr δ) G c fa t ix δ:=by
 unfold gD qCo
 cases fr δ with
 | none=>rfl
 | some l =>
  dsimp only [aL]
  by_cases z:l.length ≤ 100000
  ·rw [if_pos z,if_pos z]
   cases dW G c fa (jj t ix δ) l <;> rfl
  ·rw [if_neg z,if_neg z]
theorem Jc {t:Nat} {ix:List Nat} {l:List D}:qCo (some l) G c fa t ix δ=if l.length ≤ 100000 then (match dW G c fa (jj t ix δ) l with | some r=>some (.list r) | none=>none) else none:=rfl
theorem T5:D3.jM δ=some true:=rfl
theorem QJ {r:DS} {x:D}:aF 0 (some (.d x) :: r)=some x:=rfl
theorem QK {r:DS} {y:Option U}:aF (i + 1) (y :: r)=aF i r:=rfl
end
section
variable {i j:Int} {l m:List D} {d:D}
theorem T6:jk (.int i) (.int j)=some (.int (i + j)):=rfl
theorem T7:GQ (.int i) (.int j)=some (.int (i - j)):=rfl
theorem Vs:gLt (.int i) (.int j)=some (.bool (decide (i < j))):=rfl
theorem Vt:gLe (.int i) (.int j)=some (.bool (decide (i ≤ j))):=rfl
theorem Vu:gGt (.int i) (.int j)=some (.bool (decide (j < i))):=rfl
theorem Vv:gGe (.int i) (.int j)=some (.bool (decide (j ≤ i))):=rfl
theorem Jd:gEq (.int i) (.int j)=some (.bool (decide (i=j))):=rfl
theorem T8:gNe (.int i) (.int j)=some (.bool (!decide (i=j))):=rfl
theorem T9:jm [.list l]=some (.int l.length):=rfl
theorem QL:jm [.tuple l]=some (.int l.length):=rfl
theorem pY:∀ ns:List Int,i_ (ns.map .int)=some ns
 | []=>rfl
 | n :: r=>by rw [bC,i_,pY r];rfl
theorem T_:Ve [.int i]=some (.int (if i < 0 then -i else i)):=rfl
theorem Je:wK [.int i,.int j]=some (.int (if j > i then j else i)):=rfl
theorem Ea:uI [.int i,.int j]=some (.int (if j < i then j else i)):=rfl
theorem Ua:Vf (.int i)=some (.int (-i)):=rfl
theorem Vw:gIx (.list l) (.int i)=pAt l i:=rfl
theorem Ub:gIx (.tuple l) (.int i)=pAt l i:=rfl
theorem Ad:sE (.list l) (.list m)=if l.length + m.length ≤ 1000000 then some (.list (l++m)) else none:=rfl
theorem QM:uJ (.list l)=some (.list l):=rfl
theorem L_:uJ (.tuple l)=some (.list l):=rfl
theorem Uc:pAt (d :: l) 0=some d:=by
 unfold pAt pIx
 rw [if_pos (by decide),if_pos (by simp)]
 rfl
end
def QS (i j:Nat) (a:Option (List D)) (δ:DS):Option Oc:=match a with
 | some l=>match l with
  | [x,y]=>if i < δ.length∧j < δ.length then some (.nx ((δ.set i (some (.d x))).set j (some (.d y)))) else none
  | _=>none
 | none=>none
def nQ (a:Option (List D)):Option (List D):=match a with
 | some l=>match l with
  | [.int j]=>if qj j=true then some (dZ 0 j) else none
  | _=>none
 | none=>none
def Ae (a:Option (List D)):Option (List D):=match a with
 | some l=>match l with
  | [.int i,.int j]=>if (qj i && qj j)=true then some (dZ i j) else none
  | _=>none
 | none=>none
def qSl (x:Option D) (a b:Option (Option Int)):Option D:=match x,a,b with
 | some (.list l),some a,some b=>some (.list (cutD l a b))
 | _,_,_=>none
def qOP (x:Option D):Option (Option Int):=match x with
 | some (.int i)=>some (some i)
 | _=>none
def qEn (x:Option D):Option (List D):=match x with
 | some (.list l)=>some (jV l)
 | _=>none
section
variable {a b:FS} {fa:FE} {fr:FA} {δ:DS} {i j:Nat} {g:FG}
theorem Ud:Sg i j fr δ=QS i j (fr δ) δ:=by
 unfold Sg QS
 cases fr δ with
 | none=>rfl
 | some l=>rfl
theorem Ma {x y:D}:QS i j (some [x,y]) δ=if i < δ.length∧j < δ.length then some (.nx ((δ.set i (some (.d x))).set j (some (.d y)))) else none:=rfl
theorem QT:kJ fr δ=nQ (fr δ):=by
 unfold kJ nQ
 cases fr δ with
 | none=>rfl
 | some l=>rfl
theorem Cg {k:Int} (h : -(2 ^ 62) ≤ k) (h2:k < 2 ^ 62):nQ (some [.int k])=some (dZ 0 k):=by
 show (if qj k=true then some (dZ 0 k) else none)=_
 rw [if_pos]
 unfold qj
 rw [dTr h,dTr h2]
 rfl
theorem QV:zM fr δ=Ae (fr δ):=by
 unfold zM Ae
 cases fr δ with
 | none=>rfl
 | some l=>rfl
theorem Ue {i k:Int} (h : -(2 ^ 62) ≤ k) (h2:k < 2 ^ 62) (h3 : -(2 ^ 62) ≤ i) (h4:i < 2 ^ 62):Ae (some [.int i,.int k])=some (dZ i k):=by
 show (if (qj i && qj k)=true then some (dZ i k) else none)=_
 rw [if_pos]
 unfold qj
 rw [dTr h,dTr h2,dTr h3,dTr h4]
 rfl
theorem Vx {lo hi:FO}:dSl fa lo hi δ=qSl (fa δ) (lo δ) (hi δ):=by
 unfold dSl qSl
 cases fa δ with
 | none=>rfl
 | some x =>
  dsimp only [aL]
  cases lo δ with
  | none=>cases x <;> rfl
  | some p =>
   dsimp only [aL]
   cases hi δ with
   | none=>cases x <;> rfl
   | some r=>cases x <;> rfl
theorem QW {l:List D} {p r:Option Int}:qSl (some (.list l)) (some p) (some r)=some (.list (cutD l p r)):=rfl
theorem Vy:Sd δ=some none:=rfl
theorem Vz:Nh fa δ=qOP (fa δ):=by
 unfold Nh qOP
 cases fa δ with
 | none=>rfl
 | some x=>cases x <;> rfl
theorem QX {k:Int}:qOP (some (.int k))=some (some k):=rfl
theorem QZ:uK fa δ=qEn (fa δ):=by
 unfold uK qEn
 cases fa δ with
 | none=>rfl
 | some x=>cases x <;> rfl
theorem Jf {l:List D}:qEn (some (.list l))=some (jV l):=rfl
theorem jo (Inv:Nat→DS→Prop):∀ (l:List D) (δ:DS),Inv 0 δ→(∀ i d δ,l[i]? = some d→Inv i δ→∃ δ1 δ',g d δ=some δ1∧(b δ1=some (.nx δ')∨b δ1=some (.ct δ'))∧Inv (i + 1) δ')→∃ δ',iW g b l δ=some (.nx δ')∧Inv l.length δ':=by
 have key:∀ (l:List D) (k:Nat) (δ:DS),Inv k δ→(∀ i d δ,l[i]? = some d→Inv (k + i) δ→∃ δ1 δ',g d δ=some δ1∧(b δ1=some (.nx δ')∨b δ1=some (.ct δ'))∧Inv (k + i + 1) δ')→∃ δ',iW g b l δ=some (.nx δ')∧Inv (k + l.length) δ':=by
  intro l
  induction l with
  | nil=>exact fun k δ h _=>⟨δ,rfl,h⟩
  | cons d r ih =>
   intro k δ h hs
   obtain ⟨δ1,δ',e1,e2,e3⟩:=hs 0 d δ rfl h
   obtain ⟨δ2,e4,e5⟩:=ih (k + 1) δ' e3 fun i d' δ'' hd hi=>by
    have:=hs (i + 1) d' δ'' (by simpa using hd) (by rw [show k + (i + 1)=k + 1 + i by omega];exact hi)
    rw [show k + (i + 1) + 1=k + 1 + i + 1 by omega] at this
    exact this
   refine ⟨δ2,?_,by rw [bM,show k + (r.length + 1)=k + 1 + r.length by omega];exact e5⟩
   rw [iW,e1,aL]
   rcases e2 with e2 | e2
   ·rw [e2];exact e4
   ·rw [e2];exact e4
 intro l δ h hs
 have:=key l 0 δ h fun i d δ hd hi=>by
  have:=hs i d δ hd (by rw [jK] at hi;exact hi)
  rw [jK]
  exact this
 rw [jK] at this
 exact this
end
def qX (a:Option D) (δ:DS):Option Oc:=match a with
 | some _=>some (.nx δ)
 | none=>none
theorem Q0 {fa:FE} {δ:DS}:tu fa δ=qX (fa δ) δ:=by
 unfold tu qX
 cases fa δ <;> rfl
theorem Jg {d:D} {δ:DS}:qX (some d) δ=some (.nx δ):=rfl
theorem Jh {g g' g'':D→D→Option D} {fa fb fc fd:FE} {δ:DS}:t_ g g' g'' fa fb fc fd δ=FZ (qO g (fa δ) (fb δ)) (m5 g' g'' fb fc fd) δ:=by
 unfold t_ FZ m5 qO
 cases fa δ with
 | none=>rfl
 | some x =>
  cases fb δ with
  | none=>rfl
  | some y =>
   dsimp only [aL]
   cases g x y with
   | none=>rfl
   | some z =>
    cases z <;> try rfl
    next b=>cases b <;> rfl
def qZ (a b:Option D):Option (List D):=match a,b with
 | some (.list l),some (.list m)=>some (Kh l m)
 | _,_=>none
theorem Ug {f g:FE} {δ:DS}:Sq f g δ=qZ (f δ) (g δ):=by
 unfold Sq qZ
 cases f δ with
 | none=>rfl
 | some x =>
  cases g δ with
  | none=>cases x <;> rfl
  | some y=>cases x <;> cases y <;> rfl
theorem Mf {l m:List D}:qZ (some (.list l)) (some (.list m))=some (Kh l m):=rfl
theorem VB {fa:FE} {δ:DS}:dN1 fa δ=qFl (fun d=>decide (nl d ≤ 1)) (fa δ):=by
 unfold dN1 qFl
 cases fa δ <;> rfl
theorem Uh:flat .none=true:=rfl
theorem VD {b:Bool}:flat (.bool b)=true:=rfl
theorem f_int {i:Int}:flat (.int i)=true:=rfl
theorem Ui {x:Str}:flat (.str x)=true:=rfl
theorem Uj {l:List D}:flat (.list l)=false:=rfl
theorem f_tup {l:List D}:flat (.tuple l)=flats l:=rfl
theorem Uk:flats []=true:=rfl
theorem Q5 {d:D} {l:List D}:flats (d :: l)=(flat d && flats l):=rfl
theorem Q6:fl1 .none=true:=rfl
theorem Ul {b:Bool}:fl1 (.bool b)=true:=rfl
theorem Q7 {i:Int}:fl1 (.int i)=true:=rfl
theorem Q8 {x:Str}:fl1 (.str x)=true:=rfl
theorem jZ {l:List D}:fl1 (.list l)=flats l:=rfl
theorem Q9 {l:List D}:fl1 (.tuple l)=flats l:=rfl
theorem VF {c:String} {d:D}:gIs c d=some (.bool (isT c (tyD d))):=rfl
theorem Um {d:D}:oE d=some (.bool (isNone d)):=rfl
theorem Q_ {d:D}:mO d=some (.bool (!isNone d)):=rfl
theorem Uo:isNone .none=true:=rfl
theorem VG {b:Bool}:isNone (.bool b)=false:=rfl
theorem Uq {i:Int}:isNone (.int i)=false:=rfl
theorem Ur {x:Str}:isNone (.str x)=false:=rfl
theorem Us {l:List D}:isNone (.list l)=false:=rfl
theorem Ut {l:List D}:isNone (.tuple l)=false:=rfl
theorem Uu {l:List (D × D)}:isNone (.dict l)=false:=rfl
def EVL:=And.intro @Uh <| And.intro @VD <| And.intro @f_int <| And.intro @Ui <| And.intro @Uj <| And.intro @f_tup <| And.intro @Uk <| And.intro @Q5 <| And.intro @Q6 <| And.intro @Ul <| And.intro @Q7 <| And.intro @Q8 <| And.intro @jZ <| And.intro @Q9 <| And.intro @VF <| And.intro @Um <| And.intro @Q_ <| And.intro @Uo <| And.intro @VG <| And.intro @Uq <| And.intro @Ur <| And.intro @Us <| And.intro @Ut <| And.intro @Uu <| And.intro @bM.{0} <| And.intro @gO.{0} <| And.intro @bC.{0,0} <| And.intro @lA.{0,0} <| And.intro @cO.{0} <| And.intro @List.replicate_zero.{0} <| And.intro @List.cons_append.{0} <| And.intro @oR.{0} <| And.intro @cP.{0} <| And.intro @List.set_cons_zero.{0} <| And.intro @List.set_cons_succ.{0} <| And.intro @jK <| And.intro @if_true.{1} <| And.intro @decide_true <| And.intro @decide_false <| And.intro @Int.cast_ofNat_Int <| And.intro @cg <| And.intro @cL <| @Bool.and_self
def EV:=And.intro EVL <| And.intro @VB <| And.intro @Ug <| And.intro @Mf <| And.intro @Q0 <| And.intro @Jg <| And.intro @Jh <| And.intro @Tj (And.intro @Iw (And.intro @Iz (And.intro @IK (And.intro @IV (And.intro @Tp (And.intro @Vj (And.intro @Vk (And.intro @Vl (And.intro @Qn (And.intro @Qo (And.intro @v_op (And.intro @Qq (And.intro @Vm (And.intro @Qs (And.intro @Qt (And.intro @Ld (And.intro @Ga (And.intro @Qu (And.intro @IW (And.intro @Tq (And.intro @Le (And.intro @Qw (And.intro @Tr (And.intro @Lf (And.intro @v_c (And.intro @v_and (And.intro @Lg (And.intro @Lh (And.intro @v_or (And.intro @Qx (And.intro @Qy (And.intro @v_not (And.intro @Li (And.intro @Vo (And.intro @Qz (And.intro @QB (And.intro @I_ (And.intro @Ja (And.intro @Tt (And.intro @Lj (And.intro @Lk (And.intro @QC (And.intro @Jb (And.intro @v_ite (And.intro @Ln (And.intro @Lp (And.intro @Tv (And.intro @Lq (And.intro @Tw (And.intro @Lr (And.intro @Gb (And.intro @Tz (And.intro @Ls (And.intro @Lw (And.intro @Vp (And.intro @Vq (And.intro @TF (And.intro @TJ (And.intro @Lx (And.intro @TQ (And.intro @Ly (And.intro @Vr (And.intro @QD (And.intro @QF (And.intro @TX (And.intro @QG (And.intro @TY (And.intro @Lz (And.intro @T3 (And.intro @LC (And.intro @LK (And.intro @Gd (And.intro @Ge (And.intro @T4 (And.intro @LQ (And.intro @LR (And.intro @QH (And.intro @Jc (And.intro @T5 (And.intro @QJ (And.intro @QK (And.intro @T6 (And.intro @T7 (And.intro @Vs (And.intro @Vt (And.intro @Vu (And.intro @Vv (And.intro @Jd (And.intro @T8 (And.intro @T9 (And.intro @QL (And.intro @T_ (And.intro @Je (And.intro @Ea (And.intro @Ua (And.intro @Vw (And.intro @Ub (And.intro @Ad (And.intro @QM (And.intro @L_ (And.intro @Uc (And.intro @Ud (And.intro @Ma (And.intro @QT (And.intro @QV (And.intro @Vx (And.intro @QW (And.intro @Vy (And.intro @Vz (And.intro @QX (And.intro @QZ @Jf)))))))))))))))))))))))))))))))))))))))))))))))))))))))))))))))))))))))))))))))))))))))))))))))))))))))))))))))
end D3
namespace My
def mU (ns:List Int) (i:Int):Int :=
 if i < (ns.length:Int) then ns.getD i.toNat 0 % 1000000007
 else if ns=[] then 7919 * i + 5000011
 else ns.getD (i * 7 % (ns.length:Int)).toNat 0 % 1000000007 + 7919 * i
def divs (n:Int):Nat→Int
 | 0=>n
 | k + 1=>divs n k / 1000003
def Eb (c i k m:Int):Int :=
 (((c + 65537 * i + 3) * (1299709 + 15485863 * k) % 2147483629 * ((c + 65537 * i + 3) * (1299709 + 15485863 * k) % 2147483629) % 1500450271 + 104729) *
  ((c + 65537 * i + 3) * (1299709 + 15485863 * k) % 2147483629 * ((c + 65537 * i + 3) * (1299709 + 15485863 * k) % 2147483629) % 1500450271 + 104729)) % 715827883 / 64 % m
def iD (ns:List Int) (i k m:Int):Int :=
 if i < (ns.length:Int)∧10 ^ 40 ≤ ns.getD i.toNat 0∧0 < divs (ns.getD i.toNat 0) k.toNat then divs (ns.getD i.toNat 0) k.toNat % 1000003 % m
 else Eb (mU ns i) i k m
theorem dw (ns:List Int) (i k:Int) {m:Int} (h:0 < m):0 ≤ iD ns i k m∧iD ns i k m < m:=by
 unfold iD Eb
 split
 ·exact ⟨jy _ (by omega),iJ _ h⟩
 ·exact ⟨jy _ (by omega),iJ _ h⟩
theorem Gf {ns:List Int} {i k m:Int} (h1:i < (ns.length:Int)) (h2:10 ^ 40 ≤ ns.getD i.toNat 0) (h3:0 < divs (ns.getD i.toNat 0) k.toNat) :
 iD ns i k m=divs (ns.getD i.toNat 0) k.toNat % 1000003 % m:=by
 unfold iD
 rw [if_pos ⟨h1,h2,h3⟩]
theorem qJ {ns:List Int} {i k m:Int} (h:¬ (i < (ns.length:Int)∧10 ^ 40 ≤ ns.getD i.toNat 0∧0 < divs (ns.getD i.toNat 0) k.toNat)) :
 iD ns i k m=Eb (mU ns i) i k m:=by
 unfold iD
 rw [if_neg h]
end My
namespace Com
open PySem D3
noncomputable def eX:List D→Option D:=fnD 1 0 (d8 (su (dUn (gIs "int") (aF 0)) (Hj (dUn (gIs "bool") (aF 0)))))
noncomputable def iG:List D→Option D:=fnD 2 0 (b_ (sIf (bB (dOp gLt (aF 1) (dCall jm (aH (aF 0) (bh))))) (d8 (dOp qw (dOp gIx (aF 0) (aF 1)) (dC (.int 1000000007)))) (fO))
 (b_ (sIf (bB (dOp gEq (aF 0) (mC (bh)))) (d8 (dOp jk (dOp oA (dC (.int 7919)) (aF 1)) (dC (.int 5000011)))) (fO))
 (d8 (dOp jk (dOp qw (dOp gIx (aF 0) (dOp qw (dOp oA (aF 1) (dC (.int 7))) (dCall jm (aH (aF 0) (bh))))) (dC (.int 1000000007))) (dOp oA (dC (.int 7919)) (aF 1))))))
noncomputable def bL:List D→Option D:=fnD 4 2 (b_ (sIf (D3.jA (bB (dOp gLt (aF 1) (dCall jm (aH (aF 0) (bh))))) (bB (dOp gGe (dOp gIx (aF 0) (aF 1)) (dOp Pa (dC (.int 10)) (dC (.int 40)))))) (b_ (bW 4 (dOp gIx (aF 0) (aF 1)))
 (b_ (mD (kJ (aH (aF 2) (bh))) (gNl 5) (bW 4 (dOp zL (aF 4) (dC (.int 1000003)))))
 (sIf (bB (dOp gGt (aF 4) (dC (.int 0)))) (d8 (dOp qw (dOp qw (aF 4) (dC (.int 1000003))) (aF 3))) (fO)))) (fO))
 (b_ (bW 4 (dOp qw (dOp oA (dOp jk (dOp jk (dCall iG (aH (aF 0) (aH (aF 1) (bh)))) (dOp oA (dC (.int 65537)) (aF 1))) (dC (.int 3))) (dOp jk (dC (.int 1299709)) (dOp oA (dC (.int 15485863)) (aF 2)))) (dC (.int 2147483629))))
 (b_ (bW 4 (dOp jk (dOp qw (dOp oA (aF 4) (aF 4)) (dC (.int 1500450271))) (dC (.int 104729))))
 (d8 (dOp qw (dOp zL (dOp qw (dOp oA (aF 4) (aF 4)) (dC (.int 715827883))) (dC (.int 64))) (aF 3))))))
noncomputable def eZ:List D→Option D:=fnD 1 0 (d8 (su (dUn (gIs "int") (aF 0)) (Hj (dUn (gIs "bool") (aF 0)))))
noncomputable def jq:List D→Option D:=fnD 2 0 (d8 (m5 gLe gLt (dOp gIx (aF 0) (dC (.int 0))) (aF 1) (dOp gIx (aF 0) (dC (.int 1)))))
noncomputable def h_:List D→Option D:=fnD 2 0 (d8 (dCall jm (aH (gD (kI (aF 0)) (gNl 0) (bB (dCall jq (aH (aF 0) (aH (aF 1) (bh))))) (cR (aF 0)) 1 [1]) (bh))))
noncomputable def lZ:List D→Option D:=fnD 1 0 (d8 (gD (kI (aF 0)) (gNl 0) (jM) (cR (dOp gIx (aF 0) (dC (.int 0)))) 1 []))
noncomputable def jQ:List D→Option D:=fnD 3 2 (b_ (bW 3 (gD (kI (dCall lZ (aH (aF 0) (bh)))) (gNl 0) (bB (dOp gGt (aF 0) (aF 1))) (cR (aF 0)) 1 [2]))
 (b_ (mD (kI (dOp sE (mC (aH (aF 2) (bh))) (dCall rA (aH (aF 3) (bh))))) (gNl 4) (sIf (bB (dOp gGt (dCall h_ (aH (aF 0) (aH (aF 4) (bh)))) (aF 1))) (d8 (cR (aF 4))) (fO)))
 (d8 (dC (.none)))))
noncomputable def cU:List D→Option D:=fnD 1 0 (d8 (dTup (aH (cR (dOp gIx (aF 0) (dC (.int 0)))) (aH (cR (dOp gIx (aF 0) (dC (.int 1)))) (bh)))))
noncomputable def fL:List D→Option D:=fnD 5 2 (b_ (bW 5 (dCall uI (aH (dC (.int 399)) (aH (dOp jk (aF 4) (dCall bL (aH (aF 0) (aH (aF 1) (aH (aF 2) (aH (dOp gIx (mC (aH (dC (.int 3)) (aH (dC (.int 9)) (aH (dC (.int 24)) (aH (dC (.int 60)) (bh)))))) (aF 3)) (bh))))))) (bh)))))
 (b_ (bW 6 (dOp jk (dC (.int 1)) (dCall bL (aH (aF 0) (aH (aF 1) (aH (dOp jk (aF 2) (dC (.int 1))) (aH (dOp gIx (mC (aH (dC (.int 2)) (aH (dC (.int 6)) (aH (dC (.int 24)) (aH (dC (.int 60)) (bh)))))) (dCall bL (aH (aF 0) (aH (aF 1) (aH (dOp jk (aF 2) (dC (.int 2))) (aH (dC (.int 4)) (bh))))))) (bh))))))))
 (d8 (dTup (aH (cR (aF 5)) (aH (dCall uI (aH (dC (.int 400)) (aH (dOp jk (aF 5) (aF 6)) (bh)))) (aH (dC (.none)) (bh))))))))
noncomputable def gU:List D→Option D:=fnD 3 1 (b_ (bW 3 (dCall jQ (aH (gD (kI (aF 0)) (gNl 0) (jM) (dCall cU (aH (aF 0) (bh))) 1 []) (aH (aF 1) (aH (aF 2) (bh))))))
 (sIf (bB (dUn mO (aF 3))) ((fun _=>none)) (fO)))
noncomputable def cj:List D→Option D:=fnD 3 2 (b_ (bW 3 (dOp Hl (mC (aH (aF 2) (bh))) (aF 1)))
 (b_ (mD (kI (aF 0)) (gNl 4) (sIf (bB (dUn mO (dOp gIx (aF 4) (dC (.int 2))))) (rm 3 (dOp gIx (aF 4) (dC (.int 2))) (dOp gIx (aF 4) (dC (.int 1)))) (fO)))
 (d8 (qg (aF 3)))))
noncomputable def gj:List D→Option D:=fnD 2 0 (d8 (cR (dOp gIx (gD (uK (aF 0)) (gTn 2 (cM (gNl 0) (cM (gNl 1) (jN)))) (bB (dOp gLe (aF 1) (aF 2))) (cR (aF 0)) 2 [1]) (dC (.int 0)))))
noncomputable def gq:List D→Option D:=fnD 5 2 (b_ (bW 5 (dCall wK (aH (dC (.int 0)) (aH (dOp GQ (aF 3) (dCall bL (aH (aF 0) (aH (aF 1) (aH (aF 2) (aH (dC (.int 6)) (bh))))))) (bh)))))
 (b_ (bW 6 (dCall bL (aH (aF 0) (aH (aF 1) (aH (dOp jk (aF 2) (dC (.int 1))) (aH (dOp gIx (mC (aH (dC (.int 2)) (aH (dC (.int 9)) (aH (dC (.int 30)) (bh))))) (dCall bL (aH (aF 0) (aH (aF 1) (aH (dOp jk (aF 2) (dC (.int 2))) (aH (dC (.int 3)) (bh))))))) (bh)))))))
 (d8 (dTup (aH (cR (aF 5)) (aH (dCall uI (aH (dC (.int 400)) (aH (dOp jk (dOp jk (aF 3) (dC (.int 1))) (aF 6)) (bh)))) (aH (cR (aF 4)) (bh))))))))
noncomputable def fM:List D→Option D:=fnD 3 1 (b_ (mD (kI (dCall rA (aH (dOp sE (mC (aH (aF 2) (bh))) (gD (kI (aF 0)) (gNl 0) (jM) (dCall wK (aH (aF 1) (aH (dOp gIx (aF 0) (dC (.int 0))) (bh)))) 1 [2])) (bh)))) (gNl 3) (sIf (bB (dOp gGt (dCall jm (aH (gD (kI (aF 0)) (gNl 0) (D3.jA (bB (dOp gLe (dOp gIx (aF 0) (dC (.int 0))) (aF 1))) (bB (dOp gLt (aF 1) (dOp gIx (aF 0) (dC (.int 1)))))) (cR (aF 0)) 1 [3]) (bh))) (aF 1))) (d8 (cR (aF 3))) (fO)))
 (d8 (dC (.none))))
noncomputable def gW:List D→Option D:=fnD 4 7 (b_ (bW 4 (dCall bL (aH (aF 0) (aH (dC (.int 0)) (aH (dC (.int 0)) (aH (dC (.int 4)) (bh)))))))
 (b_ (bW 5 (mC (bh)))
 (b_ (mD (kJ (aH (aF 1) (bh))) (gNl 6) (sIf (D3.jA (bB (dOp gEq (dCall bL (aH (aF 0) (aH (dC (.int 1)) (aH (aF 6) (aH (dC (.int 3)) (bh)))))) (dC (.int 1)))) (bB (dOp gLt (dCall jm (aH (aF 5) (bh))) (aF 3)))) (b_ (bW 7 (dCall bL (aH (aF 0) (aH (dC (.int 1)) (aH (dOp jk (dC (.int 12)) (aF 6)) (aH (dOp jk (dCall jm (aH (aF 5) (bh))) (dC (.int 1))) (bh)))))))
 (vK 5 (aF 7) (dCall gq (aH (aF 0) (aH (dC (.int 2)) (aH (dOp oA (dC (.int 3)) (aF 6)) (aH (aF 2) (aH (aF 6) (bh))))))))) (fO)))
 (b_ (bW 8 (dOp gEq (dCall bL (aH (aF 0) (aH (dC (.int 0)) (aH (dC (.int 6)) (aH (dC (.int 6)) (bh)))))) (dC (.int 1))))
 (b_ (mD (kJ (aH (dOp gIx (mC (aH (dC (.int 10)) (aH (dC (.int 30)) (bh)))) (dCall Bh (aH (aF 8) (bh)))) (bh))) (gNl 9) (b_ (bW 10 (dCall fL (aH (aF 0) (aH (dOp jk (dC (.int 10)) (aF 9)) (aH (dC (.int 0)) (aH (aF 4) (aH (aF 2) (bh))))))))
 (b_ (bW 7 (dCall bL (aH (aF 0) (aH (dC (.int 4)) (aH (aF 9) (aH (dOp jk (dCall jm (aH (aF 5) (bh))) (dC (.int 1))) (bh)))))))
 (sIf (D3.jA (bB (dOp gLt (dCall jm (aH (aF 5) (bh))) (aF 3))) (bB (dUn oE (dCall fM (aH (dOp sE (aF 5) (mC (aH (aF 10) (bh)))) (aH (aF 1) (aH (aF 2) (bh)))))))) (vK 5 (aF 7) (aF 10)) (fO)))))
 (d8 (qg (aF 5))))))))
noncomputable def d_:List D→Option D:=fnD 2 0 (sIf (D3.n6 (bB (m5 gLe gLt (dC (.int 0)) (aF 1) (aF 0)))) ((fun _=>none)) (fO))
noncomputable def iM:List D→Option D:=fnD 3 0 (d8 (dOp gEq (dCall h_ (aH (gD (kI (aF 0)) (gNl 0) (jM) (dCall cU (aH (aF 0) (bh))) 1 []) (aH (aF 2) (bh)))) (aF 1)))
noncomputable def fj:List D→Option D:=fnD 4 1 (b_ (bW 4 (dOp gIx (aF 0) (aF 2)))
 (d8 (su (dOp gNe (aF 2) (aF 1)) (su (dUn oE (dOp gIx (aF 4) (dC (.int 2)))) (su (dOp gEq (dOp gIx (aF 4) (dC (.int 0))) (aF 3)) (dOp gLe (dOp gIx (aF 4) (dC (.int 1))) (dOp gIx (dOp gIx (aF 0) (aF 1)) (dC (.int 0)))))))))
noncomputable def fu:List D→Option D:=fnD 4 1 (b_ (bW 4 (gD (uK (aF 0)) (gTn 2 (cM (gNl 0) (cM (gNl 1) (jN)))) (bB (dCall fj (aH (aF 2) (aH (aF 3) (aH (aF 0) (aH (aF 4) (bh))))))) (cR (dTup (aH (dOp gIx (aF 1) (dC (.int 1))) (aH (aF 0) (bh))))) 2 [0,2,3]))
 (b_ (sIf (D3.n6 (bB (dCall iM (aH (aF 0) (aH (aF 1) (aH (aF 3) (bh))))))) (xM 4 (dTup (aH (dOp jk (aF 3) (dC (.int 1))) (aH (dC (.none)) (bh))))) (fO))
 (d8 (qg (aF 4)))))
noncomputable def jC:List D→Option D:=fnD 1 0 (d8 (cR (dOp gIx (mC (aH (dC (.int 0)) (aH (dCall bL (aH (aF 0) (aH (dC (.int 0)) (aH (dC (.int 1)) (aH (dC (.int 40)) (bh)))))) (aH (dCall bL (aH (aF 0) (aH (dC (.int 0)) (aH (dC (.int 1)) (aH (dC (.int 400)) (bh)))))) (aH (dC (.int 390)) (bh)))))) (dCall bL (aH (aF 0) (aH (dC (.int 0)) (aH (dC (.int 2)) (aH (dC (.int 4)) (bh)))))))))
noncomputable def fD:List D→Option D:=fnD 3 3 (b_ (mD (kI (aF 0)) (gTn 3 (cM (gNl 3) (cM (gNl 4) (cM (gNl 5) (jN))))) (sIf (D3.jA (bB (dUn mO (aF 5))) (bB (dOp gEq (aF 5) (aF 2)))) (d8 (cR (aF 4))) (fO)))
 (d8 (cR (aF 1))))
end Com
namespace Com
open PySem D3 My
theorem rN {ns:List Int} {i:Int} (h0:0 ≤ i) (h1:i < ns.length):pAt (ns.map PyData.int) i=some (.int (ns.getD i.toNat 0)):=by
 unfold pAt pIx
 rw [aJ,if_pos h0,if_pos h1,aL,aQ]
 have h:i.toNat < ns.length:=by omega
 rw [aZ h]
 simp [List.getD,h]
theorem mV {l:List D} {k:Nat}:pAt l (k:Int)=l[k]?:=by
 unfold pAt pIx
 rw [if_pos (by omega)]
 by_cases h:k < l.length
 ·rw [if_pos (by omega),aL]
  simp
 ·rw [if_neg (by omega),bA (by omega)]
  rfl
theorem at0 {a:D} {l:List D}:pAt (a :: l) 0=some a:=mV (k:=0)
theorem at1 {a b:D} {l:List D}:pAt (a :: b :: l) 1=some b:=mV (k:=1)
theorem yE {i j:Int} (h:0 < j):qw (.int i) (.int j)=some (.int (i % j)):=by
 show (if decide (j ≠ 0)=true then some (PyData.int (i.fmod j)) else none)=_
 rw [if_pos (dTr (by omega)),Int.fmod_eq_emod_of_nonneg i (by omega)]
theorem Ji {j:Int} (h:j.natAbs < 2 ^ 64):j.natAbs < 2 ^ 9000:=bN h (Nat.pow_le_pow_right (by decide) (by decide))
theorem VH {i j:Int} (h:0 < j) (h2:j.natAbs < 2 ^ 9000):zL (.int i) (.int j)=some (.int (i / j)):=by
 show (if Bg i j=true then some (PyData.int (i.fdiv j)) else none)=_
 have e:Bg i j=true:=by
  unfold Bg
  rw [aM]
  exact ⟨dTr (by omega),dTr h2⟩
 rw [if_pos e,Int.fdiv_eq_ediv_of_nonneg i (by omega)]
theorem Uv {i j:Int} (h:0 < j) (h2:j < 18446744073709551616):zL (.int i) (.int j)=some (.int (i / j)):=VH h (Ji (by omega))
theorem mulL {i j:Int} (h1 : -18446744073709551616 < i) (h2:i < 18446744073709551616):oA (.int i) (.int j)=some (.int (i * j)):=by
 show (if uH i j=true then some (PyData.int (i * j)) else none)=_
 have e:uH i j=true:=by
  unfold uH
  rw [dTr (show i.natAbs < 2 ^ 64 by omega)]
  rfl
 rw [if_pos e]
theorem mulR {i j:Int} (h1 : -18446744073709551616 < j) (h2:j < 18446744073709551616):oA (.int i) (.int j)=some (.int (i * j)):=by
 show (if uH i j=true then some (PyData.int (i * j)) else none)=_
 have e:uH i j=true:=by
  unfold uH
  rw [dTr (show j.natAbs < 2 ^ 64 by omega),Bool.or_true]
  rfl
 rw [if_pos e]
theorem Nu:Pa (.int 10) (.int 40)=some (.int (10 ^ 40)):=rfl
theorem sz {n:Nat} (h:n ≤ 1000000):n ≤ sizeLine:=bT h (by decide)
theorem shaped_ints (ns:List Int):SeqAt.shaped (.list (ns.map PyData.int))=true:=by
 have h1:∀ ns:List Int,PyData.canLayAll0 (ns.map PyData.int)=true:=fun ns=>by
  induction ns with
  | nil=>rfl
  | cons a r ih=>simp [PyData.canLayAll0,PyData.canLay0,ih]
 have h2:∀ ns:List Int,PyData.depthAll (ns.map PyData.int) ≤ 1:=fun ns=>by
  induction ns with
  | nil=>simp [PyData.depthAll]
  | cons a r ih=>simp [PyData.depthAll,PyData.depth];omega
 unfold SeqAt.shaped
 rw [aM]
 refine ⟨by simp [PyData.canLay0,h1],dTr ?_⟩
 have:=h2 ns
 simp only [PyData.depth]
 omega
theorem eq_empty (ns:List Int):gEq (.list (ns.map PyData.int)) (.list [])=some (.bool (decide (ns=[]))):=by
 unfold gEq
 rw [shaped_ints ns]
 cases ns with
 | nil=>rfl
 | cons a r=>rfl
theorem Gg {ns:List Int} {i:Int} (h0:0 ≤ i):iG [.list (ns.map .int),.int i]=some (.int (mU ns i)):=by
 unfold iG mU
 by_cases h:i < (ns.length:Int)
 ·rw [if_pos h]
  simp only [EV,reduceIte,au,aA,ao,aq,aB,aC,aD,lMp,dTr h,rN h0 h,yE (show (0:Int) < 1000000007 by decide)]
 ·rw [if_neg h]
  by_cases hn:ns=[]
  ·rw [if_pos hn]
   simp only [EV,reduceIte,au,aA,ao,aq,aB,aC,aD,lMp,dFa h,eq_empty,dTr hn,dU,mulL (show (-18446744073709551616:Int) < 7919 by decide) (show (7919:Int) < 18446744073709551616 by decide)]
  ·rw [if_neg hn]
   have hl:0 < ns.length:=by
    cases ns with
    | nil=>exact absurd rfl hn
    | cons _ _=>simp
   have h7:0 ≤ i * 7 % (ns.length:Int):=jy _ (by omega)
   have h8:i * 7 % (ns.length:Int) < (ns.length:Int):=iJ _ (by omega)
   simp only [EV,reduceIte,au,aA,ao,aq,aB,aC,aD,lMp,dFa h,eq_empty,dFa hn,dU,mulL (show (-18446744073709551616:Int) < 7919 by decide) (show (7919:Int) < 18446744073709551616 by decide),mulR (show (-18446744073709551616:Int) < 7 by decide) (show (7:Int) < 18446744073709551616 by decide),yE (show (0:Int) < 1000000007 by decide),yE (show (0:Int) < ns.length by omega),rN h7 h8]
theorem xg {l:D} {i k m:D} (n:Int):∀ (js:List D) (c:Nat) (y:Option U),(∀ j ∈ js,∃ x,j = .int x)→∃ y',iW (gNl 5) (bW 4 (dOp zL (aF 4) (dC (.int 1000003)))) js [some (.d l),some (.d i),some (.d k),some (.d m),some (.d (.int (divs n c))),y] =
 some (.nx [some (.d l),some (.d i),some (.d k),some (.d m),some (.d (.int (divs n (c + js.length)))),y'])
 | [],c,y,_=>⟨y,rfl⟩
 | j :: js,c,y,h=>by
  obtain ⟨y',e⟩:=xg (l:=l) (i:=i) (k:=k) (m:=m) n js (c + 1) (some (.d j)) fun j' hj=>h j' (aO _ hj)
  refine ⟨y',?_⟩
  rw [iW]
  simp only [EV,reduceIte,au,aA,ao,aq,aB,aC,aD,Uv (show (0:Int) < 1000003 by decide) (show (1000003:Int) < 18446744073709551616 by decide),aL]
  rw [show c + (js.length + 1)=c + 1 + js.length by omega,← e]
  rfl
theorem Gi (lo hi:Int):∀ j ∈ dZ lo hi,∃ x,j = .int x:=by
 intro j hj
 unfold dZ at hj
 obtain ⟨k,_,rfl⟩:=cG.mp hj
 exact ⟨_,rfl⟩
theorem dN {ns:List Int} {i k m:Int} (h0:0 ≤ i) (hk0:0 ≤ k) (hk:k ≤ 1000) (hm:0 < m):bL [.list (ns.map .int),.int i,.int k,.int m]=some (.int (iD ns i k m)):=by
 have rest:∀ x y:Option U,qFn ((b_ (bW 4 (dOp qw (dOp oA (dOp jk (dOp jk (dCall iG (aH (aF 0) (aH (aF 1) (bh)))) (dOp oA (dC (.int 65537)) (aF 1))) (dC (.int 3))) (dOp jk (dC (.int 1299709)) (dOp oA (dC (.int 15485863)) (aF 2)))) (dC (.int 2147483629))))
  (b_ (bW 4 (dOp jk (dOp qw (dOp oA (aF 4) (aF 4)) (dC (.int 1500450271))) (dC (.int 104729))))
  (d8 (dOp qw (dOp zL (dOp qw (dOp oA (aF 4) (aF 4)) (dC (.int 715827883))) (dC (.int 64))) (aF 3))))) [some (.d (.list (ns.map .int))),some (.d (.int i)),some (.d (.int k)),some (.d (.int m)),x,y])=some (.int (Eb (mU ns i) i k m)):=by
  intro x y
  have b1:0 ≤ (mU ns i + 65537 * i + 3) * (1299709 + 15485863 * k) % 2147483629:=jy _ (by decide)
  have b2:(mU ns i + 65537 * i + 3) * (1299709 + 15485863 * k) % 2147483629 < 2147483629:=iJ _ (by decide)
  have b3:0 ≤ (mU ns i + 65537 * i + 3) * (1299709 + 15485863 * k) % 2147483629 * ((mU ns i + 65537 * i + 3) * (1299709 + 15485863 * k) % 2147483629) % 1500450271:=jy _ (by decide)
  have b4:(mU ns i + 65537 * i + 3) * (1299709 + 15485863 * k) % 2147483629 * ((mU ns i + 65537 * i + 3) * (1299709 + 15485863 * k) % 2147483629) % 1500450271 < 1500450271:=iJ _ (by decide)
  simp only [EV,reduceIte,au,aA,ao,aq,aB,aC,aD,Gg h0,mulL (show (-18446744073709551616:Int) < 65537 by decide) (show (65537:Int) < 18446744073709551616 by decide),mulL (show (-18446744073709551616:Int) < 15485863 by decide) (show (15485863:Int) < 18446744073709551616 by decide),
   mulR (i:=mU ns i + 65537 * i + 3) (show (-18446744073709551616:Int) < 1299709 + 15485863 * k by omega) (show 1299709 + 15485863 * k < (18446744073709551616:Int) by omega),yE (show (0:Int) < 2147483629 by decide)]
  simp only [mulL (show (-18446744073709551616:Int) < (mU ns i + 65537 * i + 3) * (1299709 + 15485863 * k) % 2147483629 by omega) (show (mU ns i + 65537 * i + 3) * (1299709 + 15485863 * k) % 2147483629 < (18446744073709551616:Int) by omega)]
  simp only [EV,reduceIte,au,aA,ao,aq,aB,aC,aD,yE (show (0:Int) < 1500450271 by decide)]
  rw [mulL (by omega) (by omega)]
  simp only [EV,reduceIte,au,aA,ao,aq,aB,aC,aD,yE (show (0:Int) < 715827883 by decide),Uv (show (0:Int) < 64 by decide) (show (64:Int) < 18446744073709551616 by decide),yE hm]
  rfl
 unfold bL
 rw [T4]
 simp only [EV,reduceIte,au,aA,ao,aq,aB,aC,aD]
 by_cases h:i < (ns.length:Int)
 ·by_cases h2:10 ^ 40 ≤ ns.getD i.toNat 0
  ·simp only [EV,reduceIte,au,aA,ao,aq,aB,aC,aD,lMp,dTr h,rN h0 h,Nu,dTr h2]
   obtain ⟨y',e⟩:=xg (l:=.list (ns.map .int)) (i:=.int i) (k:=.int k) (m:=.int m) (ns.getD i.toNat 0) (dZ 0 k) 0 none (Gi 0 k)
   have el:0 + (dZ 0 k).length=k.toNat:=by simp [dZ]
   rw [el] at e
   have e':iW (gNl 5) (bW 4 (dOp zL (aF 4) (dC (.int 1000003)))) (dZ 0 k) [some (.d (.list (ns.map .int))),some (.d (.int i)),some (.d (.int k)),some (.d (.int m)),some (.d (.int (ns.getD i.toNat 0))),none] =
    some (.nx [some (.d (.list (ns.map .int))),some (.d (.int i)),some (.d (.int k)),some (.d (.int m)),some (.d (.int (divs (ns.getD i.toNat 0) k.toNat))),y']):=e
   rw [Cg (by omega) (by omega)]
   simp only [EV,reduceIte,au,aA,ao,aq,aB,aC,aD,e']
   by_cases h3:0 < divs (ns.getD i.toNat 0) k.toNat
   ·simp only [EV,reduceIte,au,aA,ao,aq,aB,aC,aD,dTr h3,yE (show (0:Int) < 1000003 by decide),yE hm]
    rw [Gf h h2 h3]
   ·simp only [EV,reduceIte,au,aA,ao,aq,aB,aC,aD,dFa h3]
    rw [qJ (fun z=>h3 z.2.2)]
    have:=rest (some (.d (.int (divs (ns.getD i.toNat 0) k.toNat)))) y'
    simp only [EV,reduceIte,au,aA,ao,aq,aB,aC,aD] at this
    exact this
  ·simp only [EV,reduceIte,au,aA,ao,aq,aB,aC,aD,lMp,dTr h,rN h0 h,Nu,dFa h2]
   rw [qJ (fun z=>h2 z.2.1)]
   have:=rest none none
   simp only [EV,reduceIte,au,aA,ao,aq,aB,aC,aD] at this
   exact this
 ·simp only [EV,reduceIte,au,aA,ao,aq,aB,aC,aD,lMp,dFa h]
  rw [qJ (fun z=>h z.1)]
  have:=rest none none
  simp only [EV,reduceIte,au,aA,ao,aq,aB,aC,aD] at this
  exact this
end Com
namespace Com
open PySem D3 My
theorem vg {α:Type} {g:FG} {c:FT} {e:FE} {δ:DS} (f:α→D) (p:α→Bool) (h:α→D):∀ l:List α,(∀ s ∈ l,∃ δ1,g (f s) δ=some δ1∧c δ1=some (p s)∧(p s=true→e δ1=some (h s)))→dW g c e δ (l.map f)=some ((l.filter p).map h)
 | [],_=>rfl
 | s :: r,hs=>by
  obtain ⟨δ1,e1,e2,e3⟩:=hs s aN
  have ih:=vg f p h r fun x hx=>hs x (aO _ hx)
  rw [bC,dW,e1,aL,e2,aL]
  by_cases c:p s=true
  ·rw [if_pos c,e3 c,aL,ih,List.filter_cons,if_pos c]
   rfl
  ·rw [if_neg c,ih,List.filter_cons,if_neg c]
theorem yF {α:Type} {g:FG} {c:FT} {e:FE} {δ:DS} (f:α→D) (h:α→D):∀ l:List α,(∀ s ∈ l,∃ δ1,g (f s) δ=some δ1∧c δ1=some true∧e δ1=some (h s))→dW g c e δ (l.map f)=some (l.map h)
 | [],_=>rfl
 | s :: r,hs=>by
  obtain ⟨δ1,e1,e2,e3⟩:=hs s aN
  rw [bC,dW,e1,aL,e2,aL,if_pos rfl,e3,aL,yF f h r fun x hx=>hs x (aO _ hx)]
  rfl
theorem gC {α:Type} (f:α→D) (h:∀ a,flat (f a)=true):∀ l:List α,flats (l.map f)=true
 | []=>rfl
 | a :: r=>by rw [bC,flats,h,gC f h r];rfl
theorem at2 {a b c:D} {l:List D}:pAt (a :: b :: c :: l) 2=some c:=mV (k:=2)
theorem at3 {a b c d:D} {l:List D}:pAt (a :: b :: c :: d :: l) 3=some d:=mV (k:=3)
theorem Mg {α:Type} (f:α→D) {l:List α} {i:Int} (h0:0 ≤ i) (h1:i < l.length):∃ a ∈ l,pAt (l.map f) i=some (f a):=by
 have hk:i.toNat < l.length:=by omega
 refine ⟨l[i.toNat],jX hk,?_⟩
 obtain ⟨k,rfl⟩:∃ k:Nat,i=(k:Int):=⟨i.toNat,by omega⟩
 rw [mV,aQ]
 simp only [gQ] at hk ⊢
 rw [aZ hk]
 rfl
theorem mW {m:Int}:(dZ 0 m).length=m.toNat:=by unfold dZ;rw [aJ,aY,qQ]
theorem pZ (m:Int):dZ 0 m=(aG m.toNat).map fun k:Nat=>PyData.int (k:Int):=by
 unfold dZ
 rw [qQ]
 apply ig
 intro k _
 rw [Int.zero_add]
theorem yG {m:Int} {i:Nat} {d:D} (h:(dZ 0 m)[i]? = some d):(i:Int) < m∧d = .int (i:Int):=by
 rw [pZ,aQ] at h
 by_cases hi:i < m.toNat
 ·rw [bU hi] at h
  cases h
  exact ⟨by omega,rfl⟩
 ·rw [bA (by simpa using hi)] at h
  cases h
theorem isList:D3.isT "list" "list" = true:=rfl
mutual
theorem eqv_refl:∀ d:D,d.canLay0=true→PyData.eqv d d=true
 | .none,_=>by simp [PyData.eqv]
 | .bool b,_=>by simp [PyData.eqv]
 | .int i,_=>by simp [PyData.eqv]
 | .str x,_=>by simp [PyData.eqv]
 | .list l,h=>by
  have:=eqvAll_refl l (by simpa [PyData.canLay0] using h)
  simpa [PyData.eqv] using this
 | .tuple l,h=>by
  have:=eqvAll_refl l (by simpa [PyData.canLay0] using h)
  simpa [PyData.eqv] using this
 | .dict l,h=>by simp [PyData.canLay0] at h
theorem eqvAll_refl:∀ l:List D,PyData.canLayAll0 l=true→PyData.eqvAll l l=true
 | [],_=>by simp [PyData.eqvAll]
 | d :: r,h=>by
  rw [PyData.canLayAll0,aM] at h
  rw [PyData.eqvAll,eqv_refl d h.1,eqvAll_refl r h.2]
  rfl
end
def ly (n:Nat) (d:D):Prop:=d.canLay0=true∧d.depth ≤ n
def lys (n:Nat) (l:List D):Prop:=PyData.canLayAll0 l=true∧PyData.depthAll l ≤ n
theorem Jj {n m:Nat} {d:D} (h:ly n d) (l:n ≤ m):ly m d:=⟨h.1,bT h.2 l⟩
theorem Ec {n:Nat}:lys n []:=⟨by simp [PyData.canLayAll0],by simp [PyData.depthAll]⟩
theorem rO {n:Nat} {d:D} {l:List D} (h:ly n d) (q:lys n l):lys n (d :: l) :=
 ⟨by rw [PyData.canLayAll0,h.1,q.1];rfl,by have:=h.2;have:=q.2;simp only [PyData.depthAll];omega⟩
theorem uh {α:Type} {n:Nat} (f:α→D) (h:∀ a,ly n (f a)):∀ l:List α,lys n (l.map f)
 | []=>Ec
 | a :: r=>rO (h a) (uh f h r)
theorem yH {n:Nat} {l:List D} (h:lys n l):ly (n + 1) (.list l):=⟨by simp [PyData.canLay0,h.1],by have:=h.2;simp only [PyData.depth];omega⟩
theorem Ra {n:Nat} {l:List D} (h:lys n l):ly (n + 1) (.tuple l):=⟨by simp [PyData.canLay0,h.1],by have:=h.2;simp only [PyData.depth];omega⟩
theorem vh {n:Nat} {i:Int}:ly (n + 1) (.int i):=⟨rfl,by simp [PyData.depth]⟩
theorem p7 {d:D} (h:ly 60 d):SeqAt.shaped d=true:=by
 unfold SeqAt.shaped
 rw [aM]
 exact ⟨h.1,dTr (by have:=h.2;omega)⟩
theorem eq_self {d:D} (h:ly 60 d):gEq d d=some (.bool true):=by
 unfold gEq
 rw [p7 h,eqv_refl d h.1]
 rfl
theorem ne_self {d:D} (h:ly 60 d):gNe d d=some (.bool false):=by
 unfold gNe
 rw [p7 h,eqv_refl d h.1]
 rfl
end Com
namespace Com
open PySem D3 My
def q (t b:Int):Rat:=mkRat t b.toNat
end Com
namespace Com
open PySem D3 My
def sm (k:Nat) (x:Int):Prop:=x.natAbs < 2 ^ k
end Com
namespace Com
open PySem D3 My
structure Tb where
 N:Nat
 w:Nat→Int
 B:Int
def sumTo (f:Nat→Int):Nat→Int
 | 0=>0
 | n + 1=>sumTo f n + f n
structure TbOk (t:Tb) (k:Nat):Prop where
 B0:0 < t.B
 Bs:sm (7 * k + 1) t.B
 w0:∀ j,0 ≤ t.w j
 wB:∀ j,t.w j ≤ t.B
 wz:∀ j,t.N ≤ j→t.w j=0
 N1:1 ≤ t.N
 N4:t.N ≤ 1 + 4 * k
 sum:sumTo t.w t.N=t.B
theorem comp_map {g:FG} {c:FT} {e:FE} {δ:DS} (h:D→D):∀ l:List D,(∀ d ∈ l,∃ δ1,g d δ=some δ1∧c δ1=some true∧e δ1=some (h d))→dW g c e δ l=some (l.map h)
 | [],_=>rfl
 | d :: r,hs=>by
  obtain ⟨δ1,e1,e2,e3⟩:=hs d aN
  rw [dW,e1,aL,e2,aL,if_pos rfl,e3,aL,comp_map h r fun x hx=>hs x (aO _ hx)]
  rfl
end Com
namespace Com
open PySem D3 My
end Com
namespace Com
open PySem D3 My
theorem sm1 (k:Nat) {x:Int} (h:x.natAbs ≤ 1):sm (k + 1) x:=by
 unfold sm
 rw [Nat.pow_succ]
 have:=Nat.one_le_two_pow (n:=k)
 omega
structure bd (k:Nat) (a:Rat):Prop where
 n:sm k a.num
 d:sm k (a.den:Int)
end Com
namespace Com
open PySem D3 My
end Com
namespace Com
open PySem D3 My
abbrev Sh:=Int × Int
def stD (s:Sh):D:=.tuple [.int s.1,.int s.2]
def Uw (s:Sh):Prop:=0 ≤ s.1∧s.1 < s.2∧s.2 ≤ 400
def hb (n:Int) (s:Sh):Bool:=decide (s.1 ≤ n) && decide (n < s.2)
def cnt (ss:List Sh) (n:Int):Nat:=(ss.filter (hb n)).length
theorem Mh (r:Sh):flat (stD r)=true:=rfl
theorem Ci (s:Sh) (n:Int):jq [stD s,.int n]=some (.bool (hb n s)):=by
 unfold jq stD hb
 by_cases h:s.1 ≤ n
 ·simp only [EV,reduceIte,au,aA,ao,aq,aB,aC,aD,at0,at1,dTr h,iT]
 ·simp only [EV,reduceIte,au,aA,ao,aq,aB,aC,aD,at0,at1,dFa h,fH]
theorem tO {g:FG} {c:FT} {e:FE} {δ:DS} (f:Sh→D) (p:Sh→Bool) (h:Sh→D):∀ l:List Sh,(∀ s ∈ l,∃ δ1,g (f s) δ=some δ1∧c δ1=some (p s)∧e δ1=some (h s))→dW g c e δ (l.map f)=some ((l.filter p).map h)
 | [],_=>rfl
 | s :: r,hs=>by
  obtain ⟨δ1,e1,e2,e3⟩:=hs s aN
  have ih:=tO f p h r fun x hx=>hs x (aO _ hx)
  rw [bC,dW,e1,aL,e2,aL]
  cases hp:p s with
  | true =>
   rw [if_pos rfl,e3,aL,ih,iw (by simpa using hp)]
   rfl
  | false =>
   rw [if_neg (by decide),ih,iy (by simpa using hp)]
theorem vm {ss:List Sh} (hl:ss.length ≤ 1000) (n:Int):h_ [.list (ss.map stD),.int n]=some (.int (cnt ss n:Int)):=by
 have C:=tO (g:=gNl 0) (c:=bB (dCall jq (aH (aF 0) (aH (aF 1) (bh))))) (e:=cR (aF 0)) (δ:=[none,some (.d (.int n))]) stD (hb n) stD ss (fun s _=>⟨[some (.d (stD s)),some (.d (.int n))],rfl,by simp only [EV,reduceIte,au,aA,ao,aq,aB,aC,aD,Ci],by simp only [EV,reduceIte,au,aA,ao,aq,aB,aC,aD,Mh]⟩)
 unfold h_
 simp only [EV,reduceIte,au,aA,ao,aq,aB,aC,aD,lMp,show ss.length ≤ 100000 by omega]
 rw [show jj 1 [1] [some (U.d (PyData.list (ss.map stD))),some (U.d (PyData.int n))]=[none,some (.d (.int n))] from rfl,C]
 simp only [EV,reduceIte,au,aA,ao,aq,aB,aC,aD,lMp]
 rfl
theorem Af {ss:List Sh} (hl:ss.length ≤ 1000):lZ [.list (ss.map stD)]=some (.list ((ss.map (·.1)).map .int)):=by
 unfold lZ
 have C:=comp_map (g:=gNl 0) (c:=D3.jM) (e:=cR (dOp gIx (aF 0) (dC (.int 0)))) (δ:=[none]) (fun d=>match d with | .tuple (a :: _)=>a | _=>.none) (ss.map stD) (fun d hd=>by
  obtain ⟨r,_,rfl⟩:=cG.mp hd
  refine ⟨[some (.d (stD r))],rfl,rfl,?_⟩
  unfold stD
  simp only [EV,reduceIte,au,aA,ao,aq,aB,aC,aD,at0])
 simp only [EV,reduceIte,au,aA,ao,aq,aB,aC,aD,lMp,show ss.length ≤ 100000 by omega]
 rw [show ∀ a:Option U,jj 1 [] [a]=[none] from fun _=>rfl,C]
 simp only [EV,reduceIte,au,aA,ao,aq,aB,aC,aD]
 rw [dR,dR]
 rfl
end Com
namespace Com
open PySem D3 My
end Com
namespace Com
open PySem D3 My
theorem zl0:0 ≤ sizeLine:=dU _
theorem zl1:1 ≤ sizeLine:=sz (by decide)
theorem zl2:2 ≤ sizeLine:=sz (by decide)
theorem zl3:3 ≤ sizeLine:=sz (by decide)
theorem zl4:4 ≤ sizeLine:=sz (by decide)
abbrev Ty:=Int × Int × Option Nat
def hD:Option Nat→D
 | none=>.none
 | some r=>.int (r:Int)
def yD (s:Ty):D:=.tuple [.int s.1,.int s.2.1,hD s.2.2]
theorem fli (i:Int):flat (.int i)=true:=rfl
theorem Ed (s:Ty):flat (yD s)=true:=by
 unfold yD hD
 obtain ⟨a,b,c⟩:=s
 cases c <;> rfl
theorem Nv {n:Nat} (o:Option Nat):ly (n + 1) (hD o):=by
 cases o with
 | none=>exact ⟨rfl,by simp [hD,PyData.depth]⟩
 | some r=>exact vh
theorem Ux {n:Nat} (s:Ty):ly (n + 2) (yD s):=Ra (rO vh (rO vh (rO (Nv _) Ec)))
def hol (x:Int) (s:Ty):Bool:=decide (s.1 ≤ x) && decide (x < s.2.1)
def gY (L:List Ty) (x:Int):Nat:=(L.filter (hol x)).length
theorem Gj {L L':List Ty} (p:L.Perm L') (x:Int):gY L x=gY L' x:=(p.filter _).length_eq
theorem Ef (L:List Ty) (x:Int):gY L x ≤ L.length:=cI _ _
theorem Cj (ns:List Int) {a m now:Int} (h0:0 ≤ a) (m0:0 ≤ m) (m1:m < 4) (n1:now ≤ 399) :
 ∃ s:Ty,(now ≤ s.1∧s.1 ≤ now + 59)∧(s.1 < s.2.1∧s.2.1 ≤ 400)∧s.2.2=none∧fL [.list (ns.map .int),.int a,.int 0,.int m,.int now]=some (yD s):=by
 have go:∀ A:Int,pAt [.int 3,.int 9,.int 24,.int 60] m=some (.int A)→0 < A→A ≤ 60→∃ s:Ty,(now ≤ s.1∧s.1 ≤ now + 59)∧(s.1 < s.2.1∧s.2.1 ≤ 400)∧s.2.2=none∧fL [.list (ns.map .int),.int a,.int 0,.int m,.int now]=some (yD s):=by
  intro A eA A0 A6
  have p1:=dN (ns:=ns) (i:=a) (k:=0) (m:=A) h0 (by decide) (by decide) A0
  have p2:=dN (ns:=ns) (i:=a) (k:=2) (m:=4) h0 (by decide) (by decide) (by decide)
  have r1:=dw ns a 0 A0
  have r2:=dw ns a 2 (m:=4) (by decide)
  generalize iD ns a 0 A=x1 at *
  generalize iD ns a 2 4=x2 at *
  have inner:∀ B:Int,pAt [.int 2,.int 6,.int 24,.int 60] x2=some (.int B)→0 < B→∃ s:Ty,(now ≤ s.1∧s.1 ≤ now + 59)∧(s.1 < s.2.1∧s.2.1 ≤ 400)∧s.2.2=none∧fL [.list (ns.map .int),.int a,.int 0,.int m,.int now]=some (yD s):=by
   intro B eB B0
   have p3:=dN (ns:=ns) (i:=a) (k:=1) (m:=B) h0 (by decide) (by decide) B0
   have r3:=dw ns a 1 B0
   generalize iD ns a 1 B=x3 at *
   refine ⟨(if now + x1 < 399 then now + x1 else 399,if (if now + x1 < 399 then now + x1 else 399) + (1 + x3) < 400 then (if now + x1 < 399 then now + x1 else 399) + (1 + x3) else 400,none),?_,?_,rfl,?_⟩
   ·dsimp only;refine ⟨?_,?_⟩ <;> split <;> omega
   ·dsimp only;refine ⟨?_,?_⟩ <;> split <;> split <;> omega
   ·have z1:(0:Int) + 1=1:=rfl
    have z2:(0:Int) + 2=2:=rfl
    unfold fL
    simp only [EV,reduceIte,au,aA,ao,aq,aB,aC,aD,zl4,zl3,fli,eA,p1,z1,z2,p2,eB,p3,Ea]
    rfl
  have:x2=0∨x2=1∨x2=2∨x2=3:=by omega
  rcases this with rfl | rfl | rfl | rfl
  ·exact inner 2 rfl (by decide)
  ·exact inner 6 rfl (by decide)
  ·exact inner 24 rfl (by decide)
  ·exact inner 60 rfl (by decide)
 have:m=0∨m=1∨m=2∨m=3:=by omega
 rcases this with rfl | rfl | rfl | rfl
 ·exact go 3 rfl (by decide) (by decide)
 ·exact go 9 rfl (by decide) (by decide)
 ·exact go 24 rfl (by decide) (by decide)
 ·exact go 60 rfl (by decide) (by decide)
theorem Ck (ns:List Int) {now:Int} {r:Nat} (hr:r ≤ 12) (n0:0 ≤ now) (n1:now ≤ 399) :
 ∃ b e:Int,(0 ≤ b∧b ≤ now)∧(now < e∧e ≤ 400)∧gq [.list (ns.map .int),.int 2,.int (3 * (r:Int)),.int now,.int (r:Int)]=some (yD (b,e,some r)):=by
 have p1:=dN (ns:=ns) (i:=2) (k:=3 * (r:Int)) (m:=6) (by decide) (by omega) (by omega) (by decide)
 have p2:=dN (ns:=ns) (i:=2) (k:=3 * (r:Int) + 2) (m:=3) (by decide) (by omega) (by omega) (by decide)
 have r1:=dw ns 2 (3 * (r:Int)) (m:=6) (by decide)
 have r2:=dw ns 2 (3 * (r:Int) + 2) (m:=3) (by decide)
 generalize iD ns 2 (3 * (r:Int)) 6=x1 at *
 generalize iD ns 2 (3 * (r:Int) + 2) 3=x2 at *
 have inner:∀ B:Int,pAt [.int 2,.int 9,.int 30] x2=some (.int B)→0 < B→∃ b e:Int,(0 ≤ b∧b ≤ now)∧(now < e∧e ≤ 400)∧gq [.list (ns.map .int),.int 2,.int (3 * (r:Int)),.int now,.int (r:Int)]=some (yD (b,e,some r)):=by
  intro B eB B0
  have p3:=dN (ns:=ns) (i:=2) (k:=3 * (r:Int) + 1) (m:=B) (by decide) (by omega) (by omega) B0
  have r3:=dw ns 2 (3 * (r:Int) + 1) B0
  generalize iD ns 2 (3 * (r:Int) + 1) B=x3 at *
  refine ⟨if now - x1 > 0 then now - x1 else 0,if now + 1 + x3 < 400 then now + 1 + x3 else 400,?_,?_,?_⟩
  ·refine ⟨?_,?_⟩ <;> split <;> omega
  ·refine ⟨?_,?_⟩ <;> split <;> omega
  ·unfold gq
   simp only [EV,reduceIte,au,aA,ao,aq,aB,aC,aD,zl3,fli,p1,p2,eB,p3,Ea,Je]
   rfl
 have:x2=0∨x2=1∨x2=2:=by omega
 rcases this with rfl | rfl | rfl
 ·exact inner 2 rfl (by decide)
 ·exact inner 9 rfl (by decide)
 ·exact inner 30 rfl (by decide)
theorem Jk (ns:List Int):∃ now:Int,0 ≤ now∧now ≤ 399∧jC [.list (ns.map .int)]=some (.int now):=by
 have p1:=dN (ns:=ns) (i:=0) (k:=1) (m:=40) (by decide) (by decide) (by decide) (by decide)
 have p2:=dN (ns:=ns) (i:=0) (k:=1) (m:=400) (by decide) (by decide) (by decide) (by decide)
 have p3:=dN (ns:=ns) (i:=0) (k:=2) (m:=4) (by decide) (by decide) (by decide) (by decide)
 have r1:=dw ns 0 1 (m:=40) (by decide)
 have r2:=dw ns 0 1 (m:=400) (by decide)
 have r3:=dw ns 0 2 (m:=4) (by decide)
 generalize iD ns 0 1 40=x1 at *
 generalize iD ns 0 1 400=x2 at *
 generalize iD ns 0 2 4=x3 at *
 have:x3=0∨x3=1∨x3=2∨x3=3:=by omega
 have fl:∀ i,flat (.int i)=true:=fun _=>rfl
 unfold jC
 rcases this with rfl | rfl | rfl | rfl
 ·exact ⟨0,by omega,by omega,by simp only [EV,reduceIte,au,aA,ao,aq,aB,aC,aD,zl4,p1,p2,p3,at0,fl]⟩
 ·exact ⟨x1,by omega,by omega,by simp only [EV,reduceIte,au,aA,ao,aq,aB,aC,aD,zl4,p1,p2,p3,at1,fl]⟩
 ·exact ⟨x2,by omega,by omega,by simp only [EV,reduceIte,au,aA,ao,aq,aB,aC,aD,zl4,p1,p2,p3,at2,fl]⟩
 ·exact ⟨390,by omega,by omega,by simp only [EV,reduceIte,au,aA,ao,aq,aB,aC,aD,zl4,p1,p2,p3,at3,fl]⟩
theorem Jl {g:FG} {b:FS} (Inv:DS→Prop) (P V:D→Prop):∀ (l:List D) (δ:DS),Inv δ→(∀ d ∈ l,∀ δ,Inv δ→∃ δ1,g d δ=some δ1∧((∃ δ',b δ1=some (.nx δ')∧Inv δ'∧P d)∨∃ v,b δ1=some (.rt v)∧V v)) →
 (∃ δ',iW g b l δ=some (.nx δ')∧Inv δ'∧∀ d ∈ l,P d)∨∃ v,iW g b l δ=some (.rt v)∧V v
 | [],δ,h,_=>.inl ⟨δ,rfl,h,fun _ z=>by cases z⟩
 | d :: l,δ,h,s=>by
  obtain ⟨δ1,e1,z⟩:=s d aN δ h
  rcases z with ⟨δ',e2,h2,hp⟩ | ⟨v,e2,hv⟩
  ·have e:iW g b (d :: l) δ=iW g b l δ':=by rw [iW,e1,aL,e2,aL]
   rw [e]
   rcases Jl Inv P V l δ' h2 (fun d hd=>s d (aO _ hd)) with ⟨δ2,a1,a2,a3⟩ | z
   ·exact .inl ⟨δ2,a1,a2,fun x hx=>by
     rcases bH.mp hx with rfl | y
     ·exact hp
     ·exact a3 x y⟩
   ·exact .inr z
  ·exact .inr ⟨v,by rw [iW,e1,aL,e2,aL],hv⟩
theorem Gm {L:List Ty} {M:Nat} {now:Int} (hl:L.length ≤ 62) :
 (fM [.list (L.map yD),.int (M:Int),.int now]=some .none∧∀ s ∈ L,gY L (if s.1 > now then s.1 else now) ≤ M)∨∃ x,fM [.list (L.map yD),.int (M:Int),.int now]=some (.int x)∧M < gY L x:=by
 have C:dW (gNl 0) (D3.jM) (dCall wK (aH (aF 1) (aH (dOp gIx (aF 0) (dC (.int 0))) (bh)))) (jj 1 [2] [some (.d (.list (L.map yD))),some (.d (.int (M:Int))),some (.d (.int now)),none]) (L.map yD)=some ((L.map fun s=>if s.1 > now then s.1 else now).map PyData.int):=by
  rw [dR]
  exact yF yD _ L fun s _=>⟨[some (.d (yD s)),some (.d (.int now))],rfl,rfl,by unfold yD;simp only [EV,reduceIte,au,aA,ao,aq,aB,aC,aD,at0,Je];rfl⟩
 have len:(L.map yD).length ≤ 100000:=by rw [aJ];omega
 have C2:∀ x:Int,∀ u:Option U,dW (gNl 0) (D3.jA (bB (dOp gLe (dOp gIx (aF 0) (dC (.int 0))) (aF 1))) (bB (dOp gLt (aF 1) (dOp gIx (aF 0) (dC (.int 1)))))) (cR (aF 0)) (jj 1 [3] [some (.d (.list (L.map yD))),some (.d (.int (M:Int))),some (.d (.int now)),some (.d (.int x))]) (L.map yD)=some ((L.filter (hol x)).map yD):=fun x u =>
  vg yD (hol x) yD L fun s _=>⟨[some (.d (yD s)),some (.d (.int x))],rfl,by
   obtain ⟨a,b,c⟩:=s
   unfold yD hol
   simp only [EV,reduceIte,au,aA,ao,aq,aB,aC,aD,at0,at1]
   cases decide (a ≤ x) <;> simp only [D3.qTA,iT,fH] <;> simp only [EV,reduceIte,au,aA,ao,aq,aB,aC,aD,at0,at1],fun _=>by simp only [EV,reduceIte,au,aA,ao,aq,aB,aC,aD,Ed]⟩
 let S:=now :: (L.map fun s=>if s.1 > now then s.1 else now)
 have gs:rA [.list (S.map PyData.int)]=some (.list ((nG S).map .int)):=by
  unfold rA
  have:S.length < 64:=by show (L.map _).length + 1 < 64;rw [aJ];omega
  simp only [pY,aL,if_pos this]
 have cat:sE (.list [.int now]) (.list ((L.map fun s=>if s.1 > now then s.1 else now).map PyData.int))=some (.list (S.map PyData.int)):=by
  rw [Ad,if_pos (by rw [aJ,aJ];show 1 + L.length ≤ _;omega)]
  rfl
 have F:=Jl (g:=(gNl 3)) (b:=(sIf (bB (dOp gGt (dCall jm (aH (gD (kI (aF 0)) (gNl 0) (D3.jA (bB (dOp gLe (dOp gIx (aF 0) (dC (.int 0))) (aF 1))) (bB (dOp gLt (aF 1) (dOp gIx (aF 0) (dC (.int 1)))))) (cR (aF 0)) 1 [3]) (bh))) (aF 1))) (d8 (cR (aF 3))) (fO))) (fun δ=>∃ u,δ=[some (.d (.list (L.map yD))),some (.d (.int (M:Int))),some (.d (.int now)),u]) (fun d=>∀ x,d = .int x→gY L x ≤ M) (fun v=>∃ x,v = .int x∧M < gY L x) ((nG S).map .int)
  [some (.d (.list (L.map yD))),some (.d (.int (M:Int))),some (.d (.int now)),none] ⟨none,rfl⟩ (by
   rintro d hd δ ⟨u,rfl⟩
   obtain ⟨x,hx,rfl⟩:=cG.mp hd
   refine ⟨[some (.d (.list (L.map yD))),some (.d (.int (M:Int))),some (.d (.int now)),some (.d (.int x))],rfl,?_⟩
   have c2:=C2 x none
   have lf:((L.filter (hol x)).map yD).length=gY L x:=by rw [aJ];rfl
   by_cases z:gY L x ≤ M
   ·left
    refine ⟨[some (.d (.list (L.map yD))),some (.d (.int (M:Int))),some (.d (.int now)),some (.d (.int x))],?_,⟨_,rfl⟩,fun y hy=>by cases hy;exact z⟩
    have:decide ((gY L x:Int) > (M:Int))=false:=dFa (by omega)
    simp only [EV,reduceIte,au,aA,ao,aq,aB,aC,aD,len,c2,lf,this]
   ·right
    refine ⟨.int x,?_,x,rfl,by omega⟩
    have:decide ((gY L x:Int) > (M:Int))=true:=dTr (by omega)
    have fl:flat (.int x)=true:=rfl
    simp only [EV,reduceIte,au,aA,ao,aq,aB,aC,aD,len,c2,lf,this,fl])
 rcases F with ⟨δ',e,⟨u,rfl⟩,hP⟩ | ⟨v,e,x,rfl,hx⟩
 ·left
  refine ⟨?_,fun s hs=>hP (.int (if s.1 > now then s.1 else now)) (List.mem_map_of_mem ((jE S).mem_iff.mpr (aO _ (cG.mpr ⟨s,hs,rfl⟩)))) _ rfl⟩
  unfold fM
  simp only [EV,reduceIte,au,aA,ao,aq,aB,aC,aD,zl1,len,C,cat,gs]
  rw [e]
  simp only [EV,reduceIte,au,aA,ao,aq,aB,aC,aD]
 ·right
  refine ⟨x,?_,hx⟩
  unfold fM
  simp only [EV,reduceIte,au,aA,ao,aq,aB,aC,aD,zl1,len,C,cat,gs]
  rw [e]
  simp only [EV,reduceIte,au,aA,ao,aq,aB,aC,aD]
end Com
namespace Com
open PySem D3 My
structure TOk (L:List Ty) (M:Nat) (now:Int):Prop where
 len:L.length ≤ 24
 ok:∀ s ∈ L,s.1 < s.2.1∧(∀ r,s.2.2=some r→r < M∧s.1 ≤ now∧now < s.2.1)∧(s.2.2=none→now ≤ s.1)
 nd:(L.filterMap (·.2.2)).Nodup
 full:∀ s ∈ L,gY L (if s.1 > now then s.1 else now) ≤ M
 bd:∀ s ∈ L,0 ≤ s.1∧s.2.1 ≤ 400
 nr:∀ s ∈ L,s.2.2=none→s.1 ≤ now + 59
def yI (k:Nat) (s:Ty) (L:List Ty):List Ty:=L.take k++s :: L.drop k
theorem xq (k:Nat) (s:Ty) (L:List Ty):(yI k s L).Perm (s :: L):=by
 unfold yI
 refine List.perm_middle.trans ?_
 rw [jU]
theorem Ag {s:Ty} {L:List Ty} {j:Int} (hl:L.length ≤ 1000) (h0:0 ≤ j) (h1:j ≤ 1000):∃ k,BJ j (yD s) (L.map yD)=some ((yI k s L).map yD):=by
 refine ⟨zX (L.map yD).length j,?_⟩
 unfold BJ
 rw [if_pos ⟨by rw [aJ];omega,by omega,by omega⟩]
 unfold yI
 rw [eE,bC,List.map_take,List.map_drop]
theorem Jm {L:List Ty} (h:∀ s ∈ L,∃ r,s.2.2=some r):(L.filterMap (·.2.2)).length=L.length:=by
 induction L with
 | nil=>rfl
 | cons s L ih =>
  obtain ⟨r,e⟩:=h s aN
  rw [dH,e]
  show _ + 1=_ + 1
  rw [ih fun s hs=>h s (aO _ hs)]
theorem Mi (x:Int):decide (x=1)=true∨decide (x=1)=false:=by cases decide (x=1) <;> simp
theorem Ah (ns:List Int) {M:Nat} {now:Int} (hM:M ≤ 12) (n0:0 ≤ now) (n1:now ≤ 399) :
 ∃ L:List Ty,TOk L M now∧(1 ≤ M→L ≠ [])∧gW [.list (ns.map .int),.int (M:Int),.int now,.int 24]=some (.list (L.map yD)):=by
 have p0:=dN (ns:=ns) (i:=0) (k:=0) (m:=4) (by decide) (by decide) (by decide) (by decide)
 have r0:=dw ns 0 0 (m:=4) (by decide)
 have p6:=dN (ns:=ns) (i:=0) (k:=6) (m:=6) (by decide) (by decide) (by decide) (by decide)
 generalize iD ns 0 0 4=mo at *
 generalize iD ns 0 6 6=wi at *
 have rg:nQ (some [.int (M:Int)])=some (dZ 0 (M:Int)):=Cg (by omega) (by omega)
 obtain ⟨bw,hb⟩:∃ bw,decide (wi=1)=bw:=⟨_,rfl⟩
 obtain ⟨δ1,e1,L1,u6,u7,l1,g1,d1,rfl⟩:=jo (g:=(gNl 6)) (b:=(sIf (D3.jA (bB (dOp gEq (dCall bL (aH (aF 0) (aH (dC (.int 1)) (aH (aF 6) (aH (dC (.int 3)) (bh)))))) (dC (.int 1)))) (bB (dOp gLt (dCall jm (aH (aF 5) (bh))) (aF 3)))) (b_ (bW 7 (dCall bL (aH (aF 0) (aH (dC (.int 1)) (aH (dOp jk (dC (.int 12)) (aF 6)) (aH (dOp jk (dCall jm (aH (aF 5) (bh))) (dC (.int 1))) (bh))))))) (vK 5 (aF 7) (dCall gq (aH (aF 0) (aH (dC (.int 2)) (aH (dOp oA (dC (.int 3)) (aF 6)) (aH (aF 2) (aH (aF 6) (bh))))))))) (fO)))
  (fun i δ=>∃ (L:List Ty) (u6 u7:Option U),L.length ≤ 24∧(∀ s ∈ L,∃ r,s.2.2=some r∧r < i∧(0 ≤ s.1∧s.1 ≤ now)∧(now < s.2.1∧s.2.1 ≤ 400))∧(L.filterMap (·.2.2)).Nodup ∧
   δ=[some (.d (.list (ns.map .int))),some (.d (.int (M:Int))),some (.d (.int now)),some (.d (.int 24)),some (.d (.int mo)),some (.d (.list (L.map yD))),u6,u7,none,none,none]) (dZ 0 (M:Int))
  [some (.d (.list (ns.map .int))),some (.d (.int (M:Int))),some (.d (.int now)),some (.d (.int 24)),some (.d (.int mo)),some (.d (.list [])),none,none,none,none,none]
  ⟨[],none,none,by decide,fun _ h=>(by cases h),oZ,rfl⟩ (by
   rintro i d δ hd ⟨L,u6,u7,l1,g1,d1,rfl⟩
   obtain ⟨hi,rfl⟩:=yG hd
   have g1':∀ s ∈ L,∃ r,s.2.2=some r∧r < i + 1∧(0 ≤ s.1∧s.1 ≤ now)∧(now < s.2.1∧s.2.1 ≤ 400):=fun s hs=>by
    obtain ⟨r,a,b,c⟩:=g1 s hs
    exact ⟨r,a,by omega,c⟩
   have q1:=dN (ns:=ns) (i:=1) (k:=(i:Int)) (m:=3) (by decide) (by omega) (by omega) (by decide)
   have q2:=dN (ns:=ns) (i:=1) (k:=12 + (i:Int)) (m:=(L.length:Int) + 1) (by decide) (by omega) (by omega) (by omega)
   have q2r:=dw ns 1 (12 + (i:Int)) (m:=(L.length:Int) + 1) (by omega)
   obtain ⟨b,e,gb,ge,gs⟩:=Ck ns (r:=i) (by omega) n0 n1
   generalize iD ns 1 (i:Int) 3=y1 at *
   generalize iD ns 1 (12 + (i:Int)) ((L.length:Int) + 1)=y2 at *
   obtain ⟨k,ek⟩:=Ag (s:=(b,e,some i)) (L:=L) (j:=y2) (by omega) q2r.1 (by omega)
   have ll:((L.map yD).length:Int)=(L.length:Int):=by rw [aJ]
   have m3:oA (.int 3) (.int (i:Int))=some (.int (3 * (i:Int))):=mulL (by decide) (by decide)
   rcases Mi y1 with z | z
   ·by_cases hlt:L.length < 24
    ·have z2:decide ((L.length:Int) < 24)=true:=dTr (by omega)
     refine ⟨_,[some (.d (.list (ns.map .int))),some (.d (.int (M:Int))),some (.d (.int now)),some (.d (.int 24)),some (.d (.int mo)),some (.d (.list ((yI k (b,e,some i) L).map yD))),some (.d (.int (i:Int))),some (.d (.int y2)),none,none,none],rfl,.inl ?_,?_⟩
     ·simp only [EV,reduceIte,au,aA,ao,aq,aB,aC,aD,q1,z,ll,z2,q2,m3,gs,HX,xZ,Pz ek]
     ·have pm:=xq k (b,e,some i) L
      refine ⟨yI k (b,e,some i) L,_,_,?_,fun s hs=>?_,?_,rfl⟩
      ·rw [pm.length_eq,bM];omega
      ·rcases bH.mp (pm.mem_iff.mp hs) with rfl | y
       ·exact ⟨i,rfl,by omega,gb,ge⟩
       ·exact g1' s y
      ·rw [(pm.filterMap _).nodup_iff]
       show (i :: L.filterMap _).Nodup
       refine bV.mpr ⟨fun y=>?_,d1⟩
       obtain ⟨s,hs,es⟩:=eU.mp y
       obtain ⟨r,a,c,_⟩:=g1 s hs
       rw [a] at es
       cases es
       omega
    ·have z2:decide ((L.length:Int) < 24)=false:=dFa (by omega)
     refine ⟨_,[some (.d (.list (ns.map .int))),some (.d (.int (M:Int))),some (.d (.int now)),some (.d (.int 24)),some (.d (.int mo)),some (.d (.list (L.map yD))),some (.d (.int (i:Int))),u7,none,none,none],rfl,.inl ?_,L,_,_,l1,g1',d1,rfl⟩
     simp only [EV,reduceIte,au,aA,ao,aq,aB,aC,aD,q1,z,ll,z2]
   ·refine ⟨_,[some (.d (.list (ns.map .int))),some (.d (.int (M:Int))),some (.d (.int now)),some (.d (.int 24)),some (.d (.int mo)),some (.d (.list (L.map yD))),some (.d (.int (i:Int))),u7,none,none,none],rfl,.inl ?_,L,_,_,l1,g1',d1,rfl⟩
    simp only [EV,reduceIte,au,aA,ao,aq,aB,aC,aD,q1,z])
 rw [mW] at g1
 have ok1:TOk L1 M now:=by
  have hs:∀ s ∈ L1,∃ r,s.2.2=some r:=fun s hs=>let ⟨r,a,_⟩:=g1 s hs;⟨r,a⟩
  have lM:L1.length ≤ M:=by
   rw [← Jm hs]
   have:=List.Nodup.length_le_of_subset (l₂:=aG M) d1 fun r hr=>by
    obtain ⟨s,h1,h2⟩:=eU.mp hr
    obtain ⟨r',a,b,_⟩:=g1 s h1
    rw [a] at h2
    cases h2
    exact aR.mpr (by omega)
   rwa [aY] at this
  refine ⟨l1,fun s h=>?_,d1,fun s h=>bT (Ef _ _) lM,fun s h=>(let ⟨_,_,_,c,d⟩:=g1 s h;⟨c.1,d.2⟩),fun s h e=>(by obtain ⟨r,a,_⟩:=g1 s h;rw [a] at e;cases e)⟩
  obtain ⟨r,a,b,c,d⟩:=g1 s h
  refine ⟨by omega,fun r' e=>?_,fun e=>(by rw [a] at e;cases e)⟩
  rw [a] at e
  cases e
  exact ⟨by omega,c.2,d.1⟩
 clear g1 d1 l1
 have loop:∀ N:Int,0 ≤ N→N ≤ 30→∃ δ',iW (gNl 9) (b_ (bW 10 (dCall fL (aH (aF 0) (aH (dOp jk (dC (.int 10)) (aF 9)) (aH (dC (.int 0)) (aH (aF 4) (aH (aF 2) (bh)))))))) (b_ (bW 7 (dCall bL (aH (aF 0) (aH (dC (.int 4)) (aH (aF 9) (aH (dOp jk (dCall jm (aH (aF 5) (bh))) (dC (.int 1))) (bh))))))) (sIf (D3.jA (bB (dOp gLt (dCall jm (aH (aF 5) (bh))) (aF 3))) (bB (dUn oE (dCall fM (aH (dOp sE (aF 5) (mC (aH (aF 10) (bh)))) (aH (aF 1) (aH (aF 2) (bh)))))))) (vK 5 (aF 7) (aF 10)) (fO)))) (dZ 0 N) [some (.d (.list (ns.map .int))),some (.d (.int (M:Int))),some (.d (.int now)),some (.d (.int 24)),some (.d (.int mo)),some (.d (.list (L1.map yD))),u6,u7,some (.d (.bool (bw))),none,none]=some (.nx δ') ∧
  ∃ (L:List Ty) (u7 u9 u10:Option U),TOk L M now∧(0 < N→1 ≤ M→L ≠ [])∧δ'=[some (.d (.list (ns.map .int))),some (.d (.int (M:Int))),some (.d (.int now)),some (.d (.int 24)),some (.d (.int mo)),some (.d (.list (L.map yD))),u6,u7,some (.d (.bool (bw))),u9,u10]:=by
  intro N N0 N1
  have:=jo (g:=(gNl 9)) (b:=(b_ (bW 10 (dCall fL (aH (aF 0) (aH (dOp jk (dC (.int 10)) (aF 9)) (aH (dC (.int 0)) (aH (aF 4) (aH (aF 2) (bh)))))))) (b_ (bW 7 (dCall bL (aH (aF 0) (aH (dC (.int 4)) (aH (aF 9) (aH (dOp jk (dCall jm (aH (aF 5) (bh))) (dC (.int 1))) (bh))))))) (sIf (D3.jA (bB (dOp gLt (dCall jm (aH (aF 5) (bh))) (aF 3))) (bB (dUn oE (dCall fM (aH (dOp sE (aF 5) (mC (aH (aF 10) (bh)))) (aH (aF 1) (aH (aF 2) (bh)))))))) (vK 5 (aF 7) (aF 10)) (fO))))) (fun i δ=>∃ (L:List Ty) (u7 u9 u10:Option U),TOk L M now∧(0 < i→1 ≤ M→L ≠ [])∧δ=[some (.d (.list (ns.map .int))),some (.d (.int (M:Int))),some (.d (.int now)),some (.d (.int 24)),some (.d (.int mo)),some (.d (.list (L.map yD))),u6,u7,some (.d (.bool (bw))),u9,u10]) (dZ 0 N) [some (.d (.list (ns.map .int))),some (.d (.int (M:Int))),some (.d (.int now)),some (.d (.int 24)),some (.d (.int mo)),some (.d (.list (L1.map yD))),u6,u7,some (.d (.bool (bw))),none,none] ⟨L1,u7,none,none,ok1,fun z=>absurd z (gw 0),rfl⟩ ?step
  ·obtain ⟨δ',e,L,a,b,c,h1,h2,h3⟩:=this
   exact ⟨δ',e,L,a,b,c,h1,fun z=>h2 (by rw [mW];omega),h3⟩
  rintro i d δ hd ⟨L,u7,u9,u10,ok,_,rfl⟩
  obtain ⟨hi,rfl⟩:=yG hd
  have l24:=ok.len
  obtain ⟨s,s1,s2,s3,es⟩:=Cj ns (a:=10 + (i:Int)) (m:=mo) (now:=now) (by omega) r0.1 r0.2 n1
  have q2:=dN (ns:=ns) (i:=4) (k:=(i:Int)) (m:=(L.length:Int) + 1) (by decide) (by omega) (by omega) (by omega)
  have q2r:=dw ns 4 (i:Int) (m:=(L.length:Int) + 1) (by omega)
  generalize iD ns 4 (i:Int) ((L.length:Int) + 1)=y2 at *
  obtain ⟨k,ek⟩:=Ag (s:=s) (L:=L) (j:=y2) (by omega) q2r.1 (by omega)
  have ll:((L.map yD).length:Int)=(L.length:Int):=by rw [aJ]
  by_cases hlt:L.length < 24
  ·have z2:decide ((L.length:Int) < 24)=true:=dTr (by omega)
   have cat:sE (.list (L.map yD)) (.list [yD s])=some (.list ((L++[s]).map yD)):=by
    rw [Ad,if_pos (by rw [aJ];show L.length + 1 ≤ _;omega),eE]
    rfl
   rcases Gm (L:=L++[s]) (M:=M) (now:=now) (by rw [bQ];show L.length + 1 ≤ 62;omega) with ⟨f1,f2⟩ | ⟨x,f1,f3⟩
   ·have nN:isNone .none=true:=rfl
    refine ⟨_,[some (.d (.list (ns.map .int))),some (.d (.int (M:Int))),some (.d (.int now)),some (.d (.int 24)),some (.d (.int mo)),some (.d (.list ((yI k s L).map yD))),u6,some (.d (.int y2)),some (.d (.bool (bw))),some (.d (.int (i:Int))),some (.d (yD s))],rfl,.inl ?_,?_⟩
    ·simp only [EV,reduceIte,au,aA,ao,aq,aB,aC,aD,es,ll,q2,z2,zl1,cat,f1,nN,HX,xZ,Pz ek]
    ·have pm:=xq k s L
     have pm2:(yI k s L).Perm (L++[s]):=pm.trans (List.perm_append_singleton s L).symm
     refine ⟨yI k s L,_,_,_,⟨?_,fun t ht=>?_,?_,fun t ht=>?_,fun t ht=>?_,fun t ht en=>?_⟩,fun _ _ z=>by (have:=pm.length_eq;rw [z] at this;cases this),rfl⟩
     ·rw [pm.length_eq,bM];omega
     ·rcases bH.mp (pm.mem_iff.mp ht) with rfl | y
      ·exact ⟨s2.1,fun r e=>(by rw [s3] at e;cases e),fun _=>s1.1⟩
      ·exact ok.ok t y
     ·rw [(pm.filterMap _).nodup_iff,dH,s3]
      exact ok.nd
     ·rw [Gj pm2]
      exact f2 t (pm2.mem_iff.mp ht)
     ·rcases bH.mp (pm.mem_iff.mp ht) with rfl | y
      ·exact ⟨Int.le_trans n0 s1.1,s2.2⟩
      ·exact ok.bd t y
     ·rcases bH.mp (pm.mem_iff.mp ht) with rfl | y
      ·exact s1.2
      ·exact ok.nr t y en
   ·have nN:isNone (.int x)=false:=rfl
    refine ⟨_,[some (.d (.list (ns.map .int))),some (.d (.int (M:Int))),some (.d (.int now)),some (.d (.int 24)),some (.d (.int mo)),some (.d (.list (L.map yD))),u6,some (.d (.int y2)),some (.d (.bool (bw))),some (.d (.int (i:Int))),some (.d (yD s))],rfl,.inl ?_,L,_,_,_,ok,fun _ m1 z=>by
     rw [z] at f3
     have:=Ef [s] x
     have f3:M < gY [s] x:=f3
     have:gY [s] x ≤ 1:=this
     omega,rfl⟩
    simp only [EV,reduceIte,au,aA,ao,aq,aB,aC,aD,es,ll,q2,z2,zl1,cat,f1,nN]
  ·have z2:decide ((L.length:Int) < 24)=false:=dFa (by omega)
   refine ⟨_,[some (.d (.list (ns.map .int))),some (.d (.int (M:Int))),some (.d (.int now)),some (.d (.int 24)),some (.d (.int mo)),some (.d (.list (L.map yD))),u6,some (.d (.int y2)),some (.d (.bool (bw))),some (.d (.int (i:Int))),some (.d (yD s))],rfl,.inl ?_,L,_,_,_,ok,fun _ _ z=>by rw [z] at hlt;exact hlt (by decide),rfl⟩
   simp only [EV,reduceIte,au,aA,ao,aq,aB,aC,aD,es,ll,q2,z2]
 have w10:pAt [.int 10,.int 30] (if bw=true then 1 else 0)=some (.int (if bw=true then 30 else 10)):=by
  cases bw <;> rfl
 have iN:Bh [.bool (bw)]=some (.int (if bw=true then 1 else 0)):=rfl
 obtain ⟨δ2,e2,L,v7,v9,v10,ok,hne,rfl⟩:=loop (if bw=true then 30 else 10) (by split <;> decide) (by split <;> decide)
 refine ⟨L,ok,hne (by split <;> decide),?_⟩
 clear hne
 have rg2:nQ (some [.int (if bw=true then 30 else 10)])=some (dZ 0 (if bw=true then 30 else 10)):=Cg (by split <;> decide) (by split <;> decide)
 have fl:flats (L.map yD)=true:=gC _ Ed L
 unfold gW
 simp only [EV,reduceIte,au,aA,ao,aq,aB,aC,aD,p0,zl0,rg]
 rw [e1]
 generalize (if bw=true then (30:Int) else 10)=NN at *
 simp only [EV,reduceIte,au,aA,ao,aq,aB,aC,aD,p6,hb,zl2,iN,w10,rg2]
 rw [e2]
 simp only [EV,reduceIte,au,aA,ao,aq,aB,aC,aD,jZ,fl]
theorem Cm (ns:List Int) {M:Nat} {now:Int} (hM:M ≤ 12) (n0:0 ≤ now) (n1:now ≤ 399):∃ L:List Ty,TOk L M now∧gW [.list (ns.map .int),.int (M:Int),.int now,.int 24]=some (.list (L.map yD)):=by
 obtain ⟨L,ok,_,e⟩:=Ah ns hM n0 n1
 exact ⟨L,ok,e⟩
end Com
namespace Xg
structure Ss where
 n:Nat
 fst:Nat→Int
 bhd:Nat→Int
 hld:Nat→Bool
 now:Int
structure Ss.Ok (S:Ss):Prop where
 lt:∀ k,k < S.n→S.fst k < S.bhd k
 h1:∀ k,k < S.n→S.hld k=true→S.fst k ≤ S.now∧S.now < S.bhd k
 h2:∀ k,k < S.n→S.hld k=false→S.now ≤ S.fst k
def Valid (S:Ss) (h:Nat→Int):Prop:=∀ k l,k < S.n→l < S.n→k ≠ l→S.fst k < S.bhd l→S.fst l < S.bhd k→h k ≠ h l
def hind (S:Ss) (t:Int) (k:Nat):Prop:=(S.hld k=true∨S.fst k < t)∧t < S.bhd k
def swp (S:Ss) (h:Nat→Int) (t a b:Int) (k:Nat):Int:=if S.fst k < t then h k else if h k=a then b else if h k=b then a else h k
structure Agr (S:Ss) (h o:Nat→Int) (done:Nat→Prop):Prop where
 held:∀ k,k < S.n→S.hld k=true→h k=o k
 don:∀ k,k < S.n→done k→h k=o k
section
variable {S:Ss} {h o:Nat→Int} {done:Nat→Prop} {p:Nat}
end
end Xg
namespace Xg
abbrev Sp3:=Int × Int × Int
def Gn (S:Ss) (h:Nat→Int) (st:List Sp3):Nat→Int:=st.foldl (fun g s=>swp S g s.1 s.2.1 s.2.2) h
structure Uw (S:Ss) (M:Int) (g:Nat→Int) (s:Sp3):Prop where
 now:S.now ≤ s.1
 ne:s.2.1 ≠ s.2.2
 a0:0 ≤ s.2.1
 a1:s.2.1 < M
 b0:0 ≤ s.2.2
 b1:s.2.2 < M
 nh:∀ k,k < S.n→(g k=s.2.1∨g k=s.2.2)→¬ hind S s.1 k
def Good (S:Ss) (M:Int) (h:Nat→Int) (st:List Sp3):Prop:=∀ i s,st[i]? = some s→Uw S M (Gn S h (st.take i)) s
variable {S:Ss} {M:Int} {h o:Nat→Int} {st:List Sp3} {s:Sp3} {done:List Nat} {p:Nat}
structure LInv (S:Ss) (M:Int) (h o:Nat→Int) (done:List Nat) (st:List Sp3):Prop where
 good:Good S M h st
 val:Valid S (Gn S h st)
 agr:Agr S (Gn S h st) o (· ∈ done)
 bd:∀ k,k < S.n→0 ≤ Gn S h st k∧Gn S h st k < M
 len:st.length ≤ done.length
theorem LInv.fin (I:LInv S M h o done st) (all:∀ k,k < S.n→S.hld k=false→k ∈ done):∀ k,k < S.n→Gn S h st k=o k:=fun k hk=>by
 cases z:S.hld k with
 | true=>exact I.agr.held k hk z
 | false=>exact I.agr.don k hk (all k hk z)
end Xg
namespace Com
open PySem D3 My
theorem Gp {n c:Nat} {l:List D} (hl:l.length=n) (h:c < n):pIx l.length (c:Int)=some c:=by
 unfold pIx
 rw [hl,if_pos (by omega),if_pos (by omega)]
 rfl
theorem vN {n c:Nat} (f:Nat→D) (h:c < n):pAt ((aG n).map f) (c:Int)=some (f c):=by
 rw [mV,aQ,bU h]
 rfl
theorem xr {n c:Nat} {d:D} (f:Nat→D):((aG n).map f).set c d=(aG n).map fun p=>if p=c then d else f p:=by
 apply d7
 intro i
 rw [mG,aQ,aQ]
 by_cases hi:i < n
 ·rw [bU hi,fW,fW]
  by_cases z:c=i
  ·subst z
   rw [if_pos rfl,if_pos (by simpa using hi),if_pos rfl]
  ·rw [if_neg z,if_neg (fun w=>z w.symm)]
 ·rw [bA (l:=aG n) (by simpa using hi)]
  by_cases z:c=i
  ·subst z
   rw [if_pos rfl,if_neg (by simpa using hi)]
   rfl
  ·rw [if_neg z]
   rfl
theorem Nx {n:Nat} {f g:Nat→D} (h:∀ k,k < n→f k=g k):(aG n).map f=(aG n).map g:=ig fun k hk=>h k (aR.mp hk)
def tAt (L:List Ty) (k:Nat):Ty:=L.getD k (0,0,none)
theorem fG {L:List Ty} {k:Nat} (h:k < L.length):tAt L k ∈ L:=by
 unfold tAt
 rw [bI,aZ h]
 exact jX h
theorem lJ (L:List Ty):L.map yD=(aG L.length).map fun k=>yD (tAt L k):=by
 apply d7
 intro i
 rw [aQ,aQ]
 by_cases h:i < L.length
 ·rw [bU h,aZ h]
  unfold tAt
  rw [fW,fW,bI,aZ h]
  rfl
 ·rw [bA (by omega),bA (by simpa using h)]
  rfl
def plD (n:Nat) (h:Nat→Int):List D:=(aG n).map fun k=>PyData.int (h k)
def ssT (L:List Ty) (now:Int):Xg.Ss:=⟨L.length,fun k=>(tAt L k).1,fun k=>(tAt L k).2.1,fun k=>(tAt L k).2.2.isSome,now⟩
def hB (s:Ty) (t:Int):Bool:=(s.2.2.isSome || decide (s.1 < t)) && decide (t < s.2.1)
theorem yJ (o:Option Nat):isNone (hD o) = !o.isSome:=by cases o <;> rfl
section
variable {L:List Ty} {now t a b:Int} {h:Nat→Int}
end
end Com
namespace Gr
structure GInv (M:Nat) (b e:Nat→Int) (done:List Nat) (seat:Nat→Option Nat) (fs:Nat→Int):Prop where
 out:∀ p,p ∉ done→seat p=none
 inn:∀ p ∈ done,∃ r,seat p=some r∧r < M∧e p ≤ fs r
 bk:∀ r,r < M→fs r ≤ 0∨∃ p ∈ done,seat p=some r∧e p=fs r
 dj:∀ p ∈ done,∀ q ∈ done,p ≠ q→seat p=seat q→e p ≤ b q∨e q ≤ b p
def holds (b e:Nat→Int) (x:Int) (p:Nat):Bool:=decide (b p ≤ x) && decide (x < e p)
theorem pick {α:Type} (P:Nat→α→Prop):∀ M,(∀ r,r < M→∃ a,P r a)→(∀ r r' a,P r a→P r' a→r=r')→∃ l:List α,l.length=M∧l.Nodup∧∀ a ∈ l,∃ r,r < M∧P r a
 | 0,_,_=>⟨[],rfl,oZ,fun _ h=>by cases h⟩
 | M + 1,h,u=>by
  obtain ⟨l,h1,h2,h3⟩:=pick P M (fun r hr=>h r (by omega)) u
  obtain ⟨a,ha⟩:=h M (by omega)
  refine ⟨a :: l,by rw [bM,h1],bV.mpr ⟨fun z=>?_,h2⟩,fun x hx=>?_⟩
  ·obtain ⟨r,hr,hp⟩:=h3 a z
   have:=u r M a hp ha
   omega
  ·rcases bH.mp hx with rfl | z
   ·exact ⟨M,by omega,ha⟩
   ·obtain ⟨r,hr,hp⟩:=h3 x z
    exact ⟨r,by omega,hp⟩
theorem GInv.step {M:Nat} {b e:Nat→Int} {done:List Nat} {seat:Nat→Option Nat} {fs:Nat→Int} {c r:Nat} (I:GInv M b e done seat fs) (hc:c ∉ done) (hr:r < M) (hf:fs r ≤ b c) (h1:b c < e c) :
 GInv M b e (done++[c]) (fun p=>if p=c then some r else seat p) (fun x=>if x=r then e c else fs x):=by
 have ne:∀ p ∈ done,p ≠ c:=fun p hp z=>hc (z ▸ hp)
 refine ⟨fun p hp=>?_,fun p hp=>?_,fun x hx=>?_,fun p hp q hq hpq hs=>?_⟩
 ·have h2:p ≠ c:=fun z=>hp (aP _ (by rw [z];exact aK.mpr rfl))
  rw [if_neg h2]
  exact I.out p fun z=>hp (aW _ z)
 ·rcases aV.mp hp with z | z
  ·obtain ⟨x,s1,s2,s3⟩:=I.inn p z
   refine ⟨x,by rw [if_neg (ne p z)];exact s1,s2,?_⟩
   by_cases hx:x=r
   ·rw [if_pos hx];rw [hx] at s3;omega
   ·rw [if_neg hx];exact s3
  ·have z:=aK.mp z
   exact ⟨r,by rw [if_pos z],hr,by rw [if_pos rfl,z];exact dI _⟩
 ·by_cases z:x=r
  ·exact .inr ⟨c,aP _ (aK.mpr rfl),by rw [if_pos rfl,z],by rw [if_pos z]⟩
  ·rw [if_neg z]
   rcases I.bk x hx with w | ⟨p,hp,w1,w2⟩
   ·exact .inl w
   ·exact .inr ⟨p,aW _ hp,by rw [if_neg (ne p hp)];exact w1,w2⟩
 ·rcases aV.mp hp with z | z
  ·rcases aV.mp hq with w | w
   ·rw [if_neg (ne p z),if_neg (ne q w)] at hs
    exact I.dj p z q w hpq hs
   ·have w:=aK.mp w
    rw [if_neg (ne p z),if_pos w] at hs
    obtain ⟨x,s1,_,s3⟩:=I.inn p z
    rw [s1] at hs
    injection hs with hs
    rw [hs] at s3
    left
    rw [w]
    omega
  ·have z:=aK.mp z
   rcases aV.mp hq with w | w
   ·rw [if_pos z,if_neg (ne q w)] at hs
    obtain ⟨x,s1,_,s3⟩:=I.inn q w
    rw [s1] at hs
    injection hs with hs
    rw [← hs] at s3
    right
    rw [z]
    omega
   ·exact absurd (z.trans (aK.mp w).symm) hpq
end Gr
namespace Pl
open Gr
structure PInv (n M:Nat) (b e:Nat→Int) (held:Nat→Option Nat) (done:List Nat) (seat:Nat→Option Nat):Prop where
 hl:∀ k r,k < n→held k=some r→seat k=some r
 out:∀ k,k < n→held k=none→k ∉ done→seat k=none
 inn:∀ k,k ∈ done→k < n→seat k ≠ none
 lt:∀ k r,k < n→seat k=some r→r < M
 dj:∀ k l r,k < n→l < n→k ≠ l→seat k=some r→seat l=some r→e k ≤ b l∨e l ≤ b k
variable {n M:Nat} {b e:Nat→Int} {held seat:Nat→Option Nat} {done:List Nat} {now:Int} {c r:Nat}
theorem start (h1:∀ k r,k < n→held k=some r→r < M) (h2:∀ k l r,k < n→l < n→held k=some r→held l=some r→k=l):PInv n M b e held [] held :=
 ⟨fun _ _ _ h=>h,fun _ _ h _=>h,fun _ h=>(by cases h),h1,fun k l r hk hl ne a b=>absurd (h2 k l r hk hl a b) ne⟩
theorem Gq (I:PInv n M b e held done seat) (hc:c < n) (hs:seat c=none) (h1:b c < e c) (hm:((aG n).filter (holds b e (b c))).length ≤ M) :
 ∃ r,r < M∧∀ k,k < n→holds b e (b c) k=true→seat k ≠ some r:=by
 apply Classical.byContradiction
 intro no
 have all:∀ r,r < M→∃ k,(k < n∧holds b e (b c) k=true∧seat k=some r):=fun r hr=>by
  apply Classical.byContradiction
  intro z
  exact no ⟨r,hr,fun k hk hh hs=>z ⟨k,hk,hh,hs⟩⟩
 obtain ⟨l,l1,l2,l3⟩:=pick (fun r k=>k < n∧holds b e (b c) k=true∧seat k=some r) M all (fun r r' p z z'=>by
  have:=z.2.2.symm.trans z'.2.2
  injection this)
 have nd:(c :: l).Nodup:=bV.mpr ⟨fun z=>(by obtain ⟨r,_,_,_,h⟩:=l3 c z;rw [hs] at h;cases h),l2⟩
 have sub:(c :: l) ⊆ (aG n).filter (holds b e (b c)):=fun p hp=>by
  rcases bH.mp hp with rfl | z
  ·exact bF.mpr ⟨aR.mpr hc,by unfold holds;rw [dTr (dI _),dTr h1];rfl⟩
  ·obtain ⟨r,_,hp,h3,_⟩:=l3 p z
   exact bF.mpr ⟨aR.mpr hp,h3⟩
 have:=List.Nodup.length_le_of_subset nd sub
 rw [bM,l1] at this
 omega
theorem step (I:PInv n M b e held done seat) (hc:c < n) (hs:seat c=none) (hcd:c ∉ done) (hd:∀ p ∈ done,b p ≤ b c) (g1:∀ k r,k < n→held k=some r→b k ≤ now) (g2:∀ k,k < n→held k=none→now ≤ b k)
 (hr:r < M) (hf:∀ k,k < n→holds b e (b c) k=true→seat k ≠ some r):PInv n M b e held (done++[c]) (fun k=>if k=c then some r else seat k):=by
 have hcn:held c=none:=by
  cases z:held c with
  | none=>rfl
  | some r=>rw [I.hl c r hc z] at hs;cases hs
 have key:∀ k,k < n→k ≠ c→seat k=some r→e k ≤ b c:=fun k hk ne z=>by
  apply Classical.byContradiction
  intro w
  by_cases y:b k ≤ b c
  ·exact hf k hk (by unfold holds;rw [dTr y,dTr (by omega:b c < e k)];rfl) z
  ·cases h:held k with
   | some x =>
    have:=g1 k x hk h
    have:=g2 c hc hcn
    omega
   | none =>
    by_cases hkd:k ∈ done
    ·have:=hd k hkd;omega
    ·rw [I.out k hk h hkd] at z;cases z
 refine ⟨fun k x hk h=>?_,fun k hk h hn=>?_,fun k hk hn=>?_,fun k x hk h=>?_,fun k l x hk hl ne h1 h2=>?_⟩
 ·rw [if_neg (fun z=>by rw [z,hcn] at h;cases h)]
  exact I.hl k x hk h
 ·have h2:k ≠ c:=fun z=>hn (aP _ (by rw [z];exact aK.mpr rfl))
  rw [if_neg h2]
  exact I.out k hk h fun z=>hn (aW _ z)
 ·by_cases z:k=c
  ·rw [if_pos z];simp
  ·rw [if_neg z]
   rcases aV.mp hk with w | w
   ·exact I.inn k w hn
   ·exact absurd (aK.mp w) z
 ·by_cases z:k=c
  ·rw [if_pos z] at h;cases h;exact hr
  ·rw [if_neg z] at h;exact I.lt k x hk h
 ·by_cases z:k=c
  ·rw [if_pos z] at h1
   cases h1
   by_cases y:l=c
   ·exact absurd (z.trans y.symm) ne
   ·rw [if_neg y] at h2
    rw [z]
    exact .inr (key l hl y h2)
  ·rw [if_neg z] at h1
   by_cases y:l=c
   ·rw [if_pos y] at h2
    cases h2
    rw [y]
    exact .inl (key k hk z h1)
   ·rw [if_neg y] at h2
    exact I.dj k l x hk hl ne h1 h2
theorem skip (I:PInv n M b e held done seat) (hs:seat c ≠ none):PInv n M b e held (done++[c]) seat :=
 ⟨I.hl,fun k hk h hn=>I.out k hk h fun z=>hn (aW _ z),fun k hk hn=>by
  rcases aV.mp hk with w | w
  ·exact I.inn k w hn
  ·rw [aK.mp w];exact hs,I.lt,I.dj⟩
end Pl
namespace XS
open PySem PySem.W PyProof.Rows
structure Weak (lt:Nat→Nat→Bool):Prop where
 irr:∀ a,lt a a=false
 tr:∀ a b c,lt a b=true→lt b c=true→lt a c=true
 nt:∀ a b c,lt a c=true→lt a b=true∨lt b c=true
def Rk (lt:Nat→Nat→Bool) (a b:Nat):Prop:=lt a b=true∨(lt b a=false∧a < b)
section
variable {lt:Nat→Nat→Bool} {p:Array Nat} {n:Nat}
theorem Weak.not (W:Weak lt) {a b c:Nat} (h1:lt a b=false) (h2:lt b c=false):lt a c=false:=by
 cases q:lt a c with
 | false=>rfl
 | true =>
  rcases W.nt a b c q with z | z
  ·rw [z] at h1;cases h1
  ·rw [z] at h2;cases h2
theorem Rk.trans (W:Weak lt) {a b c:Nat} (h1:Rk lt a b) (h2:Rk lt b c):Rk lt a c:=by
 rcases h1 with h1 | ⟨h1,l1⟩
 ·rcases h2 with h2 | ⟨h2,l2⟩
  ·exact .inl (W.tr _ _ _ h1 h2)
  ·rcases W.nt a c b h1 with z | z
   ·exact .inl z
   ·rw [z] at h2;cases h2
 ·rcases h2 with h2 | ⟨h2,l2⟩
  ·rcases W.nt b a c h2 with z | z
   ·rw [z] at h1;cases h1
   ·exact .inl z
  ·exact .inr ⟨W.not h2 h1,by omega⟩
abbrev ga (p:Array Nat) (i:Nat):Nat:=p.getD i 0
def Asc (lt:Nat→Nat→Bool) (p:Array Nat) (m:Nat):Prop:=∀ i j,i < j→j < m→Rk lt (ga p i) (ga p j)
structure Run (lt:Nat→Nat→Bool) (n:Nat) (p:Array Nat) (m:Nat):Prop where
 asc:Asc lt p m
 rest:∀ k,m ≤ k→k < n→ga p k=k
 low:∀ k,k < m→ga p k < m
theorem Run.snoc (W:Weak lt) {a:Nat} (R:Run lt n p a) (h1:1 ≤ a) (ha:a < n) (h:lt (ga p a) (ga p (a - 1))=false):Run lt n p (a + 1):=by
 have ea:=R.rest a (bf _) ha
 have la:=R.low (a - 1) (by omega)
 have st:Rk lt (ga p (a - 1)) (ga p a):=.inr ⟨h,by omega⟩
 refine ⟨fun i j hij hj=>?_,fun k hk hn=>R.rest k (by omega) hn,fun k hk=>?_⟩
 ·by_cases z:j < a
  ·exact R.asc i j hij z
  ·have:j=a:=by omega
   subst this
   by_cases y:i=j - 1
   ·rw [y];exact st
   ·exact (R.asc i (j - 1) (by omega) (by omega)).trans W st
 ·by_cases z:k < a
  ·have:=R.low k z;omega
  ·have:k=a:=by omega
   subst this
   omega
theorem Cp (W:Weak lt):∀ (f a:Nat),Run lt n p a→1 ≤ a→a + f ≤ n→Run lt n p (cY lt (kas_asc p f a))∧a ≤ cY lt (kas_asc p f a)∧cY lt (kas_asc p f a) ≤ a + f∧(cY lt (kas_asc p f a) < a + f→lt (ga p (cY lt (kas_asc p f a))) (ga p (cY lt (kas_asc p f a) - 1))=true)
 | 0,a,R,h1,hf=>⟨R,bf _,bf _,fun z=>by
  have z:a < a + 0:=z
  omega⟩
 | f + 1,a,R,h1,hf=>by
  have e:cY lt (kas_asc p (f + 1) a)=cY lt (if lt (ga p a) (ga p (a - 1))=true then .ret a else kas_asc p f (a + 1)):=rfl
  rw [e]
  by_cases c:lt (ga p a) (ga p (a - 1))=true
  ·rw [if_pos c]
   exact ⟨R,bf _,by show a ≤ a + (f + 1);omega,fun _=>c⟩
  ·rw [if_neg c]
   obtain ⟨q1,q2,q3,q4⟩:=Cp W f (a + 1) (R.snoc W h1 (by omega) (by simpa using c)) (by omega) (by omega)
   exact ⟨q1,by omega,by omega,fun z=>q4 (by omega)⟩
theorem vp (W:Weak lt) {k:Nat} (R:Run lt n p k):∀ (f l r:Nat),l ≤ r→r ≤ k→r - l ≤ f→(∀ i,i < l→lt (ga p k) (ga p i)=false)→(∀ i,r ≤ i→i < k→lt (ga p k) (ga p i)=true) →
 cY lt (kas_place p k f l r) ≤ k∧(∀ i,i < cY lt (kas_place p k f l r)→lt (ga p k) (ga p i)=false)∧(∀ i,cY lt (kas_place p k f l r) ≤ i→i < k→lt (ga p k) (ga p i)=true)
 | 0,l,r,h1,h2,h3,h4,h5=>by
  have:l=r:=by omega
  subst this
  exact ⟨h2,h4,h5⟩
 | f + 1,l,r,h1,h2,h3,h4,h5=>by
  by_cases z:l ≥ r
  ·have:l=r:=by omega
   subst this
   have e:kas_place p k (f + 1) l l = .ret l:=by unfold kas_place;rw [if_pos z]
   rw [e]
   exact ⟨h2,h4,h5⟩
  ·have e:cY lt (kas_place p k (f + 1) l r)=cY lt (if lt (ga p k) (ga p ((l + r) / 2))=true then kas_place p k f l ((l + r) / 2) else kas_place p k f ((l + r) / 2 + 1) r):=by
    conv=>lhs;unfold kas_place
    rw [if_neg z]
    rfl
   rw [e]
   have m1:l ≤ (l + r) / 2:=by omega
   have m2:(l + r) / 2 < r:=by omega
   by_cases c:lt (ga p k) (ga p ((l + r) / 2))=true
   ·rw [if_pos c]
    refine vp W R f l ((l + r) / 2) m1 (by omega) (by omega) h4 fun i hi hk=>?_
    by_cases y:i=(l + r) / 2
    ·rw [y];exact c
    ·rcases R.asc ((l + r) / 2) i (by omega) hk with q | ⟨q,_⟩
     ·exact W.tr _ _ _ c q
     ·rcases W.nt _ (ga p i) _ c with w | w
      ·exact w
      ·rw [w] at q;cases q
   ·rw [if_neg c]
    have c:lt (ga p k) (ga p ((l + r) / 2))=false:=by simpa using c
    refine vp W R f ((l + r) / 2 + 1) r (by omega) h2 (by omega) (fun i hi=>?_) h5
    by_cases y:i=(l + r) / 2
    ·rw [y];exact c
    ·cases q:lt (ga p k) (ga p i) with
     | false=>rfl
     | true =>
      rcases R.asc i ((l + r) / 2) (by omega) (by omega) with w | ⟨w,_⟩
      ·rw [W.tr _ _ _ q w] at c;cases c
      ·rcases W.nt _ (ga p ((l + r) / 2)) _ q with w2 | w2
       ·rw [w2] at c;cases c
       ·rw [w2] at w;cases w
theorem Rf {k l:Nat} (hk:k < p.size) (hl:l ≤ k) (i:Nat):ga (bubble p k (k - l)) i=if i=l then ga p k else if l < i∧i ≤ k then ga p (i - 1) else ga p i:=by
 have e:=getElem?_bubble hk (k - l) (by omega) i
 rw [show k - (k - l)=l by omega] at e
 have g:∀ (q:Array Nat) (i:Nat),ga q i=(q[i]?).getD 0:=fun q i=>by simp [ga,f9]
 rw [g,e,g p k,g p (i - 1),g p i]
 by_cases c1:i=l
 ·rw [if_pos c1,if_pos c1]
 ·rw [if_neg c1,if_neg c1]
  by_cases c2:l < i∧i ≤ k
  ·rw [if_pos c2,if_pos c2]
  ·rw [if_neg c2,if_neg c2]
theorem Jo (W:Weak lt) (hs:p.size=n) {k l:Nat} (R:Run lt n p k) (hk:k < n) (hl:l ≤ k) (h1:∀ i,i < l→lt (ga p k) (ga p i)=false) (h2:∀ i,l ≤ i→i < k→lt (ga p k) (ga p i)=true):Run lt n (bubble p k (k - l)) (k + 1):=by
 have ek:=R.rest k (bf _) hk
 have B:=Rf (p:=p) (k:=k) (by omega) hl
 refine ⟨fun i j hij hj=>?_,fun m hm hn=>?_,fun m hm=>?_⟩
 ·rw [B,B]
  by_cases c1:i=l
  ·rw [if_pos c1,if_neg (by omega),if_pos (by omega)]
   exact .inl (h2 (j - 1) (by omega) (by omega))
  ·rw [if_neg c1]
   by_cases c2:j=l
   ·rw [if_pos c2,if_neg (by omega)]
    exact .inr ⟨h1 i (by omega),by rw [ek];exact R.low i (by omega)⟩
   ·rw [if_neg c2]
    by_cases c3:l < i∧i ≤ k
    ·rw [if_pos c3,if_pos (by omega)]
     exact R.asc _ _ (by omega) (by omega)
    ·rw [if_neg c3]
     by_cases c4:l < j∧j ≤ k
     ·rw [if_pos c4]
      exact R.asc _ _ (by omega) (by omega)
     ·rw [if_neg c4]
      exact R.asc _ _ hij (by omega)
 ·rw [B,if_neg (by omega),if_neg (by omega)]
  exact R.rest m (by omega) hn
 ·rw [B]
  split
  ·omega
  ·split
   ·have:=R.low (m - 1) (by omega);omega
   ·have:=R.low m (by omega);omega
theorem Jp (W:Weak lt):∀ (f:Nat) (p:Array Nat) (k:Nat),p.size=n→Run lt n p k→k + f=n→Run lt n (cY lt (kas_bin f p k)) n
 | 0,p,k,hs,R,h=>by
  have:k=n:=by omega
  subst this
  exact R
 | f + 1,p,k,hs,R,h=>by
  have e:cY lt (kas_bin (f + 1) p k)=cY lt (kas_bin f (bubble p k (k - cY lt (kas_place p k k 0 k))) (k + 1)):=lN _ _
  rw [e]
  obtain ⟨q1,q2,q3⟩:=vp W R k 0 k (dU _) (bf _) (by omega) (fun i hi=>by omega) (fun i h1 h2=>by omega)
  exact Jp W f _ (k + 1) (by rw [bubble_size];exact hs) (Jo W hs R (by omega) q1 q2 q3) (by omega)
end
end XS
namespace XS
open PySem PySem.W PyProof.Rows
section
variable {lt:Nat→Nat→Bool} {p p':Array Nat} {n a q:Nat}
theorem Rk.nr (W:Weak lt) {a b:Nat} (h:Rk lt a b):lt b a=false:=by
 rcases h with h | ⟨h,_⟩
 ·cases z:lt b a with
  | false=>rfl
  | true=>have:=W.tr _ _ _ h z;rw [W.irr] at this;cases this
 ·exact h
theorem Cq {i j:Nat} (hj:j ≤ p.size) (k:Nat):ga (kas_rev p i j) k=if i ≤ k∧k < j then ga p (i + j - 1 - k) else ga p k:=by
 have e:=getElem?_mirror_all (i:=i) hj k
 have g:∀ (q:Array Nat) (i:Nat),ga q i=(q[i]?).getD 0:=fun q i=>by simp [ga,f9]
 rw [g,g p (i + j - 1 - k),g p k]
 unfold kas_rev
 rw [e]
 by_cases c:i ≤ k∧k < j
 ·rw [if_pos c,if_pos c]
 ·rw [if_neg c,if_neg c]
theorem vq (i j:Nat):(kas_rev p i j).size=p.size:=mirror_size _ _ _ _
structure Dn (lt:Nat→Nat→Bool) (n:Nat) (p:Array Nat) (a q:Nat):Prop where
 le:q + 1 ≤ a
 desc:∀ i j,i < j→j < a - (q + 1)→Rk lt (ga p j) (ga p i)
 strict:∀ i j,i < a - (q + 1)→a - (q + 1) ≤ j→j < a→lt (ga p j) (ga p i)=true
 run:∀ i j,a - (q + 1) ≤ i→i < j→j < a→lt (ga p i) (ga p j)=false∧lt (ga p j) (ga p i)=false∧ga p i < ga p j
 rest:∀ k,a ≤ k→k < n→ga p k=k
 low:∀ k,k < a→ga p k < a
structure Desc (lt:Nat→Nat→Bool) (n:Nat) (p:Array Nat) (a:Nat):Prop where
 desc:∀ i j,i < j→j < a→Rk lt (ga p j) (ga p i)
 rest:∀ k,a ≤ k→k < n→ga p k=k
 low:∀ k,k < a→ga p k < a
theorem Dn.turn (D:Dn lt n p a q) (h:∀ k,ga p' k=if a - (q + 1) ≤ k∧k < a then ga p (a - (q + 1) + a - 1 - k) else ga p k):Desc lt n p' a:=by
 have l:=D.le
 refine ⟨fun i j hij hj=>?_,fun k hk hn=>?_,fun k hk=>?_⟩
 ·by_cases c:j < a - (q + 1)
  ·rw [h,h,if_neg (by omega),if_neg (by omega)]
   exact D.desc i j hij c
  ·rw [h j,if_pos (by omega),h i]
   by_cases e:i < a - (q + 1)
   ·rw [if_neg (by omega)]
    exact .inl (D.strict _ _ e (by omega) (by omega))
   ·rw [if_pos (by omega)]
    obtain ⟨x,y,z⟩:=D.run (a - (q + 1) + a - 1 - j) (a - (q + 1) + a - 1 - i) (by omega) (by omega) (by omega)
    exact .inr ⟨y,z⟩
 ·rw [h,if_neg (by omega)];exact D.rest k hk hn
 ·rw [h]
  split
  ·exact D.low _ (by omega)
  ·exact D.low _ hk
theorem Desc.up (D:Desc lt n p a) (ha:a < n) (h:∀ i,i < a→lt (ga p a) (ga p i)=true):Dn lt n p (a + 1) 0:=by
 refine ⟨by omega,fun i j hij hj=>D.desc i j hij (by omega),fun i j hi h1 h2=>?_,fun i j h1 h2 h3=>by omega,fun k hk hn=>D.rest k (by omega) hn,fun k hk=>?_⟩
 ·have:j=a:=by omega
  subst this
  exact h i (by omega)
 ·by_cases z:k < a
  ·have:=D.low k z;omega
  ·have:k=a:=by omega
   subst this
   rw [D.rest k (bf _) ha];omega
def turned (p:Array Nat) (a q:Nat):Array Nat:=if q > 0 then kas_rev p (a - (q + 1)) a else p
theorem p8 (hs:p.size=n) (ha:a ≤ n) (l:q + 1 ≤ a) (k:Nat):ga (turned p a q) k=if a - (q + 1) ≤ k∧k < a then ga p (a - (q + 1) + a - 1 - k) else ga p k:=by
 unfold turned
 by_cases c:q > 0
 ·rw [if_pos c];exact Cq (by omega) k
 ·rw [if_neg c]
  by_cases e:a - (q + 1) ≤ k∧k < a
  ·rw [if_pos e,show a - (q + 1) + a - 1 - k=k by omega]
  ·rw [if_neg e]
theorem tQ:(turned p a q).size=p.size:=by
 unfold turned
 split
 ·exact vq _ _
 ·rfl
theorem Dn.below (W:Weak lt) (D:Dn lt n p a q) (hs:p.size=n) (ha:a < n) (h:lt (ga p a) (ga p (a - 1))=true) (i:Nat) (hi:i < a):lt (ga (turned p a q) a) (ga (turned p a q) i)=true:=by
 have l:=D.le
 have all:∀ i,i < a→lt (ga p a) (ga p i)=true:=fun i hi=>by
  by_cases c:i < a - (q + 1)
  ·exact W.tr _ _ _ h (D.strict i (a - 1) c (by omega) (by omega))
  ·by_cases e:i=a - 1
   ·rw [e];exact h
   ·rcases W.nt _ (ga p i) _ h with w | w
    ·exact w
    ·rw [(D.run i (a - 1) (by omega) (by omega) (by omega)).1] at w;cases w
 rw [p8 hs (by omega) l,if_neg (by omega),p8 hs (by omega) l]
 split
 ·exact all _ (by omega)
 ·exact all _ hi
theorem Dn.same (W:Weak lt) (D:Dn lt n p a q) (ha:a < n) (h1:lt (ga p a) (ga p (a - 1))=false) (h2:lt (ga p (a - 1)) (ga p a)=false):Dn lt n p (a + 1) (q + 1):=by
 have l:=D.le
 have ea:=D.rest a (bf _) ha
 refine ⟨by omega,fun i j hij hj=>D.desc i j hij (by omega),fun i j hi q1 q2=>?_,fun i j q1 q2 q3=>?_,fun k hk hn=>D.rest k (by omega) hn,fun k hk=>?_⟩
 ·by_cases z:j < a
  ·exact D.strict i j (by omega) (by omega) z
  ·have:j=a:=by omega
   subst this
   rcases W.nt _ (ga p j) _ (D.strict i (j - 1) (by omega) (by omega) (by omega)) with w | w
   ·rw [w] at h2;cases h2
   ·exact w
 ·by_cases z:j < a
  ·exact D.run i j (by omega) q2 z
  ·have:j=a:=by omega
   subst this
   have lo:=D.low i (by omega)
   by_cases e:i=j - 1
   ·subst e
    exact ⟨h2,h1,by omega⟩
   ·obtain ⟨x,y,_⟩:=D.run i (j - 1) (by omega) (by omega) (by omega)
    exact ⟨W.not x h2,W.not h1 y,by omega⟩
 ·by_cases z:k < a
  ·have:=D.low k z;omega
  ·have:k=a:=by omega
   subst this
   omega
theorem yK (W:Weak lt):∀ (f:Nat) (p:Array Nat) (a q:Nat),p.size=n→Dn lt n p a q→a + f ≤ n →
 (cY lt (kas_desc f p a q)).1.size=n∧Dn lt n (cY lt (kas_desc f p a q)).1 (cY lt (kas_desc f p a q)).2.1 (cY lt (kas_desc f p a q)).2.2∧(cY lt (kas_desc f p a q)).2.1 ≤ n
 | 0,p,a,q,hs,D,h=>⟨hs,D,h⟩
 | f + 1,p,a,q,hs,D,h=>by
  have e:cY lt (kas_desc (f + 1) p a q)=cY lt (if lt (ga p a) (ga p (a - 1))=true then (if q > 0 then kas_desc f (kas_rev p (a - (q + 1)) a) (a + 1) 0 else kas_desc f p (a + 1) 0) else .ask (ga p (a - 1)) (ga p a) fun d=>if d=true then .ret (p,a,q) else kas_desc f p (a + 1) (q + 1)):=rfl
  rw [e]
  by_cases c:lt (ga p a) (ga p (a - 1))=true
  ·rw [if_pos c]
   have e2:(if q > 0 then kas_desc f (kas_rev p (a - (q + 1)) a) (a + 1) 0 else kas_desc f p (a + 1) 0)=kas_desc f (turned p a q) (a + 1) 0:=by
    unfold turned
    split <;> rfl
   rw [e2]
   exact yK W f (turned p a q) (a + 1) 0 (by rw [tQ];exact hs) ((D.turn (p8 hs (by omega) D.le)).up (by omega) (D.below W hs (by omega) c)) (by omega)
  ·rw [if_neg c]
   have e3:cY lt (.ask (ga p (a - 1)) (ga p a) fun d=>if d=true then .ret (p,a,q) else kas_desc f p (a + 1) (q + 1))=cY lt (if lt (ga p (a - 1)) (ga p a)=true then .ret (p,a,q) else kas_desc f p (a + 1) (q + 1)):=rfl
   rw [e3]
   by_cases d:lt (ga p (a - 1)) (ga p a)=true
   ·rw [if_pos d]
    exact ⟨hs,D,by show a ≤ n;omega⟩
   ·rw [if_neg d]
    exact yK W f p (a + 1) (q + 1) hs (D.same W (by omega) (by simpa using c) (by simpa using d)) (by omega)
theorem Mj (W:Weak lt) (hs:p.size=n) (D:Desc lt n p a) (h1:1 ≤ a) (ha:a ≤ n) :
 (cY lt (kas_tail3 a n p)).2.size=n∧Run lt n (cY lt (kas_tail3 a n p)).2 (cY lt (kas_tail3 a n p)).1∧1 ≤ (cY lt (kas_tail3 a n p)).1∧(cY lt (kas_tail3 a n p)).1 ≤ n:=by
 have e:cY lt (kas_tail3 a n p)=(cY lt (kas_asc (kas_rev p 0 a) (n - a) a),kas_rev p 0 a):=lN _ _
 rw [e]
 have B:=Cq (p:=p) (i:=0) (j:=a) (by omega)
 have R:Run lt n (kas_rev p 0 a) a:=by
  refine ⟨fun i j hij hj=>?_,fun k hk hn=>?_,fun k hk=>?_⟩
  ·rw [B,B,if_pos (by omega),if_pos (by omega)]
   exact D.desc _ _ (by omega) (by omega)
  ·rw [B,if_neg (by omega)];exact D.rest k hk hn
  ·rw [B,if_pos (by omega)];exact D.low _ (by omega)
 obtain ⟨q1,q2,q3,_⟩:=Cp W (n - a) a R h1 (by omega)
 exact ⟨by rw [vq];exact hs,q1,by show 1 ≤ cY lt _;omega,by show cY lt _ ≤ n;omega⟩
theorem Eh (W:Weak lt) (hs:p.size=n) (D:Dn lt n p (a + 1) 0) (ha:a < n) :
 (cY lt (kas_descPart a n p)).2.size=n∧Run lt n (cY lt (kas_descPart a n p)).2 (cY lt (kas_descPart a n p)).1∧1 ≤ (cY lt (kas_descPart a n p)).1∧(cY lt (kas_descPart a n p)).1 ≤ n:=by
 obtain ⟨q1,q2,q3⟩:=yK W (n - (a + 1)) p (a + 1) 0 hs D (by omega)
 have e:cY lt (kas_descPart a n p)=cY lt (kas_tail3 (cY lt (kas_desc (n - (a + 1)) p (a + 1) 0)).2.1 n (turned (cY lt (kas_desc (n - (a + 1)) p (a + 1) 0)).1 (cY lt (kas_desc (n - (a + 1)) p (a + 1) 0)).2.1 (cY lt (kas_desc (n - (a + 1)) p (a + 1) 0)).2.2)):=by
  refine (lN _ _).trans ?_
  unfold turned
  split <;> rfl
 rw [e]
 have l:=q2.le
 exact Mj W (by rw [tQ];exact q1) (q2.turn (p8 q1 q3 l)) (by omega) q3
theorem Jq (W:Weak lt) (hs:p.size=n) (hn:1 ≤ n) (R:Run lt n p 1) :
 (cY lt (kas_count n p)).2.size=n∧Run lt n (cY lt (kas_count n p)).2 (cY lt (kas_count n p)).1∧1 ≤ (cY lt (kas_count n p)).1∧(cY lt (kas_count n p)).1 ≤ n:=by
 obtain ⟨q1,q2,q3,q4⟩:=Cp W (n - 1) 1 R (bf _) (by omega)
 have e:cY lt (kas_count n p)=_:=lN _ _
 rw [e]
 clear e
 generalize cY lt (kas_asc p (n - 1) 1)=m at q1 q2 q3 q4 ⊢
 by_cases c:(m == n)=true
 ·rw [if_pos c];exact ⟨hs,q1,q2,by show m ≤ n;omega⟩
 ·rw [if_neg c]
  have c:m < n:=by
   have:¬ m=n:=by simpa using c
   omega
  have dn:=q4 (by omega)
  have st:∀ p',(∀ k,ga p' k=if 0 ≤ k∧k < m then ga p (0 + m - 1 - k) else ga p k)→lt (ga p 0) (ga p (m - 1))=false→Dn lt n p' (m + 1) 0:=fun p' B z=>by
   have D:Desc lt n p' m:=by
    refine ⟨fun i j hij hj=>?_,fun k hk hn=>?_,fun k hk=>?_⟩
    ·rw [B,B,if_pos (by omega),if_pos (by omega)]
     exact q1.asc _ _ (by omega) (by omega)
    ·rw [B,if_neg (by omega)];exact q1.rest k hk hn
    ·rw [B,if_pos (by omega)];exact q1.low _ (by omega)
   have all:∀ i,i < m→lt (ga p m) (ga p i)=true:=fun i hi=>by
    rcases W.nt _ (ga p i) _ dn with w | w
    ·exact w
    ·by_cases y:i=0
     ·subst y;rw [z] at w;cases w
     ·rcases W.nt _ (ga p 0) _ w with v | v
      ·rw [(q1.asc 0 i (by omega) hi).nr W] at v;cases v
      ·rw [z] at v;cases v
   refine D.up c fun i hi=>?_
   rw [B,if_neg (by omega),B,if_pos (by omega)]
   exact all _ (by omega)
  by_cases g:m > 1
  ·rw [if_pos g]
   show _∧Run lt n (cY lt (if lt (ga p 0) (ga p (m - 1))=true then .ret (m,p) else kas_descPart m n (kas_rev p 0 m))).2 (cY lt (if lt (ga p 0) (ga p (m - 1))=true then .ret (m,p) else kas_descPart m n (kas_rev p 0 m))).1∧_
   by_cases z:lt (ga p 0) (ga p (m - 1))=true
   ·have e:cY lt (.ask (ga p 0) (ga p (m - 1)) fun c=>if c=true then .ret (m,p) else kas_descPart m n (kas_rev p 0 m))=(m,p):=by
     show cY lt (if lt (ga p 0) (ga p (m - 1))=true then .ret (m,p) else kas_descPart m n (kas_rev p 0 m))=_
     rw [if_pos z];rfl
    rw [e,if_pos z]
    exact ⟨hs,q1,q2,by show m ≤ n;omega⟩
   ·have e:cY lt (.ask (ga p 0) (ga p (m - 1)) fun c=>if c=true then .ret (m,p) else kas_descPart m n (kas_rev p 0 m))=cY lt (kas_descPart m n (kas_rev p 0 m)):=by
     show cY lt (if lt (ga p 0) (ga p (m - 1))=true then .ret (m,p) else kas_descPart m n (kas_rev p 0 m))=_
     rw [if_neg z]
    rw [e,if_neg z]
    exact Eh W (by rw [vq];exact hs) (st _ (Cq (by omega)) (by simpa using z)) c
  ·rw [if_neg g]
   have:m=1:=by omega
   subst this
   refine Eh W hs (st p (fun k=>?_) (W.irr _)) c
   split
   ·rw [show 0 + 1 - 1 - k=k by omega]
   ·rfl
theorem Ml (W:Weak lt) (hn:1 ≤ n):Run lt n (cY lt (kas_sort n)) n:=by
 have gr:∀ k,k < n→ga (gP (aG n)) k=k:=fun k hk=>by
  simp [ga,f9,hk]
 obtain ⟨q1,q2,q3,q4⟩:=Jq (p:=gP (aG n)) W (by simp) hn ⟨fun i j h1 h2=>by omega,fun k hk h=>gr k h,fun k hk=>by rw [gr k (by omega)];exact hk⟩
 have e:cY lt (kas_sort n)=_:=lN _ _
 rw [e]
 clear e
 generalize cY lt (kas_count n (gP (aG n)))=r at q1 q2 q3 q4 ⊢
 by_cases c:r.1 < n
 ·rw [if_pos c,show max r.1 1=r.1 by omega]
  exact Jp W _ _ _ q1 q2 (by omega)
 ·rw [if_neg c]
  have:r.1=n:=by omega
  rw [← this]
  rw [← this] at q2
  exact q2
theorem vC (W:Weak lt) (hn:1 ≤ n):(lY n lt).Pairwise (Rk lt):=by
 have R:=Ml W hn
 have z:(lY n lt).length=n:=by
  have:=(jd (n:=n) (by omega) lt).length_eq
  simpa using this
 rw [jr]
 intro i j hi hj hij
 have:=R.asc i j hij (by omega)
 have g:∀ k (h:k < (lY n lt).length),ga (cY lt (kas_sort n)) k=(lY n lt)[k]:=fun k h=>by
  unfold lY at h ⊢
  have h':k < (cY lt (kas_sort n)).size:=by simpa using h
  simp [ga,f9,h']
 rw [g i hi,g j hj] at this
 exact this
end
end XS
namespace XS
theorem Jr {k:Nat→Int × Int}:Weak fun i j=>vL (k i) (k j):=by
 refine ⟨fun a=>?_,fun a b c h1 h2=>?_,fun a b c h=>?_⟩
 ·simp [vL]
 ·revert h1 h2
  simp only [vL]
  generalize (k a).1=a1
  generalize (k a).2=a2
  generalize (k b).1=b1
  generalize (k b).2=b2
  generalize (k c).1=c1
  generalize (k c).2=c2
  split <;> split <;> split <;> simp only [decide_eq_true_eq] <;> omega
 ·revert h
  simp only [vL]
  generalize (k a).1=a1
  generalize (k a).2=a2
  generalize (k b).1=b1
  generalize (k b).2=b2
  generalize (k c).1=c1
  generalize (k c).2=c2
  split <;> split <;> split <;> simp only [decide_eq_true_eq] <;> omega
theorem Js (qs:List (Int × Int)):Weak (ltP qs):=Jr (k:=fun i=>qs.getD i (0,0))
theorem Jt {k:Nat→Int}:Weak fun i j=>decide (k i < k j):=by
 refine ⟨fun a=>?_,fun a b c h1 h2=>?_,fun a b c h=>?_⟩
 ·simp
 ·simp only [decide_eq_true_eq] at *;omega
 ·simp only [decide_eq_true_eq] at *;omega
end XS
namespace Com
open PySem D3 My XS
theorem Uy {k:Nat→Int} {i j:Nat} (h:Rk (fun i j=>decide (k i < k j)) i j):k i ≤ k j:=by
 rcases h with z | ⟨z,_⟩
 ·have z:=of_decide_eq_true z;omega
 ·have z:=of_decide_eq_false z;omega
theorem Ju {l:List Nat} {lt:Nat→Nat→Bool} (h0:0 < l.length):((lY l.length lt).map fun i=>l.getD i 0).Perm l:=by
 have e:(aG l.length).map (fun i=>l.getD i 0)=l:=by
  apply d7
  intro i
  rw [aQ]
  by_cases h:i < l.length
  ·rw [bU h,aZ h,fW,bI,aZ h]
   rfl
  ·rw [bA (by simpa using h),bA (by omega)]
   rfl
 have:=(jd h0 lt).map (fun i=>l.getD i 0)
 rw [e] at this
 exact this
theorem Cr (l:List Nat) (f:Nat→Int):∃ L':List Nat,qm (l.map fun p:Nat=>PyData.int (p:Int)) (l.map f)=L'.map (fun p:Nat=>PyData.int (p:Int))∧L'.Perm l∧L'.Pairwise fun a b=>f a ≤ f b:=by
 unfold qm
 rw [aJ]
 by_cases h1:l.length ≤ 1
 ·rw [if_pos h1]
  refine ⟨l,rfl,List.Perm.refl _,?_⟩
  match l,h1 with
  | [],_=>exact .nil
  | [_],_=>simp
 ·rw [if_neg h1]
  have gd:∀ i,i < l.length→(l.map f).getD i 0=f (l.getD i 0):=fun i hi=>by
   rw [bI,aQ,bI,aZ hi]
   rfl
  refine ⟨(lY l.length fun i j=>decide ((l.map f).getD i 0 < (l.map f).getD j 0)).map fun i=>l.getD i 0,?_,Ju (by omega),?_⟩
  ·rw [dR]
   apply ig
   intro i hi
   have hi':=aR.mp ((jd (n:=l.length) (by omega) _).mem_iff.mp hi)
   rw [bI,aQ,aZ hi']
   show _=PyData.int ((l.getD i 0:Nat):Int)
   rw [bI,aZ hi']
   rfl
  ·rw [qW]
   have W:Weak fun i j=>decide ((l.map f).getD i 0 < (l.map f).getD j 0):=Jt
   refine List.Pairwise.imp_of_mem ?_ (vC W (by omega))
   intro i j hi hj hr
   have hi':=aR.mp ((jd (n:=l.length) (by omega) _).mem_iff.mp hi)
   have hj':=aR.mp ((jd (n:=l.length) (by omega) _).mem_iff.mp hj)
   have:=Uy (k:=fun i=>(l.map f).getD i 0) hr
   rw [gd i hi',gd j hj'] at this
   exact this
theorem Ny (f g:Nat→Int):∀ l:List Nat,BP (l.map fun k=>PyData.tuple [.int (f k),.int (g k)])=some (l.map fun k=>(f k,g k))
 | []=>rfl
 | a :: l=>by
  rw [bC,BP,Ny f g l]
  rfl
theorem Cu (n:Nat) (f:Nat→Int) (hn:n < 64):∃ L':List Nat,uR [.list ((aG n).map fun k:Nat=>PyData.tuple [.int (f k),.int (k:Int)])]=some (.list (L'.map fun k:Nat=>PyData.tuple [.int (f k),.int (k:Int)]))∧L'.Perm (aG n)∧L'.Pairwise fun a b=>f a ≤ f b:=by
 by_cases h0:n=0
 ·subst h0
  exact ⟨[],rfl,List.Perm.refl _,.nil⟩
 have ei:i_ ((aG n).map fun k:Nat=>PyData.tuple [.int (f k),.int (k:Int)])=none:=by
  obtain ⟨m,rfl⟩:∃ m,n=m + 1:=⟨n - 1,by omega⟩
  rw [List.range_succ_eq_map,bC]
  rfl
 have ep:=Ny f (fun k:Nat=>(k:Int)) (aG n)
 have len:((aG n).map fun k:Nat=>PyData.tuple [.int (f k),.int (k:Int)]).length=n:=by rw [aJ,aY]
 unfold uR
 dsimp only
 rw [ei]
 dsimp only
 rw [ep,aL,len,if_pos hn]
 by_cases h1:n=1
 ·subst h1
  exact ⟨[0],rfl,List.Perm.refl _,by simp⟩
 ·rw [if_neg h1]
  have gd:∀ i,i < n→((aG n).map fun k:Nat=>(f k,(k:Int))).getD i (0,0)=(f i,(i:Int)):=fun i hi=>by
   rw [bI,aQ,bU hi]
   rfl
  refine ⟨lY n (ltP ((aG n).map fun k:Nat=>(f k,(k:Int)))),?_,jd (by omega) _,?_⟩
  ·congr 2
   apply ig
   intro i hi
   have hi':=aR.mp ((jd (n:=n) (by omega) _).mem_iff.mp hi)
   rw [bI,aQ,bU hi']
   rfl
  ·refine List.Pairwise.imp_of_mem ?_ (vC (Js _) (by omega))
   intro i j hi hj hr
   have hi':=aR.mp ((jd (n:=n) (by omega) _).mem_iff.mp hi)
   have hj':=aR.mp ((jd (n:=n) (by omega) _).mem_iff.mp hj)
   have key:∀ a b,a < n→b < n→ltP ((aG n).map fun k:Nat=>(f k,(k:Int))) a b=if f a=f b then decide ((a:Int) < b) else decide (f a < f b):=fun a b ha hb=>by
    unfold ltP vL
    rw [gd a ha,gd b hb]
   rcases hr with z | ⟨z,_⟩
   ·rw [key i j hi' hj'] at z
    split at z
    ·omega
    ·have:=of_decide_eq_true z;omega
   ·rw [key j i hj' hi'] at z
    split at z
    ·omega
    ·have:=of_decide_eq_false z;omega
theorem Cv {n:Nat} (f:Nat→D):jV ((aG n).map f)=(aG n).map fun p:Nat=>PyData.tuple [.int (p:Int),f p]:=by
 unfold jV
 apply d7
 intro i
 rw [iY,aQ,aQ]
 by_cases h:i < n
 ·rw [bU h]
  rfl
 ·rw [bA (by simpa using h)]
  rfl
theorem Uz {L:List Ty} (u:Option U) (ps:List Nat) (h:∀ p ∈ ps,p < L.length):dW (gNl 0) D3.jM dK0 (jj 1 [0] [some (.d (.list (L.map yD))),u]) (ps.map fun p:Nat=>PyData.int (p:Int))=some ((ps.map fun p=>(tAt L p).1).map PyData.int):=by
 rw [dR]
 exact yF (fun p:Nat=>PyData.int (p:Int)) (fun p:Nat=>PyData.int (tAt L p).1) ps fun p hp=>⟨[some (.d (.int (p:Int))),some (.d (.list (L.map yD)))],rfl,rfl,by
  show (pAt (L.map yD) (p:Int)).bind _=_
  rw [lJ,vN _ (h p hp)]
  rfl⟩
def opn (L:List Ty):List Nat:=(aG L.length).filter fun p=>!(tAt L p).2.2.isSome
theorem Nz {L:List Ty} (x:Int):gY L x=((aG L.length).filter (Gr.holds (fun k=>(tAt L k).1) (fun k=>(tAt L k).2.1) x)).length:=by
 have e:L=(aG L.length).map (tAt L):=by
  apply d7
  intro i
  rw [aQ]
  by_cases h:i < L.length
  ·rw [bU h,aZ h,fW]
   unfold tAt
   rw [bI,aZ h]
   rfl
  ·rw [bA (by omega),bA (by simpa using h)]
   rfl
 unfold gY
 conv=>lhs;rw [e]
 rw [List.filter_map,aJ]
 rfl
theorem rP {L:List Ty} (nd:(L.filterMap (·.2.2)).Nodup) {k l r:Nat} (hk:k < L.length) (hl:l < L.length) (z1:(tAt L k).2.2=some r) (z2:(tAt L l).2.2=some r):k=l:=by
 induction L generalizing k l with
 | nil=>cases hk
 | cons s L ih =>
  have nd':(L.filterMap (·.2.2)).Nodup:=by
   cases h:s.2.2 with
   | none=>rw [dH,h] at nd;exact nd
   | some x=>rw [dH,h] at nd;exact (bV.mp nd).2
  have no:∀ m,m < L.length→s.2.2=some r→(tAt L m).2.2=some r→False:=fun m hm a b=>by
   rw [dH,a] at nd
   exact (bV.mp nd).1 (eU.mpr ⟨_,fG hm,b⟩)
  cases k with
  | zero =>
   cases l with
   | zero=>rfl
   | succ l=>exact (no l (by simpa using hl) z1 z2).elim
  | succ k =>
   cases l with
   | zero=>exact (no k (by simpa using hk) z2 z1).elim
   | succ l=>exact congrArg (· + 1) (ih nd' (k:=k) (l:=l) (by simpa using hk) (by simpa using hl) z1 z2)
end Com
namespace Rch
structure GInv (z:Int) (M:Nat) (b e:Nat→Int) (done:List Nat) (seat:Nat→Option Nat) (fs:Nat→Int):Prop where
 out:∀ p,p ∉ done→seat p=none
 inn:∀ p ∈ done,∃ r,seat p=some r∧r < M∧e p ≤ fs r
 bk:∀ r,r < M→fs r ≤ z∨∃ p ∈ done,seat p=some r∧e p=fs r
 dj:∀ p ∈ done,∀ q ∈ done,p ≠ q→seat p=seat q→e p ≤ b q∨e q ≤ b p
theorem GInv.step {z:Int} {M:Nat} {b e:Nat→Int} {done:List Nat} {seat:Nat→Option Nat} {fs:Nat→Int} {c r:Nat} (I:GInv z M b e done seat fs) (hc:c ∉ done) (hr:r < M) (hf:fs r ≤ b c) (h1:b c < e c) :
 GInv z M b e (done++[c]) (fun p=>if p=c then some r else seat p) (fun x=>if x=r then e c else fs x):=by
 have ne:∀ p ∈ done,p ≠ c:=fun p hp z=>hc (z ▸ hp)
 refine ⟨fun p hp=>?_,fun p hp=>?_,fun x hx=>?_,fun p hp q hq hpq hs=>?_⟩
 ·have h2:p ≠ c:=fun z=>hp (aP _ (by rw [z];exact aK.mpr rfl))
  rw [if_neg h2]
  exact I.out p fun z=>hp (aW _ z)
 ·rcases aV.mp hp with z | z
  ·obtain ⟨x,s1,s2,s3⟩:=I.inn p z
   refine ⟨x,by rw [if_neg (ne p z)];exact s1,s2,?_⟩
   by_cases hx:x=r
   ·rw [if_pos hx];rw [hx] at s3;omega
   ·rw [if_neg hx];exact s3
  ·have z:=aK.mp z
   exact ⟨r,by rw [if_pos z],hr,by rw [if_pos rfl,z];exact dI _⟩
 ·by_cases z:x=r
  ·exact .inr ⟨c,aP _ (aK.mpr rfl),by rw [if_pos rfl,z],by rw [if_pos z]⟩
  ·rw [if_neg z]
   rcases I.bk x hx with w | ⟨p,hp,w1,w2⟩
   ·exact .inl w
   ·exact .inr ⟨p,aW _ hp,by rw [if_neg (ne p hp)];exact w1,w2⟩
 ·rcases aV.mp hp with z | z
  ·rcases aV.mp hq with w | w
   ·rw [if_neg (ne p z),if_neg (ne q w)] at hs
    exact I.dj p z q w hpq hs
   ·have w:=aK.mp w
    rw [if_neg (ne p z),if_pos w] at hs
    obtain ⟨x,s1,_,s3⟩:=I.inn p z
    rw [s1] at hs
    injection hs with hs
    rw [hs] at s3
    left
    rw [w]
    omega
  ·have z:=aK.mp z
   rcases aV.mp hq with w | w
   ·rw [if_pos z,if_neg (ne q w)] at hs
    obtain ⟨x,s1,_,s3⟩:=I.inn q w
    rw [s1] at hs
    injection hs with hs
    rw [← hs] at s3
    right
    rw [z]
    omega
   ·exact absurd (z.trans (aK.mp w).symm) hpq
theorem Jv {α:Type} (P:Nat→α→Prop):∀ rs:List Nat,rs.Nodup→(∀ r ∈ rs,∃ a,P r a)→(∀ r r' a,P r a→P r' a→r=r')→∃ l:List α,l.length=rs.length∧l.Nodup∧∀ a ∈ l,∃ r ∈ rs,P r a
 | [],_,_,_=>⟨[],rfl,oZ,fun _ h=>by cases h⟩
 | r0 :: rs,nd,h,u=>by
  obtain ⟨n1,n2⟩:=bV.mp nd
  obtain ⟨l,h1,h2,h3⟩:=Jv P rs n2 (fun r hr=>h r (aO _ hr)) u
  obtain ⟨a,ha⟩:=h r0 aN
  refine ⟨a :: l,by rw [bM,bM,h1],bV.mpr ⟨fun z=>?_,h2⟩,fun x hx=>?_⟩
  ·obtain ⟨r,hr,hp⟩:=h3 a z
   have:=u r r0 a hp ha
   exact n1 (this ▸ hr)
  ·rcases bH.mp hx with rfl | z
   ·exact ⟨r0,aN,ha⟩
   ·obtain ⟨r,hr,hp⟩:=h3 x z
    exact ⟨r,aO _ hr,hp⟩
def holds (b e:Nat→Int) (x:Int) (p:Nat):Bool:=decide (b p ≤ x) && decide (x < e p)
theorem holds_iff {b e:Nat→Int} {x:Int} {p:Nat}:holds b e x p=true↔b p ≤ x∧x < e p:=by
 unfold holds
 rw [aM,decide_eq_true_iff,decide_eq_true_iff]
def cnt (n:Nat) (b e:Nat→Int) (x:Int):Nat:=((aG n).filter (holds b e x)).length
theorem qb {n:Nat} {b e:Nat→Int} {x:Int} {p:Nat}:p ∈ (aG n).filter (holds b e x)↔p < n∧b p ≤ x∧x < e p:=by
 rw [bF,aR,holds_iff]
theorem Rg {n M:Nat} {b e h:Nat→Int} {x r:Int} (hv:∀ k l,k < n→l < n→k ≠ l→b k < e l→b l < e k→h k ≠ h l) (hb:∀ k,k < n→0 ≤ h k∧h k < (M:Int)) (r0:0 ≤ r) (r1:r < (M:Int))
 (no:∀ k,k < n→b k ≤ x→x < e k→h k ≠ r):cnt n b e x < M:=by
 have nd:(r :: ((aG n).filter (holds b e x)).map h).Nodup:=by
  refine bV.mpr ⟨fun z=>?_,?_⟩
  ·obtain ⟨k,hk,ek⟩:=cG.mp z
   obtain ⟨k1,k2,k3⟩:=qb.mp hk
   exact no k k1 k2 k3 ek
  ·refine qW.mpr (List.Pairwise.imp_of_mem ?_ (List.Pairwise.filter _ iz))
   intro p q hp hq hne
   obtain ⟨p1,p2,p3⟩:=qb.mp hp
   obtain ⟨q1,q2,q3⟩:=qb.mp hq
   exact hv p q p1 q1 hne (by omega) (by omega)
 have sub:(r :: ((aG n).filter (holds b e x)).map h) ⊆ (aG M).map fun r:Nat=>(r:Int):=fun y hy=>by
  have go:∀ y:Int,0 ≤ y→y < (M:Int)→y ∈ (aG M).map fun r:Nat=>(r:Int):=fun y y0 y1=>cG.mpr ⟨y.toNat,aR.mpr (by omega),by omega⟩
  rcases bH.mp hy with rfl | z
  ·exact go _ r0 r1
  ·obtain ⟨k,hk,ek⟩:=cG.mp z
   obtain ⟨k1,_,_⟩:=qb.mp hk
   rw [← ek]
   exact go _ (hb k k1).1 (hb k k1).2
 have:=List.Nodup.length_le_of_subset nd sub
 rw [bM,aJ,aJ,aY] at this
 exact this
structure Wd (n M:Nat) (b e:Nat→Int) (hd:Nat→Option Nat) (now:Int) (w r:Nat) (B:Int):Prop where
 lt:∀ k,k < n→b k < e k
 hh:∀ k s,k < n→hd k=some s→s < M∧b k ≤ now∧now < e k
 hn:∀ k,k < n→hd k=none→now ≤ b k
 one:∀ k l s,k < n→l < n→hd k=some s→hd l=some s→k=l
 full:∀ k,k < n→now ≤ b k→cnt n b e (b k) ≤ M
 wn:w < n
 wh:hd w=none
 rM:r < M
 beg:(∃ k,k < n∧hd k=some r∧B=e k)∨((∀ k,k < n→hd k ≠ some r)∧B=now)
section
variable {n M:Nat} {b e:Nat→Int} {hd:Nat→Option Nat} {now:Int} {w r:Nat} {B:Int}
def Go (n:Nat) (b e:Nat→Int) (hd:Nat→Option Nat) (w k:Nat):Prop:=k < n∧k ≠ w∧hd k=none∧e k ≤ b w
inductive Pth (n M:Nat) (b e:Nat→Int) (hd:Nat→Option Nat) (w:Nat) (B:Int):List Nat→Int→Prop
 | start:Pth n M b e hd w B [] B
 | gap {cs:List Nat} {x:Int}:Pth n M b e hd w B cs x→cnt n b e x ≠ M→x < b w→Pth n M b e hd w B cs (x + 1)
 | stay {cs:List Nat} {k:Nat}:Pth n M b e hd w B cs (b k)→Go n b e hd w k→Pth n M b e hd w B (cs++[k]) (e k)
theorem Pth.ge (W:Wd n M b e hd now w r B) {cs:List Nat} {x:Int} (h:Pth n M b e hd w B cs x):B ≤ x:=by
 induction h with
 | start=>exact dI _
 | gap _ _ _ ih=>omega
 | stay _ g ih =>
  have:=W.lt _ g.1
  omega
theorem Pth.mem (W:Wd n M b e hd now w r B) {cs:List Nat} {x:Int} (h:Pth n M b e hd w B cs x):∀ k ∈ cs,Go n b e hd w k∧B ≤ b k∧e k ≤ x:=by
 induction h with
 | start=>intro k hk;cases hk
 | gap _ _ _ ih=>intro k hk;obtain ⟨h1,h2,h3⟩:=ih k hk;exact ⟨h1,h2,by omega⟩
 | stay p g ih =>
  intro k hk
  rcases aV.mp hk with z | z
  ·obtain ⟨h1,h2,h3⟩:=ih k z
   have:=W.lt _ g.1
   exact ⟨h1,h2,by omega⟩
  ·rw [aK.mp z]
   exact ⟨g,p.ge W,dI _⟩
theorem Pth.pw (W:Wd n M b e hd now w r B) {cs:List Nat} {x:Int} (h:Pth n M b e hd w B cs x):cs.Pairwise fun p q=>e p ≤ b q:=by
 induction h with
 | start=>exact .nil
 | gap _ _ _ ih=>exact ih
 | stay p g ih=>exact iZ.mpr ⟨ih,jD _ _,fun a ha q hq=>by rw [aK.mp hq];exact (p.mem W a ha).2.2⟩
theorem Pth.cov (W:Wd n M b e hd now w r B) {cs:List Nat} {x:Int} (h:Pth n M b e hd w B cs x):∀ y,B ≤ y→y < x→(∃ k ∈ cs,b k ≤ y∧y < e k)∨cnt n b e y ≠ M:=by
 induction h with
 | start=>intro y h1 h2;omega
 | @gap cs x p g1 g2 ih =>
  intro y h1 h2
  by_cases z:y=x
  ·rw [z];exact .inr g1
  ·exact ih y h1 (by omega)
 | @stay cs k p g ih =>
  intro y h1 h2
  by_cases z:b k ≤ y
  ·exact .inl ⟨k,aP _ (aK.mpr rfl),z,h2⟩
  ·rcases ih y h1 (by omega) with ⟨k',m,q⟩ | q
   ·exact .inl ⟨k',aW _ m,q⟩
   ·exact .inr q
theorem reach (W:Wd n M b e hd now w r B) {h:Nat→Int} (hv:∀ k l,k < n→l < n→k ≠ l→b k < e l→b l < e k→h k ≠ h l) (hb:∀ k,k < n→0 ≤ h k∧h k < (M:Int)) (hf:∀ k s,k < n→hd k=some s→h k=(s:Int)) (hw:h w=(r:Int)) :
 B ≤ b w∧∀ K:Int→Prop,K B→(∀ x,B ≤ x→x < b w→K x→(cnt n b e x ≠ M→K (x + 1))∧∀ k,Go n b e hd w k→b k=x→K (e k))→K (b w):=by
 have rM:=W.rM
 have late:∀ k,k < n→hd k=none→h k=(r:Int)→B ≤ b k:=fun k k1 k2 k3=>by
  rcases W.beg with ⟨l,l1,l2,l3⟩ | ⟨_,l3⟩
  ·have kl:k ≠ l:=fun z=>by rw [z,l2] at k2;cases k2
   obtain ⟨_,q1,q2⟩:=W.hh l r l1 l2
   have q3:=W.hn k k1 k2
   have q4:=W.lt k k1
   rcases nU (b k) (e l) with z | z
   ·exact absurd (k3.trans (hf l r l1 l2).symm) (hv k l k1 l1 kl z (by omega))
   ·omega
  ·rw [l3];exact W.hn k k1 k2
 have hB:=late w W.wn W.wh hw
 refine ⟨hB,fun K K0 KS=>?_⟩
 have main:∀ m:Nat,∀ x:Int,x=B + (m:Int)→x ≤ b w→(∀ k,k < n→h k=(r:Int)→¬ (b k < x∧x < e k))→K x:=by
  intro m
  induction m using Nat.strongRecOn with
  | _ m ih =>
   intro x hx hg nb
   cases m with
   | zero =>
    have:x=B:=by omega
    rw [this];exact K0
   | succ m =>
    by_cases em:∃ k,k < n∧h k=(r:Int)∧b k ≤ x - 1∧x - 1 < e k
    ·obtain ⟨k,k1,k2,k3,k4⟩:=em
     have k5:e k=x:=by
      have:=nb k k1 k2
      omega
     have kn:hd k=none:=by
      cases z:hd k with
      | none=>rfl
      | some s =>
       have:=hf k s k1 z
       have sr:s=r:=by omega
       rw [sr] at z
       exfalso
       rcases W.beg with ⟨l,l1,l2,l3⟩ | ⟨l1,_⟩
       ·have:=W.one k l r k1 l1 z l2
        rw [this] at k5
        omega
       ·exact l1 k k1 z
     have kw:k ≠ w:=fun z=>by
      have:=W.lt w W.wn
      rw [z] at k5
      omega
     have kb:=late k k1 kn k2
     have lk:=W.lt k k1
     have:=ih (b k - B).toNat (by omega) (b k) (by omega) (by omega) (fun l l1 l2 l3=>by
      have kl:k ≠ l:=fun z=>by rw [z] at l3;omega
      exact hv k l k1 l1 kl (by omega) (by omega) (k2.trans l2.symm))
     have:=(KS (b k) kb (by omega) this).2 k ⟨k1,kw,kn,by omega⟩ rfl
     rwa [k5] at this
    ·have c:=Rg (x:=x - 1) (r:=(r:Int)) hv hb (by omega) (by omega) (fun k k1 k2 k3 k4=>em ⟨k,k1,k4,k2,k3⟩)
     have:=ih m (by omega) (x - 1) (by omega) (by omega) (fun k k1 k2 k3=>em ⟨k,k1,k2,by omega,k3.2⟩)
     have:=(KS (x - 1) (by omega) (by omega) this).1 (by omega)
     rwa [show x - 1 + 1=x by omega] at this
 refine main (b w - B).toNat (b w) (by omega) (dI _) fun k k1 k2 k3=>?_
 have kw:k ≠ w:=fun z=>by rw [z] at k3;omega
 have:=W.lt w W.wn
 exact hv k w k1 W.wn kw (by omega) (by omega) (k2.trans hw.symm)
theorem UG (W:Wd n M b e hd now w r B) (hB:B ≤ b w) {cs:List Nat} (p:Pth n M b e hd w B cs (b w)) {f:Nat→Int} (hf:∀ s,s < M→(∃ k,k < n∧hd k=some s∧f s=e k)∨((∀ k,k < n→hd k ≠ some s)∧f s=now)) (hr:f r=B) {hel:List Nat} (hh:∀ k,k ∈ hel↔k < n∧(hd k).isSome=true) (ho:∀ k,n ≤ k→hd k=none) :
 GInv now M b e (hel++(cs++[w])) (fun k=>if k ∈ cs++[w] then some r else hd k) (fun s=>if s=r then e w else f s):=by
 have lw:=W.lt w W.wn
 have rM:=W.rM
 have inC:∀ k ∈ cs++[w],k < n∧hd k=none∧B ≤ b k∧e k ≤ e w:=fun k hk=>by
  rcases aV.mp hk with z | z
  ·obtain ⟨g,g1,g2⟩:=p.mem W k z
   exact ⟨g.1,g.2.2.1,g1,by omega⟩
  ·rw [aK.mp z]
   exact ⟨W.wn,W.wh,hB,dI _⟩
 have ap:∀ k l,k ∈ cs++[w]→l ∈ cs++[w]→k ≠ l→e k ≤ b l∨e l ≤ b k:=by
  have pw:(cs++[w]).Pairwise fun p q=>e p ≤ b q:=iZ.mpr ⟨p.pw W,jD _ _,fun a ha q hq=>by rw [aK.mp hq];exact (p.mem W a ha).2.2⟩
  intro k l hk hl kl
  obtain ⟨i,hi,ei⟩:=lu hk
  obtain ⟨j,hj,ej⟩:=lu hl
  rcases Nat.lt_trichotomy i j with z | z | z
  ·left
   have:=jr.mp pw i j hi hj z
   rwa [ei,ej] at this
  ·subst z
   exact absurd (ei.symm.trans ej) kl
  ·right
   have:=jr.mp pw j i hj hi z
   rwa [ei,ej] at this
 have held:∀ k s,k < n→hd k=some s→k ∉ cs++[w]:=fun k s _ k2 z=>by
  rw [(inC k z).2.1] at k2;cases k2
 have heldB:∀ k,k < n→hd k=some r→e k=B:=fun k k1 k2=>by
  rcases W.beg with ⟨l,l1,l2,l3⟩ | ⟨l1,_⟩
  ·rw [W.one k l r k1 l1 k2 l2,l3]
  ·exact absurd k2 (l1 k k1)
 refine ⟨fun k hk=>?_,fun k hk=>?_,fun s hs=>?_,fun k hk l hl kl hs=>?_⟩
 ·have h1:k ∉ cs++[w]:=fun z=>hk (aP _ z)
  show (if k ∈ cs++[w] then some r else hd k)=none
  rw [if_neg h1]
  cases z:hd k with
  | none=>rfl
  | some s =>
   rcases jh k n with y | y
   ·exact absurd (aW _ ((hh k).mpr ⟨y,by rw [z];rfl⟩)) hk
   ·rw [ho k y] at z;cases z
 ·show ∃ s,(if k ∈ cs++[w] then some r else hd k)=some s∧s < M∧e k ≤ if s=r then e w else f s
  by_cases c:k ∈ cs++[w]
  ·exact ⟨r,by rw [if_pos c],rM,by rw [if_pos rfl];exact (inC k c).2.2.2⟩
  ·have kh:k ∈ hel:=by
    rcases aV.mp hk with z | z
    ·exact z
    ·exact absurd z c
   obtain ⟨k1,k2⟩:=(hh k).mp kh
   obtain ⟨s,es⟩:=cH.mp k2
   refine ⟨s,by rw [if_neg c];exact es,(W.hh k s k1 es).1,?_⟩
   by_cases z:s=r
   ·rw [if_pos z]
    rw [z] at es
    have:=heldB k k1 es
    omega
   ·rw [if_neg z]
    rcases hf s (W.hh k s k1 es).1 with ⟨l,l1,l2,l3⟩ | ⟨l1,_⟩
    ·rw [l3,W.one k l s k1 l1 es l2]
     exact dI _
    ·exact absurd es (l1 k k1)
 ·show (if s=r then e w else f s) ≤ now∨∃ p ∈ hel++(cs++[w]),(if p ∈ cs++[w] then some r else hd p)=some s∧e p=if s=r then e w else f s
  by_cases z:s=r
  ·right
   have m:w ∈ cs++[w]:=aP _ (aK.mpr rfl)
   exact ⟨w,aP _ m,by rw [if_pos m,z],by rw [if_pos z]⟩
  ·rw [if_neg z]
   rcases hf s hs with ⟨l,l1,l2,l3⟩ | ⟨_,l3⟩
   ·exact .inr ⟨l,aW _ ((hh l).mpr ⟨l1,by rw [l2];rfl⟩),by rw [if_neg (held l s l1 l2)];exact l2,l3.symm⟩
   ·exact .inl (by omega)
 ·have hs:(if k ∈ cs++[w] then some r else hd k)=if l ∈ cs++[w] then some r else hd l:=hs
  by_cases c:k ∈ cs++[w]
  ·by_cases d:l ∈ cs++[w]
   ·exact ap k l c d kl
   ·rw [if_pos c,if_neg d] at hs
    have lh:l ∈ hel:=by
     rcases aV.mp hl with z | z
     ·exact z
     ·exact absurd z d
    have:=heldB l ((hh l).mp lh).1 hs.symm
    have:=(inC k c).2.2.1
    omega
  ·have kh:k ∈ hel:=by
    rcases aV.mp hk with z | z
    ·exact z
    ·exact absurd z c
   rw [if_neg c] at hs
   by_cases d:l ∈ cs++[w]
   ·rw [if_pos d] at hs
    have:=heldB k ((hh k).mp kh).1 hs
    have:=(inC l d).2.2.1
    omega
   ·rw [if_neg d] at hs
    have lh:l ∈ hel:=by
     rcases aV.mp hl with z | z
     ·exact z
     ·exact absurd z d
    obtain ⟨k1,k2⟩:=(hh k).mp kh
    obtain ⟨s,es⟩:=cH.mp k2
    exact absurd (W.one k l s k1 ((hh l).mp lh).1 es (hs.symm.trans es)) kl
theorem room (W:Wd n M b e hd now w r B) (hB:B ≤ b w) {cs:List Nat} (p:Pth n M b e hd w B cs (b w)) {done:List Nat} {seat:Nat→Option Nat} {fs:Nat→Int} {c:Nat} (I:GInv now M b e done seat fs) (hc:c ∉ done) (hcn:c < n) (hcf:hd c=none) (hdn:∀ k ∈ done,k < n)
 (hA:∀ k ∈ done,k ∈ cs++[w]∨b k ≤ b c) (hC:∀ k ∈ cs++[w],k ∈ done∧seat k=some r) (hG:∀ k,k < n→hd k=some r→k ∈ done∧seat k=some r):∃ s,s < M∧fs s ≤ b c:=by
 apply Classical.byContradiction
 intro no
 have nb:=W.hn c hcn hcf
 have lc:=W.lt c hcn
 have cm:=W.full c hcn nb
 have all:∀ s,s < M→∃ k,k ∈ done∧seat k=some s∧b c < e k:=fun s hs=>by
  have hn:¬ fs s ≤ b c:=fun z=>no ⟨s,hs,z⟩
  rcases I.bk s hs with z | ⟨k,hk,h2,h3⟩
  ·omega
  ·exact ⟨k,hk,h2,by omega⟩
 have sub:∀ l:List Nat,(∀ k ∈ l,k ∈ done∧b k ≤ b c∧b c < e k)→l.Nodup→l.length + 1 ≤ cnt n b e (b c):=fun l hl nd=>by
  have nd2:(c :: l).Nodup:=bV.mpr ⟨fun z=>hc (hl c z).1,nd⟩
  have:=List.Nodup.length_le_of_subset (l₂:=(aG n).filter (holds b e (b c))) nd2 fun k hk=>by
   rcases bH.mp hk with rfl | z
   ·exact qb.mpr ⟨hcn,dI _,lc⟩
   ·obtain ⟨h1,h2,h3⟩:=hl k z
    exact qb.mpr ⟨hdn k h1,h2,h3⟩
  rwa [bM] at this
 have oth:∀ s,s < M→s ≠ r→∃ k,k ∈ done∧seat k=some s∧b k ≤ b c∧b c < e k:=fun s hs sr=>by
  obtain ⟨k,k1,k2,k3⟩:=all s hs
  refine ⟨k,k1,k2,?_,k3⟩
  rcases hA k k1 with z | z
  ·rw [(hC k z).2] at k2
   injection k2 with k2
   exact absurd k2.symm sr
  ·exact z
 have uni:∀ s s' k,(k ∈ done∧seat k=some s∧b k ≤ b c∧b c < e k)→(k ∈ done∧seat k=some s'∧b k ≤ b c∧b c < e k)→s=s':=fun s s' k z z'=>by
  have:=z.2.1.symm.trans z'.2.1
  injection this
 by_cases own:∃ k,k ∈ done∧seat k=some r∧b k ≤ b c∧b c < e k
 ·obtain ⟨l,l1,l2,l3⟩:=Jv (fun s k=>k ∈ done∧seat k=some s∧b k ≤ b c∧b c < e k) (aG M) iz (fun s hs=>by
   by_cases z:s=r
   ·rw [z];exact own
   ·exact oth s (aR.mp hs) z) uni
  have:=sub l (fun k hk=>let ⟨_,_,q⟩:=l3 k hk;⟨q.1,q.2.2⟩) l2
  rw [l1,aY] at this
  omega
 ·obtain ⟨l,l1,l2,l3⟩:=Jv (fun s k=>k ∈ done∧seat k=some s∧b k ≤ b c∧b c < e k) ((aG M).erase r) (List.Nodup.erase r iz) (fun s hs=>by
   obtain ⟨h1,h2⟩:=(List.Nodup.mem_erase_iff iz).mp hs
   exact oth s (aR.mp h2) h1) uni
  have q:=sub l (fun k hk=>let ⟨_,_,q⟩:=l3 k hk;⟨q.1,q.2.2⟩) l2
  rw [l1,List.length_erase_of_mem (aR.mpr W.rM),aY] at q
  have rM:=W.rM
  have eM:cnt n b e (b c)=M:=by omega
  obtain ⟨k,k1,k2,k3⟩:=all r rM
  have kc:k ∈ cs++[w]:=by
   rcases hA k k1 with z | z
   ·exact z
   ·exact absurd ⟨k,k1,k2,z,k3⟩ own
  have cw:b c < b w:=by
   rcases nU (b c) (b w) with z | z
   ·exact z
   ·have:b c < e w:=by
     rcases aV.mp kc with y | y
     ·have:=(p.mem W k y).2.2
      have:=W.lt w W.wn
      omega
     ·rw [aK.mp y] at k3
      exact k3
    have m:w ∈ cs++[w]:=aP _ (aK.mpr rfl)
    exact absurd ⟨w,(hC w m).1,(hC w m).2,z,this⟩ own
  have cB:B ≤ b c:=by
   rcases W.beg with ⟨l,l1,l2,l3⟩ | ⟨_,l3⟩
   ·rcases nU (b c) B with z | z
    ·obtain ⟨q1,q2⟩:=hG l l1 l2
     have q3:=(W.hh l r l1 l2).2.1
     exact absurd ⟨l,q1,q2,by omega,by omega⟩ own
    ·exact z
   ·omega
  rcases p.cov W (b c) cB cw with ⟨k',m,q1,q2⟩ | q1
  ·have m':k' ∈ cs++[w]:=aW _ m
   exact absurd ⟨k',(hC k' m').1,(hC k' m').2,q1,q2⟩ own
  ·exact q1 eM
end
end Rch
namespace K44
open PySem D3
noncomputable abbrev eX:List D→Option D:=Com.eX
noncomputable def kY:List D→Option D:=fnD 1 0 (d8 (dCall Bj (aH (gD (Pu (aF 0)) (gNl 0) (jM) (dCall eX (aH (aF 0) (bh))) 1 []) (bh))))
noncomputable def kj:List D→Option D:=fnD 2 0 (d8 (su (dUn (gIs "tuple") (aF 0)) (su (dOp gEq (dCall jm (aH (aF 0) (bh))) (aF 1)) (dCall kY (aH (aF 0) (bh))))))
noncomputable def nR:List D→Option D:=fnD 1 0 (d8 (dCall kj (aH (aF 0) (aH (dC (.int 2)) (bh)))))
noncomputable def jR:List D→Option D:=fnD 1 0 (d8 (su (dCall nR (aH (aF 0) (bh))) (t_ gLe gLt gLe (dC (.int 0)) (dOp gIx (aF 0) (dC (.int 0))) (dOp gIx (aF 0) (dC (.int 1))) (dC (.int 400)))))
noncomputable abbrev cU:List D→Option D:=Com.cU
noncomputable abbrev jq:List D→Option D:=Com.jq
noncomputable abbrev h_:List D→Option D:=Com.h_
noncomputable abbrev lZ:List D→Option D:=Com.lZ
noncomputable abbrev jQ:List D→Option D:=Com.jQ
noncomputable def j8:List D→Option D:=fnD 3 1 (b_ (sIf (D3.tOr (D3.n6 (bB (dUn (gIs "tuple") (aF 0)))) (D3.tOr (bB (dOp gNe (dCall jm (aH (aF 0) (bh))) (dC (.int 3)))) (D3.n6 (bB (dCall jR (aH (dCall cU (aH (aF 0) (bh))) (bh))))))) (d8 (dC (.bool false))) (fO))
 (b_ (bW 3 (dOp gIx (aF 0) (dC (.int 2))))
 (b_ (sIf (bB (dUn oE (aF 3))) (d8 (dOp gGe (dOp gIx (aF 0) (dC (.int 0))) (aF 2))) (fO))
 (d8 (su (dCall eX (aH (aF 3) (bh))) (su (m5 gLe gLt (dC (.int 0)) (aF 3) (aF 1)) (dCall jq (aH (dCall cU (aH (aF 0) (bh))) (aH (aF 2) (bh))))))))))
noncomputable def jx:List D→Option D:=fnD 3 3 (b_ (bW 3 (dC (.dict [])))
 (mD (uK (aF 0)) (gTn 2 (cM (gNl 4) (cM (gNl 5) (jN)))) (b_ (sIf (D3.n6 (bB (dCall j8 (aH (aF 5) (aH (aF 1) (aH (aF 2) (bh))))))) ((fun _=>none)) (fO))
 (b_ (sIf (bB (dOp sX (dOp gIx (aF 5) (dC (.int 2))) (aF 3))) ((fun _=>none)) (fO))
 (sIf (bB (dUn mO (dOp gIx (aF 5) (dC (.int 2))))) (tK 3 (dOp gIx (aF 5) (dC (.int 2)))) (fO))))))
noncomputable abbrev gU:List D→Option D:=Com.gU
noncomputable def iR:List D→Option D:=fnD 1 1 (b_ (bW 1 (gD (uK (aF 0)) (gTn 2 (cM (gNl 0) (cM (gNl 1) (jN)))) (bB (dUn oE (dOp gIx (aF 1) (dC (.int 2))))) (cR (aF 0)) 2 []))
 (d8 (XS.yC (aF 1) XS.dK0 [0])))
noncomputable abbrev cj:List D→Option D:=Com.cj
noncomputable abbrev gj:List D→Option D:=Com.gj
noncomputable def pI:List D→Option D:=fnD 3 4 (b_ (bW 3 (dUn uJ (aF 1)))
 (b_ (bW 4 (dUn uJ (aF 2)))
 (b_ (mD (kI (dCall iR (aH (aF 0) (bh)))) (gNl 5) (sIf (bB (dUn oE (dOp gIx (aF 3) (aF 5)))) (b_ (bW 6 (dCall gj (aH (aF 4) (aH (dOp gIx (dOp gIx (aF 0) (aF 5)) (dC (.int 0))) (bh)))))
 (b_ (rm 3 (aF 5) (aF 6))
 (rm 4 (aF 6) (dOp gIx (dOp gIx (aF 0) (aF 5)) (dC (.int 1)))))) (fO)))
 (d8 (qg (aF 3))))))
noncomputable def je:List D→Option D:=fnD 4 0 (b_ (tu (dCall jx (aH (aF 0) (aH (aF 1) (aH (aF 2) (bh))))))
 (b_ (tu (dCall gU (aH (aF 0) (aH (aF 1) (aH (aF 2) (bh))))))
 (sIf (D3.tOr (D3.n6 (bB (m5 gLe gLt (dC (.int 0)) (aF 3) (dCall jm (aH (aF 0) (bh)))))) (bB (dUn mO (dOp gIx (dOp gIx (aF 0) (aF 3)) (dC (.int 2)))))) ((fun _=>none)) (fO))))
noncomputable abbrev d_:List D→Option D:=Com.d_
noncomputable abbrev iM:List D→Option D:=Com.iM
noncomputable abbrev fj:List D→Option D:=Com.fj
noncomputable abbrev fu:List D→Option D:=Com.fu
noncomputable def eY:List D→Option D:=fnD 4 3 (b_ (bW 4 (uU (aF 3)))
 (b_ (mD (zM (aH (aF 3) (aH (dOp gIx (dOp gIx (aF 0) (aF 2)) (dC (.int 0))) (bh)))) (gNl 5) (sIf (bB (dOp z7 (aF 5) (aF 4))) (mD (kI (dCall fu (aH (aF 0) (aH (aF 1) (aH (aF 2) (aH (aF 5) (bh))))))) (gNl 6) (uV 4 (dOp gIx (aF 6) (dC (.int 0))) (dTup (aH (aF 5) (aH (dOp gIx (aF 6) (dC (.int 1))) (bh)))))) (fO)))
 (d8 (aF 4))))
noncomputable def mj:List D→Option D:=fnD 2 3 (b_ (bW 2 (mC (bh)))
 (b_ (bW 3 (aF 1))
 (b_ (sy (bB (dUn mO (dOp oN (aF 0) (aF 3)))) (b_ (bW 4 (dOp gIx (dOp oN (aF 0) (aF 3)) (dC (.int 1))))
 (b_ (sIf (bB (dUn mO (aF 4))) (vK 2 (dC (.int 0)) (aF 4)) (fO))
 (bW 3 (dOp gIx (dOp oN (aF 0) (aF 3)) (dC (.int 0)))))))
 (d8 (qg (aF 2))))))
noncomputable def kZ:List D→Option D:=fnD 6 3 (b_ (bW 6 (gD (kI (aF 0)) (gNl 0) (jM) (cR (dOp gIx (aF 0) (dC (.int 2)))) 1 []))
 (b_ (mD (kI (dOp sE (aF 5) (mC (aH (aF 3) (bh))))) (gNl 7) (rm 6 (aF 7) (aF 4)))
 (b_ (bW 8 (qg (dCall cj (aH (aF 0) (aH (aF 1) (aH (aF 2) (bh)))))))
 (b_ (rm 8 (aF 4) (dOp gIx (dOp gIx (aF 0) (aF 3)) (dC (.int 1))))
 (d8 (dCall pI (aH (aF 0) (aH (aF 6) (aH (aF 8) (bh))))))))))
noncomputable def gG:List D→Option D:=fnD 5 4 (b_ (tu (dCall je (aH (aF 0) (aH (aF 1) (aH (aF 2) (aH (aF 3) (bh)))))))
 (b_ (tu (dCall d_ (aH (aF 1) (aH (aF 4) (bh)))))
 (b_ (bW 5 (dOp gIx (dCall cj (aH (aF 0) (aH (aF 1) (aH (aF 2) (bh))))) (aF 4)))
 (b_ (bW 6 (dOp gIx (dOp gIx (aF 0) (aF 3)) (dC (.int 0))))
 (b_ (sIf (bB (dOp gGt (aF 5) (aF 6))) (d8 (dTup (aH (dC (.str "no")) (aH (mC (bh)) (bh))))) (fO))
 (b_ (bW 7 (dCall eY (aH (aF 0) (aH (aF 1) (aH (aF 3) (aH (aF 5) (bh)))))))
 (b_ (sIf (bB (dOp rH (aF 6) (aF 7))) (d8 (dTup (aH (dC (.str "no")) (aH (dCall rK (aH (aF 7) (bh))) (bh))))) (fO))
 (b_ (bW 8 (qg (dCall mj (aH (aF 7) (aH (aF 6) (bh))))))
 (d8 (dTup (aH (dC (.str "yes")) (aH (qg (aF 8)) (aH (dCall kZ (aH (aF 0) (aH (aF 1) (aH (aF 2) (aH (aF 3) (aH (aF 4) (aH (aF 8) (bh)))))))) (bh))))))))))))))
noncomputable def k_:List D→Option D:=fnD 4 0 (b_ (tu (dCall je (aH (aF 0) (aH (aF 1) (aH (aF 2) (aH (aF 3) (bh)))))))
 (d8 (gD (kJ (aH (aF 1) (bh))) (gNl 0) (bB (dOp gEq (dOp gIx (dCall gG (aH (aF 1) (aH (aF 2) (aH (aF 3) (aH (aF 4) (aH (aF 0) (bh))))))) (dC (.int 0))) (dC (.str "yes")))) (cR (aF 0)) 1 [0,1,2,3])))
noncomputable abbrev iG:List D→Option D:=Com.iG
noncomputable abbrev bL:List D→Option D:=Com.bL
noncomputable abbrev eZ:List D→Option D:=Com.eZ
noncomputable abbrev fL:List D→Option D:=Com.fL
noncomputable abbrev gq:List D→Option D:=Com.gq
noncomputable abbrev fM:List D→Option D:=Com.fM
noncomputable abbrev jC:List D→Option D:=Com.jC
noncomputable abbrev gW:List D→Option D:=Com.gW
noncomputable def lg:List D→Option D:=fnD 4 5 (b_ (bW 4 (gD (kI (aF 2)) (gNl 0) (jM) (cR (dOp gIx (aF 0) (dC (.int 2)))) 1 []))
 (b_ (mD (kI (dCall XS.uR (aH (gD (kJ (aH (dCall jm (aH (aF 2) (bh))) (bh))) (gNl 0) (jM) (cR (dTup (aH (dOp gIx (dOp gIx (aF 1) (aF 0)) (dC (.int 0))) (aH (aF 0) (bh))))) 1 [2]) (bh)))) (gTn 2 (cM (gNl 5) (cM (gNl 6) (jN)))) (b_ (bW 7 (gD (kJ (aH (dCall jm (aH (aF 2) (bh))) (bh))) (gNl 0) (D3.jA (bB (dOp gLe (dOp gIx (dOp gIx (aF 3) (aF 0)) (dC (.int 0))) (aF 2))) (bB (dOp gLt (aF 2) (dOp gIx (dOp gIx (aF 3) (aF 0)) (dC (.int 1)))))) (cR (dOp gIx (aF 1) (aF 0))) 1 [4,5,2]))
 (b_ (bW 8 (gD (kJ (aH (aF 3) (bh))) (gNl 0) (bB (dOp nj (aF 0) (aF 1))) (cR (aF 0)) 1 [7]))
 (sIf (bB (dUn oE (dOp gIx (aF 4) (aF 6)))) (rm 4 (aF 6) (dOp gIx (aF 8) (dCall bL (aH (aF 0) (aH (aF 1) (aH (aF 6) (aH (dCall jm (aH (aF 8) (bh))) (bh)))))))) (fO)))))
 (d8 (qg (aF 4)))))
noncomputable abbrev fD:List D→Option D:=Com.fD
noncomputable def jf:List D→Option D:=fnD 4 5 (b_ (bW 4 (mC (bh)))
 (b_ (sIf (bB (dOp gLt (dCall jm (aH (gD (kI (aF 0)) (gNl 0) (D3.jA (bB (dOp gLe (dOp gIx (aF 0) (dC (.int 0))) (aF 1))) (bB (dOp gLt (aF 1) (dOp gIx (aF 0) (dC (.int 1)))))) (cR (aF 0)) 1 [3]) (bh))) (aF 1))) (xM 4 (dOp jk (aF 3) (dC (.int 1)))) (fO))
 (b_ (mD (kJ (aH (dCall jm (aH (aF 0) (bh))) (bh))) (gNl 5) (b_ (Fe (dOp gIx (aF 0) (aF 5)) (gTn 3 (cM (gNl 6) (cM (gNl 7) (cM (gNl 8) (jN))))))
 (sIf (D3.jA (bB (dOp gNe (aF 5) (aF 2))) (D3.jA (bB (dUn oE (aF 8))) (D3.jA (bB (dOp gEq (aF 6) (aF 3))) (bB (dOp gLe (aF 7) (dOp gIx (dOp gIx (aF 0) (aF 2)) (dC (.int 0)))))))) (xM 4 (aF 7)) (fO))))
 (d8 (qg (aF 4))))))
noncomputable def gH:List D→Option D:=fnD 5 4 (b_ (bW 5 (dOp gIx (dOp gIx (aF 0) (aF 3)) (dC (.int 0))))
 (b_ (bW 6 (Dz (dCall fD (aH (aF 0) (aH (aF 2) (aH (aF 4) (bh)))))))
 (b_ (mD (zM (aH (aF 2) (aH (aF 5) (bh)))) (gNl 7) (sIf (bB (dOp sX (aF 7) (aF 6))) (mD (kI (dCall jf (aH (aF 0) (aH (aF 1) (aH (aF 3) (aH (aF 7) (bh))))))) (gNl 8) (tK 6 (aF 8))) (fO)))
 (d8 (dOp sX (aF 5) (aF 6))))))
noncomputable def iH:List D→Option D:=fnD 5 1 (b_ (bW 5 (qg (dCall k_ (aH (aF 0) (aH (aF 1) (aH (aF 2) (aH (aF 3) (bh))))))))
 (b_ (sIf (D3.tOr (D3.n6 (bB (dUn (gIs "list") (aF 5)))) (D3.tOr (D3.n6 (bB (dCall Bj (aH (gD (kI (aF 5)) (gNl 0) (jM) (dCall eZ (aH (aF 0) (bh))) 1 []) (bh))))) (bB (dOp gNe (aF 5) (aF 4))))) (d8 (dC (.bool false))) (fO))
 (b_ (xM 5 (aF 1))
 (d8 (dC (.bool true))))))
noncomputable def Jw:List D→Option D:=fnD 1 9 (b_ (bW 1 (dOp jk (dC (.int 1)) (dCall bL (aH (aF 0) (aH (dC (.int 0)) (aH (dC (.int 3)) (aH (dOp gIx (mC (aH (dC (.int 3)) (aH (dC (.int 8)) (bh)))) (dCall Bh (aH (dOp gEq (dCall bL (aH (aF 0) (aH (dC (.int 0)) (aH (dC (.int 4)) (aH (dC (.int 4)) (bh)))))) (dC (.int 1))) (bh)))) (bh))))))))
 (b_ (bW 2 (dCall jC (aH (aF 0) (bh))))
 (b_ (bW 3 (dCall gW (aH (aF 0) (aH (aF 1) (aH (aF 2) (aH (dC (.int 24)) (bh)))))))
 (b_ (bW 4 (dCall lg (aH (aF 0) (aH (dC (.int 40)) (aH (aF 3) (aH (aF 1) (bh)))))))
 (b_ (bW 5 (gD (kJ (aH (dCall jm (aH (aF 3) (bh))) (bh))) (gNl 0) (bB (dUn oE (dOp gIx (dOp gIx (aF 1) (aF 0)) (dC (.int 2))))) (cR (aF 0)) 1 [3]))
 (b_ (bW 6 (dUn uJ (aF 3)))
 (b_ (mD (kJ (aH (dCall uI (aH (dC (.int 3)) (aH (dCall jm (aH (aF 5) (bh))) (bh)))) (bh))) (gNl 7) (b_ (bW 8 (dOp gIx (aF 5) (dCall bL (aH (aF 0) (aH (dC (.int 41)) (aH (aF 7) (aH (dCall jm (aH (aF 5) (bh))) (bh))))))))
 (b_ (bW 9 (gD (kJ (aH (aF 1) (bh))) (gNl 0) (bB (dCall gH (aH (aF 1) (aH (aF 2) (aH (aF 3) (aH (aF 4) (aH (aF 0) (bh)))))))) (cR (aF 0)) 1 [3,1,2,8]))
 (b_ (sIf (D3.tOr (D3.n6 (bB (dCall iH (aH (aF 6) (aH (aF 1) (aH (aF 2) (aH (aF 8) (aH (aF 9) (bh))))))))) (bB (dOp nj (dOp gIx (aF 4) (aF 8)) (aF 9)))) (d8 (dC (.bool false))) (fO))
 (sIf (D3.tOr (D3.n6 (bB (dCall iH (aH (aF 6) (aH (aF 1) (aH (aF 2) (aH (aF 8) (aH (aF 9) (bh))))))))) (bB (dOp gNe (aF 6) (aF 3)))) (d8 (dC (.bool false))) (fO))))))
 (d8 (dC (.bool true))))))))))
end K44
namespace K44
open PySem D3 My Com XS
structure TO0 (L:List Ty) (M:Nat) (now:Int):Prop where
 len:L.length ≤ 24
 ok:∀ s ∈ L,(s.1 < s.2.1∧0 ≤ s.1∧s.2.1 ≤ 400)∧(∀ r,s.2.2=some r→r < M∧s.1 ≤ now∧now < s.2.1)∧(s.2.2=none→now ≤ s.1)
 nd:(L.filterMap (·.2.2)).Nodup
def bk (L:List Ty) (k:Nat):Int:=(tAt L k).1
def ek (L:List Ty) (k:Nat):Int:=(tAt L k).2.1
def hk (L:List Ty) (k:Nat):Option Nat:=(tAt L k).2.2
theorem Mp {g:FG} {b:FS} {v:D} (Inv:Nat→DS→Prop) (P:Nat→Prop) (l:List D) (δ:DS) (h0:Inv 0 δ) (hs:∀ i d δ,l[i]? = some d→(∀ j,j < i→P j)→Inv i δ→∃ δ1,g d δ=some δ1∧((P i∧∃ δ',b δ1=some (.nx δ')∧Inv (i + 1) δ')∨(¬ P i∧b δ1=some (.rt v)))) :
 (∃ δ',iW g b l δ=some (.nx δ')∧Inv l.length δ'∧∀ j,j < l.length→P j)∨(iW g b l δ=some (.rt v)∧∃ j,j < l.length∧¬ P j):=by
 have key:∀ (l:List D) (k:Nat) (δ:DS),Inv k δ→(∀ j,j < k→P j)→(∀ i d δ,l[i]? = some d→(∀ j,j < k + i→P j)→Inv (k + i) δ→∃ δ1,g d δ=some δ1∧((P (k + i)∧∃ δ',b δ1=some (.nx δ')∧Inv (k + i + 1) δ')∨(¬ P (k + i)∧b δ1=some (.rt v)))) →
  (∃ δ',iW g b l δ=some (.nx δ')∧Inv (k + l.length) δ'∧∀ j,j < k + l.length→P j)∨(iW g b l δ=some (.rt v)∧∃ j,j < k + l.length∧¬ P j):=by
  intro l
  induction l with
  | nil=>exact fun k δ h hp _=>.inl ⟨δ,rfl,h,hp⟩
  | cons d r ih =>
   intro k δ h hp hs
   obtain ⟨δ1,e1,z⟩:=hs 0 d δ rfl hp h
   rcases z with ⟨p,δ',e2,e3⟩ | ⟨p,e2⟩
   ·have hp':∀ j,j < k + 1→P j:=fun j hj=>by
     by_cases w:j < k
     ·exact hp j w
     ·have:j=k + 0:=by omega
      rw [this];exact p
    have:=ih (k + 1) δ' e3 hp' fun i d' δ'' hd hq hi=>by
     have:=hs (i + 1) d' δ'' (by simpa using hd) (by rw [show k + (i + 1)=k + 1 + i by omega];exact hq) (by rw [show k + (i + 1)=k + 1 + i by omega];exact hi)
     rw [show k + (i + 1)=k + 1 + i by omega] at this
     exact this
    rw [bM,show k + (r.length + 1)=k + 1 + r.length by omega,iW,e1,aL,e2]
    exact this
   ·refine .inr ⟨?_,k + 0,by rw [bM];omega,p⟩
    rw [iW,e1,aL,e2]
    rfl
 have:=key l 0 δ h0 (fun j hj=>absurd hj (oU _)) fun i d δ hd hp hi=>by
  rw [jK] at hp hi ⊢
  exact hs i d δ hd hp hi
 rw [jK] at this
 exact this
def isI:D→Bool
 | .int _=>true
 | _=>false
theorem lwh (d:D):eZ [d]=some (.bool (isI d)):=by
 unfold eZ Com.eZ
 cases d <;> rfl
def Pk (L:List Ty) (M:Nat) (ds:List D) (i:Nat):Prop:=∃ v:Int,ds[i]? = some (.int v)∧0 ≤ v∧v < (M:Int)∧(∀ r,hk L i=some r→(r:Int)=v)∧∀ k,k < i→¬ (ds[k]? = ds[i]?∧bk L k < ek L i∧bk L i < ek L k)
theorem ay {L:List Ty} {k:Nat} (h:k < L.length):pAt (L.map yD) (k:Int)=some (.tuple [.int (bk L k),.int (ek L k),hD (hk L k)]):=by rw [lJ,vN _ h];rfl
theorem Mq (n:Nat) (h:n ≤ 1000):nQ (some [.int (n:Int)])=some (dZ 0 (n:Int)):=Cg (by omega) (by omega)
theorem isList {ds:List D}:D3.isT "list" (tyD (.list ds))=true:=rfl
theorem allB {α:Type} (f:α→Bool) (l:List α):Bj [.list (l.map fun a=>PyData.bool (f a))]=some (.bool (l.all f)):=by
 have:m6 (l.map fun a=>PyData.bool (f a))=some (l.map f):=by
  induction l with
  | nil=>rfl
  | cons a r ih=>rw [bC,m6,ih];rfl
 show (m6 (l.map fun a=>PyData.bool (f a))).map _=_
 rw [this,fW,List.all_map]
 rfl
theorem wh (d:D):eX [d]=some (.bool (isI d)):=by
 unfold eX Com.eX
 cases d <;> rfl
theorem Mr (a b:Int):nR [.tuple [.int a,.int b]]=some (.bool true):=by
 have e:kY [.tuple [.int a,.int b]]=some (.bool true):=by
  have c:dW (gNl 0) (D3.jM) (dCall eX (aH (aF 0) (bh))) (jj 1 [] [some (.d (.tuple [.int a,.int b]))]) [.int a,.int b]=some [.bool true,.bool true] :=
   yF (g:=(gNl 0)) (c:=(D3.jM)) (e:=(dCall eX (aH (aF 0) (bh)))) (δ:=jj 1 [] [some (.d (.tuple [.int a,.int b]))]) (fun i:Int=>PyData.int i) (fun _=>PyData.bool true) [a,b] fun d _=>⟨[some (.d (.int d))],rfl,rfl,by
    have:=wh (.int d)
    simp only [EV,reduceIte,au,aA,ao,aq,aB,aC,aD,this]
    rfl⟩
  have al:Bj [.list [.bool true,.bool true]]=some (.bool true):=rfl
  have l2:(0 + 1 + 1:Nat) ≤ 100000:=by decide
  unfold kY
  simp only [EV,reduceIte,au,aA,ao,aq,aB,aC,aD,Vi,Px,c,al,l2]
 have it:D3.isT "tuple" (tyD (.tuple [.int a,.int b]))=true:=rfl
 have e2:gEq (.int ((0 + 1 + 1:Nat):Int)) (.int 2)=some (.bool true):=rfl
 unfold nR kj
 simp only [EV,reduceIte,au,aA,ao,aq,aB,aC,aD,it,e2,e]
theorem qd (a b:Int) (d:D):cU [.tuple [.int a,.int b,d]]=some (.tuple [.int a,.int b]):=by
 unfold cU Com.cU
 simp only [EV,reduceIte,au,aA,ao,aq,aB,aC,aD,at0,at1,fli,zl2]
theorem Jx (a b x:Int):jq [.tuple [.int a,.int b],.int x]=some (.bool (decide (a ≤ x) && decide (x < b))):=by
 unfold jq Com.jq
 by_cases c:a ≤ x
 ·simp only [EV,reduceIte,au,aA,ao,aq,aB,aC,aD,at0,at1,dTr c]
  simp
 ·simp only [EV,reduceIte,au,aA,ao,aq,aB,aC,aD,at0,at1,dFa c]
  simp
theorem Cw {a b:Int} (h:0 ≤ a∧a < b∧b ≤ 400):jR [.tuple [.int a,.int b]]=some (.bool true):=by
 unfold jR
 simp only [EV,reduceIte,au,aA,ao,aq,aB,aC,aD,Mr,at0,at1,dTr h.1,dTr h.2.1,dTr h.2.2]
theorem Ms {L:List Ty} {M:Nat} {now:Int} (ok:TO0 L M now) {k:Nat} (h:k < L.length):j8 [.tuple [.int (bk L k),.int (ek L k),hD (hk L k)],.int (M:Int),.int now]=some (.bool true):=by
 obtain ⟨⟨o1,o2,o3⟩,o4,o5⟩:=ok.ok _ (fG h)
 have o1:bk L k < ek L k:=o1
 have st:=Cw (a:=bk L k) (b:=ek L k) ⟨o2,o1,o3⟩
 have it:∀ l,D3.isT "tuple" (tyD (.tuple l))=true:=fun _=>rfl
 have e3:gNe (.int ((0 + 1 + 1 + 1:Nat):Int)) (.int 3)=some (.bool false):=rfl
 cases hh:hk L k with
 | none =>
  have o5:now ≤ bk L k:=o5 hh
  have nn:isNone (hD none)=true:=rfl
  unfold j8
  simp only [EV,reduceIte,au,aA,ao,aq,aB,aC,aD,it,e3,qd,st,at0,at2,nn,dTr o5]
 | some r =>
  obtain ⟨q1,q2,q3⟩:=o4 r hh
  have q2:bk L k ≤ now:=q2
  have q3:now < ek L k:=q3
  have nn:isNone (hD (some r))=false:=rfl
  have hw:eX [hD (some r)]=some (.bool true):=wh (.int (r:Int))
  have hv:hD (some r) = .int (r:Int):=rfl
  have r0:(0:Int) ≤ (r:Int):=by omega
  have r1:(r:Int) < (M:Int):=by omega
  unfold j8
  simp only [EV,reduceIte,au,aA,ao,aq,aB,aC,aD,it,e3,qd,st,at0,at2,nn,hw]
  rw [hv]
  simp only [EV,reduceIte,au,aA,ao,aq,aB,aC,aD,dTr r0,dTr r1,qd,Jx,dTr q2,dTr q3]
def qBP (i:Nat) (x y:Option D) (δ:DS):Option Oc:=match x,y with
 | some x,some y=>(Fq x).bind fun S=>match y with
  | .int k=>if S.length < 1000000 then some (.nx (δ.set i (some (.d (dsB (pD S k)))))) else none
  | _=>none
 | _,_=>none
theorem Jy {i:Nat} {fk:FE} {δ:DS}:tK i fk δ=qBP i (aF i δ) (fk δ) δ:=by
 unfold tK qBP
 cases aF i δ with
 | none=>rfl
 | some x=>cases fk δ <;> rfl
theorem Ai {i:Nat} {S:List Int} {k:Int} {δ:DS} (h:S.length < 1000000):qBP i (some (dsB S)) (some (.int k)) δ=some (.nx (δ.set i (some (.d (dsB (pD S k)))))):=by
 unfold qBP
 dsimp only
 rw [yp,aL,if_pos h]
theorem Jz {S:List Int} {k:Int}:sX (.int k) (dsB S)=some (.bool (decide (k ∈ S))):=by
 unfold sX
 rw [yp]
 rfl
theorem Rh {S:List Int}:sX .none (dsB S)=some (.bool false):=by
 unfold sX
 rw [yp]
 rfl
theorem JB {L:List Ty} {M:Nat} {now:Int} (ok:TO0 L M now):jx [.list (L.map yD),.int (M:Int),.int now]=some .none:=by
 have l24:=ok.len
 have en:jV (L.map yD)=(aG L.length).map fun p:Nat=>PyData.tuple [.int (p:Int),.tuple [.int (bk L p),.int (ek L p),hD (hk L p)]]:=by
  rw [lJ,Cv]
  rfl
 obtain ⟨δ',e,S,x,y,_,_,rfl⟩:=jo (g:=(gTn 2 (cM (gNl 4) (cM (gNl 5) (jN))))) (b:=(b_ (sIf (D3.n6 (bB (dCall j8 (aH (aF 5) (aH (aF 1) (aH (aF 2) (bh))))))) ((fun _=>none)) (fO)) (b_ (sIf (bB (dOp sX (dOp gIx (aF 5) (dC (.int 2))) (aF 3))) ((fun _=>none)) (fO)) (sIf (bB (dUn mO (dOp gIx (aF 5) (dC (.int 2))))) (tK 3 (dOp gIx (aF 5) (dC (.int 2)))) (fO)))))
  (fun i δ=>∃ (S:List Int) (x y:Option U),S.length ≤ i∧(∀ s ∈ S,∃ (j:Nat) (r:Nat),j < i∧j < L.length∧hk L j=some r∧s=(r:Int))∧δ=[some (.d (.list (L.map yD))),some (.d (.int (M:Int))),some (.d (.int now)),some (.d (dsB S)),x,y]) ((aG L.length).map fun p:Nat=>PyData.tuple [.int (p:Int),.tuple [.int (bk L p),.int (ek L p),hD (hk L p)]])
  [some (.d (.list (L.map yD))),some (.d (.int (M:Int))),some (.d (.int now)),some (.d (.dict [])),none,none] ⟨[],none,none,bf _,fun _ h=>(by cases h),rfl⟩ (by
   rintro i d δ hd ⟨S,x,y,s1,s2,rfl⟩
   rw [aQ] at hd
   by_cases hi:i < L.length
   case neg=>rw [bA (by simpa using hi)] at hd;cases hd
   rw [bU hi] at hd
   cases hd
   have st:=Ms ok hi
   cases hh:hk L i with
   | none =>
    rw [hh] at st
    have nn:isNone (hD none)=true:=rfl
    have nb:sX (hD none) (dsB S)=some (.bool false):=Rh
    refine ⟨_,[some (.d (.list (L.map yD))),some (.d (.int (M:Int))),some (.d (.int now)),some (.d (dsB S)),some (.d (.int (i:Int))),some (.d (.tuple [.int (bk L i),.int (ek L i),hD none]))],rfl,.inl ?_,S,_,_,by omega,fun s hs=>?_,rfl⟩
    ·simp only [EV,reduceIte,au,aA,ao,aq,aB,aC,aD,hh,st,at2,nb,nn]
    ·obtain ⟨j,r,j1,j2⟩:=s2 s hs
     exact ⟨j,r,by omega,j2⟩
   | some r =>
    rw [hh] at st
    have nn:isNone (hD (some r))=false:=rfl
    have ns:¬ (r:Int) ∈ S:=fun z=>by
     obtain ⟨j,r',j1,j2,j3,j4⟩:=s2 _ z
     have:r'=r:=by omega
     subst this
     have:=rP ok.nd j2 hi j3 hh
     omega
    have nb:sX (hD (some r)) (dsB S)=some (.bool false):=by
     show sX (.int (r:Int)) _=_
     rw [Jz,dFa ns]
    have pb:∀ δ:DS,qBP 3 (some (dsB S)) (some (hD (some r))) δ=some (.nx (δ.set 3 (some (.d (dsB (pD S (r:Int))))))):=fun δ=>Ai (by omega)
    have ep:pD S (r:Int)=S++[(r:Int)]:=by unfold pD;rw [if_neg ns]
    refine ⟨_,[some (.d (.list (L.map yD))),some (.d (.int (M:Int))),some (.d (.int now)),some (.d (dsB (pD S (r:Int)))),some (.d (.int (i:Int))),some (.d (.tuple [.int (bk L i),.int (ek L i),hD (some r)]))],rfl,.inl ?_,pD S (r:Int),_,_,?_,fun s hs=>?_,rfl⟩
    ·simp only [EV,reduceIte,au,aA,ao,aq,aB,aC,aD,hh,st,at2,nb,nn,Jy,pb]
    ·rw [ep,bQ];simp;omega
    ·rw [ep] at hs
     rcases aV.mp hs with w | w
     ·obtain ⟨j,r,j1,j2⟩:=s2 s w
      exact ⟨j,r,by omega,j2⟩
     ·exact ⟨i,r,by omega,hi,hh,aK.mp w⟩)
 unfold jx
 simp only [EV,reduceIte,au,aA,ao,aq,aB,aC,aD,en]
 rw [e]
 simp only [EV,reduceIte,au,aA,ao,aq,aB,aC,aD]
theorem Cy {L:List Ty} (hl:L.length < 64):∃ P:List Nat,iR [.list (L.map yD)]=some (.list (P.map fun i:Nat=>PyData.int (i:Int)))∧P.Perm (opn L)∧P.Pairwise fun a b=>bk L a ≤ bk L b:=by
 have en:jV (L.map yD)=(aG L.length).map fun p:Nat=>PyData.tuple [.int (p:Int),yD (tAt L p)]:=by rw [lJ];exact Cv _
 have C1:dW (gTn 2 (cM (gNl 0) (cM (gNl 1) (jN)))) (bB (dUn oE (dOp gIx (aF 1) (dC (.int 2))))) (cR (aF 0)) (jj 2 [] [some (.d (.list (L.map yD))),none]) (jV (L.map yD))=some ((opn L).map fun p:Nat=>PyData.int (p:Int)):=by
  rw [en]
  exact vg (fun p:Nat=>PyData.tuple [.int (p:Int),yD (tAt L p)]) (fun p=>!(tAt L p).2.2.isSome) (fun p:Nat=>PyData.int (p:Int)) (aG L.length) fun p _=>⟨[some (.d (.int (p:Int))),some (.d (yD (tAt L p)))],rfl,by
   have:=yJ (tAt L p).2.2
   unfold yD
   simp only [EV,reduceIte,au,aA,ao,aq,aB,aC,aD,at2,this],fun _=>by simp only [EV,reduceIte,au,aA,ao,aq,aB,aC,aD,fli]⟩
 have el:(jV (L.map yD)).length ≤ 100000:=by rw [en,aJ,aY];omega
 have ml:∀ p ∈ opn L,p < L.length:=fun p hp=>aR.mp (bF.mp hp).1
 have lo:(opn L).length ≤ L.length:=by
  have:=cI (fun p=>!(tAt L p).2.2.isSome) (aG L.length)
  rwa [aY] at this
 have C2:=Uz (L:=L) (some (.d (.list ((opn L).map fun p:Nat=>PyData.int (p:Int))))) (opn L) ml
 obtain ⟨P,eP,pP,sP⟩:=Cr (opn L) (bk L)
 refine ⟨P,?_,pP,sP⟩
 have V:=FW (l:=(opn L).map fun p:Nat=>PyData.int (p:Int)) (by rw [aJ];omega) (gC _ (fun _=>rfl) _) C2 (pY _)
 unfold iR
 simp only [EV,reduceIte,au,aA,ao,aq,aB,aC,aD,el,C1,K9]
 rw [V]
 simp only [EV,reduceIte,au,aA,ao,aq,aB,aC,aD]
 rw [← eP]
 rfl
theorem Cz {M:Nat} {fs:Nat→Int} {x:Int} (hM:M ≤ 1000) (h:∃ r,r < M∧fs r ≤ x):∃ r:Nat,r < M∧fs r ≤ x∧gj [.list ((aG M).map fun r:Nat=>PyData.int (fs r)),.int x]=some (.int (r:Int)):=by
 have en:jV ((aG M).map fun r:Nat=>PyData.int (fs r))=(aG M).map fun r:Nat=>PyData.tuple [.int (r:Int),.int (fs r)]:=by
  unfold jV
  apply d7
  intro i
  rw [iY,aQ,aQ]
  by_cases hi:i < M
  ·rw [bU hi];rfl
  ·rw [bA (by simpa using hi)];rfl
 have C:dW (gTn 2 (cM (gNl 0) (cM (gNl 1) (jN)))) (bB (dOp gLe (aF 1) (aF 2))) (cR (aF 0)) (jj 2 [1] [some (.d (.list ((aG M).map fun r:Nat=>PyData.int (fs r)))),some (.d (.int x))]) (jV ((aG M).map fun r:Nat=>PyData.int (fs r)))=some (((aG M).filter fun r=>decide (fs r ≤ x)).map fun r:Nat=>PyData.int (r:Int)):=by
  rw [en]
  exact vg (fun r:Nat=>PyData.tuple [.int (r:Int),.int (fs r)]) _ (fun r:Nat=>PyData.int (r:Int)) (aG M) fun r hr=>⟨[some (.d (.int (r:Int))),some (.d (.int (fs r))),some (.d (.int x))],rfl,by simp only [EV,reduceIte,au,aA,ao,aq,aB,aC,aD],fun _=>by simp only [EV,reduceIte,au,aA,ao,aq,aB,aC,aD]⟩
 have el:(jV ((aG M).map fun r:Nat=>PyData.int (fs r))).length ≤ 100000:=by rw [en,aJ,aY];omega
 cases e:(aG M).filter fun r=>decide (fs r ≤ x) with
 | nil =>
  obtain ⟨r,h1,h2⟩:=h
  have:r ∈ (aG M).filter fun r=>decide (fs r ≤ x):=bF.mpr ⟨aR.mpr h1,dTr h2⟩
  rw [e] at this
  cases this
 | cons r l =>
  have hr:r ∈ (aG M).filter fun r=>decide (fs r ≤ x):=by rw [e];exact aN
  obtain ⟨h1,h2⟩:=bF.mp hr
  refine ⟨r,aR.mp h1,of_decide_eq_true h2,?_⟩
  rw [e,bC] at C
  show Com.gj _=_
  unfold Com.gj
  simp only [EV,reduceIte,au,aA,ao,aq,aB,aC,aD,el,C,at0]
theorem Mt (n:Nat) (d:D):bG n d=(aG n).map fun _=>d:=by
 rw [List.map_const',aY]
theorem UJ {d:D} {k:Int} (h:k ≤ 1000000) (h' : -(2 ^ 63) ≤ k):Hl (.list [d]) (.int k)=some (.list (bG k.toNat d)):=by
 show (if [d].length * k.toNat ≤ 1000000∧-(2 ^ 63) ≤ k∧k < 2 ^ 63 then some (PyData.list (bG k.toNat [d]).flatten) else none)=_
 rw [if_pos ⟨by simp only [bM,gO];omega,h',by omega⟩]
 congr 2
 generalize k.toNat=n
 induction n with
 | zero=>rfl
 | succ n ih=>rw [cO,fQ,ih,cO];rfl
theorem Aj {g:FG} {b:FS} (Inv:DS→Prop) (p:Int→Bool):∀ (l:List Int) (δ:DS),Inv δ→(∀ x ∈ l,∀ δ,Inv δ→∃ δ1,g (.int x) δ=some δ1∧((p x=true∧b δ1=some (.rt (.int x)))∨(p x=false∧∃ δ',b δ1=some (.nx δ')∧Inv δ'))) →
 (∃ x,l.find? p=some x∧iW g b (l.map .int) δ=some (.rt (.int x)))∨(l.find? p=none∧∃ δ',iW g b (l.map .int) δ=some (.nx δ')∧Inv δ')
 | [],δ,h,_=>.inr ⟨rfl,δ,rfl,h⟩
 | x :: r,δ,h,hs=>by
  obtain ⟨δ1,e1,q⟩:=hs x aN δ h
  rcases q with ⟨hp,e2⟩ | ⟨hp,δ',e2,h'⟩
  ·refine .inl ⟨x,by rw [fX,hp],?_⟩
   rw [bC,iW,e1,aL,e2]
   rfl
  ·have ih:=Aj Inv p r δ' h' fun y hy=>hs y (aO _ hy)
   have ef:(x :: r).find? p=r.find? p:=by rw [fX,hp]
   have eg:iW g b ((x :: r).map .int) δ=iW g b (r.map .int) δ':=by
    rw [bC,iW,e1,aL,e2]
    rfl
   rw [ef,eg]
   exact ih
def outI:Option Int→D
 | none=>.none
 | some x=>.int x
def pM (L:List Ty) (M:Nat) (x:Int):Bool:=decide ((M:Int) < (gY L x:Int))
def nS (L:List Ty):List Sh:=L.map fun s=>(s.1,s.2.1)
theorem JC (L:List Ty) (x:Int):cnt (nS L) x=gY L x:=by
 unfold cnt gY nS
 rw [List.filter_map,aJ]
 rfl
def LT (L:List Ty) (now:Int):List Int:=(L.map (·.1)).filter fun x=>decide (now < x)
theorem Mu {L:List Ty} {M:Nat} {now:Int} (hl:L.length ≤ 24):jQ [.list ((nS L).map stD),.int (M:Int),.int now]=some (outI ((now :: nG (LT L now)).find? (pM L M))):=by
 have ln:(nS L).length=L.length:=aJ _
 have fs:=Af (ss:=nS L) (by omega)
 have fe:(nS L).map (·.1)=L.map (·.1):=by unfold nS;rw [dR];rfl
 rw [fe] at fs
 have cf:dW (gNl 0) (bB (dOp gGt (aF 0) (aF 1))) (cR (aF 0)) [none,some (.d (.int now))] ((L.map (·.1)).map .int)=some ((LT L now).map .int):=by
  unfold LT
  generalize L.map (·.1)=l
  induction l with
  | nil=>rfl
  | cons x r ih =>
   rw [bC,dW]
   by_cases c:now < x
   ·simp only [EV,reduceIte,au,aA,ao,aq,aB,aC,aD,dTr c,aL,ih]
    rw [iw (by simpa using c)]
    rfl
   ·simp only [EV,reduceIte,au,aA,ao,aq,aB,aC,aD,dFa c,aL,ih]
    rw [iy (by simpa using c),if_neg (by decide)]
 have ll:(LT L now).length ≤ 60:=bT (cI _ _) (by rw [aJ];omega)
 have gs:rA [.list ((LT L now).map .int)]=some (.list ((nG (LT L now)).map .int)):=by
  unfold rA
  simp only
  rw [pY,aL,if_pos (by omega)]
 have c1:sE (.list [.int now]) (.list ((nG (LT L now)).map .int))=some (.list (.int now :: (nG (LT L now)).map .int)):=by
  rw [Ad,if_pos (by rw [aJ,(jE _).length_eq];simp;omega)]
  rfl
 have ca:∀ a c d e f:Option U,jj 1 [2] [a,c,d,e,f]=[none,d]:=fun _ _ _ _ _=>rfl
 show Com.jQ _=_
 unfold Com.jQ
 simp only [EV,reduceIte,au,aA,ao,aq,aB,aC,aD,fs,lMp,show L.length ≤ 100000 by omega,ca,cf,gs,zl1,c1]
 rcases Aj (g:=gNl 4) (b:=(sIf (bB (dOp gGt (dCall Com.h_ (aH (aF 0) (aH (aF 4) (bh)))) (aF 1))) (d8 (cR (aF 4))) (fO))) (fun δ=>∃ y,δ=[some (.d (.list ((nS L).map stD))),some (.d (.int (M:Int))),some (.d (.int now)),some (.d (.list ((LT L now).map .int))),y]) (pM L M) (now :: nG (LT L now))
  [some (.d (.list ((nS L).map stD))),some (.d (.int (M:Int))),some (.d (.int now)),some (.d (.list ((LT L now).map .int))),none] ⟨none,rfl⟩ (by
   rintro x hx δ ⟨y,rfl⟩
   refine ⟨_,rfl,?_⟩
   have cs:=vm (ss:=nS L) (by omega) x
   rw [JC] at cs
   cases z:pM L M x with
   | true =>
    have z:decide ((M:Int) < (gY L x:Int))=true:=z
    refine .inl ⟨rfl,?_⟩
    simp only [EV,reduceIte,au,aA,ao,aq,aB,aC,aD,cs,z]
   | false =>
    have z:decide ((M:Int) < (gY L x:Int))=false:=z
    refine .inr ⟨rfl,_,?_,some (.d (.int x)),rfl⟩
    simp only [EV,reduceIte,au,aA,ao,aq,aB,aC,aD,cs,z]) with ⟨x,e1,e2⟩ | ⟨e1,δ',e2,y,rfl⟩
 ·rw [bC] at e2
  rw [e2,e1]
  simp only [EV,reduceIte,au,aA,ao,aq,aB,aC,aD]
  rfl
 ·rw [bC] at e2
  rw [e2,e1]
  simp only [EV,reduceIte,au,aA,ao,aq,aB,aC,aD]
  rfl
theorem Mv (l:List (Option Nat)) (r:Nat):((l.map hD).any fun z=>PyData.eqv z (.int (r:Int)))=decide (some r ∈ l):=by
 induction l with
 | nil=>rfl
 | cons o l ih =>
  rw [bC,jw,ih]
  cases o with
  | none =>
   show (false || _)=_
   rw [Bool.false_or]
   simp
  | some x =>
   have:PyData.eqv (hD (some x)) (.int (r:Int))=decide (x=r):=by
    show decide ((x:Int)=(r:Int))=_
    exact decide_eq_decide.mpr (by omega)
   rw [this]
   by_cases h:x=r
   ·subst h;simp
   ·have h2:¬ r=x:=fun z=>h z.symm
    simp [h,h2]
theorem CG (l:List (Option Nat)) (r:Nat):nj (.int (r:Int)) (.list (l.map hD))=some (.bool (!decide (some r ∈ l))):=by
 have s1:SeqAt.shaped (.int (r:Int))=true:=p7 (vh (n:=59))
 have s2:SeqAt.shaped (.list (l.map hD))=true:=p7 (yH (n:=59) (uh _ Nv _))
 show (if (SeqAt.shaped (.int (r:Int)) && SeqAt.shaped (.list (l.map hD)))=true then some (PyData.bool (!(l.map hD).any fun z=>PyData.eqv z (.int (r:Int)))) else none)=_
 rw [s1,s2,Mv]
 rfl
theorem Gs (ns:List Int) {at':Int} {L:List Ty} {M:Nat} {now:Int} (ok:TOk L M now) (hM:M ≤ 12) (ha:0 ≤ at') :
 ∃ h:Nat→Int,lg [.list (ns.map .int),.int at',.list (L.map yD),.int (M:Int)]=some (.list (plD L.length h))∧Xg.Valid (ssT L now) h∧(∀ k,k < L.length→0 ≤ h k∧h k < (M:Int))∧∀ k r,k < L.length→hk L k=some r→h k=(r:Int):=by
 have l24:=ok.len
 have C0:dW (gNl 0) (D3.jM) (cR (dOp gIx (aF 0) (dC (.int 2)))) (jj 1 [] [some (.d (.list (ns.map .int))),some (.d (.int at')),some (.d (.list (L.map yD))),some (.d (.int (M:Int))),none,none,none,none,none]) (L.map yD)=some ((aG L.length).map fun k=>hD (hk L k)):=by
  rw [lJ]
  exact yF (fun k=>yD (tAt L k)) (fun k=>hD (hk L k)) (aG L.length) fun k _=>⟨[some (.d (yD (tAt L k)))],rfl,rfl,by
   have fl:flat (hD (tAt L k).2.2)=true:=by cases (tAt L k).2.2 <;> rfl
   unfold yD hk
   simp only [EV,reduceIte,au,aA,ao,aq,aB,aC,aD,at2,fl]⟩
 have lL:(L.map yD).length=L.length:=aJ _
 have lL':L.length ≤ 100000:=by omega
 have rg:nQ (some [.int (L.length:Int)])=some (dZ 0 (L.length:Int)):=Cg (by omega) (by omega)
 have rgM:nQ (some [.int (M:Int)])=some (dZ 0 (M:Int)):=Cg (by omega) (by omega)
 have rn:dZ 0 (L.length:Int)=(aG L.length).map fun k:Nat=>PyData.int (k:Int):=by rw [pZ];rfl
 have rM:dZ 0 (M:Int)=(aG M).map fun k:Nat=>PyData.int (k:Int):=by rw [pZ];rfl
 have lr:(dZ 0 (L.length:Int)).length ≤ 100000:=by rw [mW];omega
 have lrM:(dZ 0 (M:Int)).length ≤ 100000:=by rw [mW];omega
 have ay:∀ k:Nat,k < L.length→pAt (L.map yD) (k:Int)=some (.tuple [.int (bk L k),.int (ek L k),hD (hk L k)]):=fun k hk'=>by rw [lJ,vN _ hk'];rfl
 have C1:∀ u,dW (gNl 0) (D3.jM) (cR (dTup (aH (dOp gIx (dOp gIx (aF 1) (aF 0)) (dC (.int 0))) (aH (aF 0) (bh))))) (jj 1 [2] [some (.d (.list (ns.map .int))),some (.d (.int at')),some (.d (.list (L.map yD))),some (.d (.int (M:Int))),u,none,none,none,none]) (dZ 0 (L.length:Int))=some ((aG L.length).map fun k:Nat=>PyData.tuple [.int (bk L k),.int (k:Int)]):=fun u=>by
  rw [rn]
  exact yF (fun k:Nat=>PyData.int (k:Int)) _ (aG L.length) fun k hk'=>⟨[some (.d (.int (k:Int))),some (.d (.list (L.map yD)))],rfl,rfl,by
   have a:=ay k (aR.mp hk')
   have fl:flat (.tuple [.int (bk L k),.int (k:Int)])=true:=rfl
   simp only [EV,reduceIte,au,aA,ao,aq,aB,aC,aD,a,at0,zl2,fl]⟩
 obtain ⟨O,eO,pO,sO⟩:=Cu L.length (bk L) (by omega)
 have nO:O.Nodup:=pO.nodup_iff.mpr iz
 have okk:∀ k,k < L.length→bk L k < ek L k:=fun k h=>(ok.ok _ (fG h)).1
 have g1:∀ k r,k < L.length→hk L k=some r→bk L k ≤ now:=fun k r h z=>((ok.ok _ (fG h)).2.1 r z).2.1
 have g2:∀ k,k < L.length→hk L k=none→now ≤ bk L k:=fun k h z=>(ok.ok _ (fG h)).2.2 z
 have P0:Pl.PInv L.length M (bk L) (ek L) (hk L) [] (hk L):=Pl.start (fun k r h z=>((ok.ok _ (fG h)).2.1 r z).1) (fun k l r h1 h2 z1 z2=>rP ok.nd h1 h2 z1 z2)
 obtain ⟨δ',e,seat,u5,u6,u7,u8,I,rfl⟩:=jo (g:=(gTn 2 (cM (gNl 5) (cM (gNl 6) (jN))))) (b:=(b_ (bW 7 (gD (kJ (aH (dCall jm (aH (aF 2) (bh))) (bh))) (gNl 0) (D3.jA (bB (dOp gLe (dOp gIx (dOp gIx (aF 3) (aF 0)) (dC (.int 0))) (aF 2))) (bB (dOp gLt (aF 2) (dOp gIx (dOp gIx (aF 3) (aF 0)) (dC (.int 1)))))) (cR (dOp gIx (aF 1) (aF 0))) 1 [4,5,2])) (b_ (bW 8 (gD (kJ (aH (aF 3) (bh))) (gNl 0) (bB (dOp nj (aF 0) (aF 1))) (cR (aF 0)) 1 [7])) (sIf (bB (dUn oE (dOp gIx (aF 4) (aF 6)))) (rm 4 (aF 6) (dOp gIx (aF 8) (dCall bL (aH (aF 0) (aH (aF 1) (aH (aF 6) (aH (dCall jm (aH (aF 8) (bh))) (bh)))))))) (fO)))))
  (fun i δ=>∃ (seat:Nat→Option Nat) (u5 u6 u7 u8:Option U),Pl.PInv L.length M (bk L) (ek L) (hk L) (O.take i) seat∧δ=[some (.d (.list (ns.map .int))),some (.d (.int at')),some (.d (.list (L.map yD))),some (.d (.int (M:Int))),some (.d (.list ((aG L.length).map fun k=>hD (seat k)))),u5,u6,u7,u8]) (O.map fun k:Nat=>PyData.tuple [.int (bk L k),.int (k:Int)])
  [some (.d (.list (ns.map .int))),some (.d (.int at')),some (.d (.list (L.map yD))),some (.d (.int (M:Int))),some (.d (.list ((aG L.length).map fun k=>hD (hk L k)))),none,none,none,none] ⟨hk L,none,none,none,none,P0,rfl⟩ (by
   rintro i d δ hd ⟨seat,u5,u6,u7,u8,I,rfl⟩
   rw [aQ] at hd
   cases hi:O[i]? with
   | none=>rw [hi] at hd;cases hd
   | some c =>
    rw [hi] at hd
    cases hd
    have hiL:i < O.length:=(cD.mp hi).1
    have et:O.take (i + 1)=O.take i++[c]:=by rw [iU,hi];rfl
    have sp:O=O.take i++c :: O.drop (i + 1):=by
     rw [aZ hiL] at hi
     cases hi
     rw [nW,jU]
    have hc:c ∉ O.take i:=fun z=>by
     rw [sp] at nO
     exact (mH.mp nO).2.2 c z c aN rfl
    have mem:∀ p ∈ O,p < L.length:=fun p hp=>aR.mp (pO.mem_iff.mp hp)
    have hcn:c < L.length:=mem c (fJ hi)
    have hb:∀ p ∈ O.take i,bk L p ≤ bk L c:=fun p hp=>by
     rw [sp] at sO
     exact (iZ.mp sO).2.2 p hp c aN
    have as:∀ k:Nat,k < L.length→pAt ((aG L.length).map fun k=>hD (seat k)) (k:Int)=some (hD (seat k)):=fun k h=>vN _ h
    have C2:dW (gNl 0) (D3.jA (bB (dOp gLe (dOp gIx (dOp gIx (aF 3) (aF 0)) (dC (.int 0))) (aF 2))) (bB (dOp gLt (aF 2) (dOp gIx (dOp gIx (aF 3) (aF 0)) (dC (.int 1)))))) (cR (dOp gIx (aF 1) (aF 0))) (jj 1 [4,5,2] [some (.d (.list (ns.map .int))),some (.d (.int at')),some (.d (.list (L.map yD))),some (.d (.int (M:Int))),some (.d (.list ((aG L.length).map fun k=>hD (seat k)))),some (.d (.int (bk L c))),some (.d (.int (c:Int))),u7,u8]) (dZ 0 (L.length:Int))=some ((((aG L.length).filter (Gr.holds (bk L) (ek L) (bk L c))).map seat).map hD):=by
     rw [rn,dR]
     exact vg (fun k:Nat=>PyData.int (k:Int)) (Gr.holds (bk L) (ek L) (bk L c)) _ (aG L.length) fun k hk'=>⟨[some (.d (.int (k:Int))),some (.d (.list ((aG L.length).map fun k=>hD (seat k)))),some (.d (.int (bk L c))),some (.d (.list (L.map yD)))],rfl,by
      have a:=ay k (aR.mp hk')
      unfold Gr.holds
      simp only [EV,reduceIte,au,aA,ao,aq,aB,aC,aD,a,at0,at1]
      cases decide (bk L k ≤ bk L c) <;> simp only [D3.qTA,iT,fH] <;> simp only [EV,reduceIte,au,aA,ao,aq,aB,aC,aD,a,at0,at1],fun _=>by
      have a:=as k (aR.mp hk')
      have fl:flat (hD (seat k))=true:=by cases seat k <;> rfl
      simp only [EV,reduceIte,au,aA,ao,aq,aB,aC,aD,a,fl]
      rfl⟩
    obtain ⟨B,hB⟩:∃ B,B=((aG L.length).filter (Gr.holds (bk L) (ek L) (bk L c))).map seat:=⟨_,rfl⟩
    rw [← hB] at C2
    have C3:dW (gNl 0) (bB (dOp nj (aF 0) (aF 1))) (cR (aF 0)) (jj 1 [7] [some (.d (.list (ns.map .int))),some (.d (.int at')),some (.d (.list (L.map yD))),some (.d (.int (M:Int))),some (.d (.list ((aG L.length).map fun k=>hD (seat k)))),some (.d (.int (bk L c))),some (.d (.int (c:Int))),some (.d (.list (B.map hD))),u8]) (dZ 0 (M:Int))=some (((aG M).filter fun r=>!decide (some r ∈ B)).map fun r:Nat=>PyData.int (r:Int)):=by
     rw [rM]
     exact vg (fun k:Nat=>PyData.int (k:Int)) (fun r=>!decide (some r ∈ B)) _ (aG M) fun r _=>⟨[some (.d (.int (r:Int))),some (.d (.list (B.map hD)))],rfl,by
      have:=CG B r
      simp only [EV,reduceIte,au,aA,ao,aq,aB,aC,aD,this],fun _=>by simp only [EV,reduceIte,au,aA,ao,aq,aB,aC,aD,fli]⟩
    have an:=as c hcn
    cases hs:seat c with
    | some x =>
     rw [hs] at an
     refine ⟨_,[some (.d (.list (ns.map .int))),some (.d (.int at')),some (.d (.list (L.map yD))),some (.d (.int (M:Int))),some (.d (.list ((aG L.length).map fun k=>hD (seat k)))),some (.d (.int (bk L c))),some (.d (.int (c:Int))),some (.d (.list (B.map hD))),some (.d (.list (((aG M).filter fun r=>!decide (some r ∈ B)).map fun r:Nat=>PyData.int (r:Int))))],rfl,.inl ?_,seat,_,_,_,_,?_,rfl⟩
     ·have nN:isNone (hD (some x))=false:=rfl
      simp only [EV,reduceIte,au,aA,ao,aq,aB,aC,aD,lL,rg,lr,C2,rgM,lrM,C3,an,nN]
     ·rw [et]
      exact Pl.skip I (by rw [hs];simp)
    | none =>
     rw [hs] at an
     have hcN:hk L c=none:=by
      cases z:hk L c with
      | none=>rfl
      | some r=>rw [I.hl c r hcn z] at hs;cases hs
     have cnt:((aG L.length).filter (Gr.holds (bk L) (ek L) (bk L c))).length ≤ M:=by
      have z:=ok.full _ (fG hcn)
      have y:=g2 c hcn hcN
      have e:(if (tAt L c).1 > now then (tAt L c).1 else now)=bk L c:=by
       unfold bk at y ⊢
       split <;> omega
      rw [e,Nz] at z
      exact z
     obtain ⟨r0,hr0,hf0⟩:=Pl.Gq I hcn hs (okk c hcn) cnt
     have inB:∀ r,some r ∉ B→∀ k,k < L.length→Gr.holds (bk L) (ek L) (bk L c) k=true→seat k ≠ some r:=fun r h k h1 h2 h3=>h (by rw [hB];exact cG.mpr ⟨k,bF.mpr ⟨aR.mpr h1,h2⟩,h3⟩)
     have fm:r0 ∈ (aG M).filter fun r=>!decide (some r ∈ B):=bF.mpr ⟨aR.mpr hr0,by
      have:¬ some r0 ∈ B:=fun z=>by
       rw [hB] at z
       obtain ⟨k,h1,h2⟩:=cG.mp z
       obtain ⟨h3,h4⟩:=bF.mp h1
       exact hf0 k (aR.mp h3) h4 h2
      simp [this]⟩
     obtain ⟨Fr,hFr⟩:∃ Fr,Fr=(aG M).filter fun r=>!decide (some r ∈ B):=⟨_,rfl⟩
     rw [← hFr] at C3 fm
     have Fpos:0 < Fr.length:=List.length_pos_of_mem fm
     have q:=dN (ns:=ns) (i:=at') (k:=(c:Int)) (m:=(Fr.length:Int)) ha (by omega) (by omega) (by omega)
     have qr:=dw ns at' (c:Int) (m:=(Fr.length:Int)) (by omega)
     generalize iD ns at' (c:Int) (Fr.length:Int)=ix at *
     obtain ⟨r,hr,er⟩:=Mg (fun r:Nat=>PyData.int (r:Int)) (l:=Fr) qr.1 qr.2
     rw [hFr] at hr
     obtain ⟨hr1,hr2⟩:=bF.mp hr
     have hr3:some r ∉ B:=by simpa using hr2
     have lF:(Fr.map fun r:Nat=>PyData.int (r:Int)).length=Fr.length:=aJ _
     have p4:=Gp (l:=(aG L.length).map fun k=>hD (seat k)) (n:=L.length) (by rw [aJ,aY]) hcn
     refine ⟨_,[some (.d (.list (ns.map .int))),some (.d (.int at')),some (.d (.list (L.map yD))),some (.d (.int (M:Int))),some (.d (.list (((aG L.length).map fun k=>hD (seat k)).set c (.int (r:Int))))),some (.d (.int (bk L c))),some (.d (.int (c:Int))),some (.d (.list (B.map hD))),some (.d (.list (Fr.map fun r:Nat=>PyData.int (r:Int))))],rfl,.inl ?_,?_⟩
     ·have nN:isNone (hD none)=true:=rfl
      generalize (aG L.length).map (fun k=>hD (seat k))=SS at *
      simp only [EV,reduceIte,au,aA,ao,aq,aB,aC,aD,lL,rg,lr,C2,rgM,lrM,C3,an,nN,lF,q,er,p4,aL]
     ·refine ⟨fun k=>if k=c then some r else seat k,some (.d (.int (bk L c))),some (.d (.int (c:Int))),some (.d (.list (B.map hD))),some (.d (.list (Fr.map fun r:Nat=>PyData.int (r:Int)))),?_,?_⟩
      ·rw [et]
       exact Pl.step I hcn hs hc hb g1 g2 (aR.mp hr1) (inB r hr3)
      ·rw [xr]
       have:(fun p=>if p=c then PyData.int (r:Int) else hD (seat p))=fun p=>hD (if p=c then some r else seat p):=by
        funext p
        by_cases z:p=c
        ·rw [if_pos z,if_pos z];rfl
        ·rw [if_neg z,if_neg z]
       rw [this])
 rw [aJ,ji] at I
 have all:∀ k,k < L.length→∃ r,seat k=some r∧r < M:=fun k hk'=>by
  cases z:seat k with
  | none=>exact absurd z (I.inn k (pO.mem_iff.mpr (aR.mpr hk')) hk')
  | some r=>exact ⟨r,rfl,I.lt k r hk' z⟩
 have pe:(aG L.length).map (fun k=>hD (seat k))=plD L.length (fun k=>(((seat k).getD 0:Nat):Int)):=Nx fun k hk'=>by
  obtain ⟨r,z,_⟩:=all k hk'
  show hD (seat k)=PyData.int (((seat k).getD 0:Nat):Int)
  rw [z];rfl
 refine ⟨fun k=>(((seat k).getD 0:Nat):Int),?_,fun k l h1 h2 ne a b z=>?_,fun k h=>?_,fun k r h z=>?_⟩
 ·have fl:flats ((aG L.length).map fun k=>hD (seat k))=true:=gC _ (fun k=>by cases seat k <;> rfl) _
  unfold lg
  simp only [EV,reduceIte,au,aA,ao,aq,aB,aC,aD,lL',C0,lL,rg,lr,C1,eO]
  rw [e]
  simp only [EV,reduceIte,au,aA,ao,aq,aB,aC,aD,jZ,fl]
  rw [pe]
 ·obtain ⟨r,z1,_⟩:=all k h1
  obtain ⟨r',z2,_⟩:=all l h2
  have z:(((seat k).getD 0:Nat):Int)=(((seat l).getD 0:Nat):Int):=z
  rw [z1,z2] at z
  have:r=r':=by
   have z:(r:Int)=(r':Int):=z
   omega
  subst this
  have:=I.dj k l r h1 h2 ne z1 z2
  have a':bk L k < ek L l:=a
  have b':bk L l < ek L k:=b
  omega
 ·obtain ⟨r,z1,z2⟩:=all k h
  show (0:Int) ≤ (((seat k).getD 0:Nat):Int)∧(((seat k).getD 0:Nat):Int) < M
  rw [z1]
  show (0:Int) ≤ (r:Int)∧(r:Int) < M
  omega
 ·show (((seat k).getD 0:Nat):Int)=_
  rw [I.hl k r h z];rfl
theorem VJ {L:List Ty} {k:Nat} (h:L.length ≤ k):hk L k=none:=by
 unfold hk tAt
 rw [bI,bA h]
 rfl
section
variable {L:List Ty} {M:Nat} {now:Int}
theorem CJ (ok:TO0 L M now) (hM:M ≤ 12):∃ f:Nat→Int,cj [.list (L.map yD),.int (M:Int),.int now]=some (.list ((aG M).map fun r:Nat=>PyData.int (f r)))∧∀ r,r < M→(∃ k,k < L.length∧hk L k=some r∧f r=ek L k)∨((∀ k,k < L.length→hk L k ≠ some r)∧f r=now):=by
 have l24:=ok.len
 have rp:Hl (.list [.int now]) (.int (M:Int))=some (.list ((aG M).map fun r:Nat=>PyData.int ((fun _=>now) r))):=by
  rw [UJ (by omega) (by omega),gQ,Mt]
 have mt:L.map yD=(aG L.length).map fun k=>PyData.tuple [.int (bk L k),.int (ek L k),hD (hk L k)]:=by rw [lJ];rfl
 obtain ⟨δ',e,f,u,hf,rfl⟩:=jo (g:=(gNl 4)) (b:=(sIf (bB (dUn mO (dOp gIx (aF 4) (dC (.int 2))))) (rm 3 (dOp gIx (aF 4) (dC (.int 2))) (dOp gIx (aF 4) (dC (.int 1)))) (fO)))
  (fun i δ=>∃ (f:Nat→Int) (u:Option U),(∀ r,r < M→(∃ k,k < i∧hk L k=some r∧f r=ek L k)∨((∀ k,k < i→hk L k ≠ some r)∧f r=now))∧δ=[some (.d (.list (L.map yD))),some (.d (.int (M:Int))),some (.d (.int now)),some (.d (.list ((aG M).map fun r:Nat=>PyData.int (f r)))),u]) (L.map yD)
  [some (.d (.list (L.map yD))),some (.d (.int (M:Int))),some (.d (.int now)),some (.d (.list ((aG M).map fun r:Nat=>PyData.int ((fun _=>now) r)))),none] ⟨fun _=>now,none,fun r _=>.inr ⟨fun k hk'=>absurd hk' (oU _),rfl⟩,rfl⟩ (by
   rintro i d δ hd ⟨f,u,hf,rfl⟩
   have hi:i < L.length:=by
    have:=(cD.mp hd).1
    rwa [aJ] at this
   rw [mt,aQ,bU hi] at hd
   cases hd
   cases hh:hk L i with
   | none =>
    have nn:isNone (hD none)=true:=rfl
    refine ⟨_,[some (.d (.list (L.map yD))),some (.d (.int (M:Int))),some (.d (.int now)),some (.d (.list ((aG M).map fun r:Nat=>PyData.int (f r)))),some (.d (.tuple [.int (bk L i),.int (ek L i),hD none]))],rfl,.inl ?_,f,_,fun r hr=>?_,rfl⟩
    ·simp only [EV,reduceIte,au,aA,ao,aq,aB,aC,aD,hh,at2,nn,cg]
    ·rcases hf r hr with ⟨k,k1,k2⟩ | ⟨k1,k2⟩
     ·exact .inl ⟨k,by omega,k2⟩
     ·refine .inr ⟨fun k hk'=>?_,k2⟩
      by_cases z:k=i
      ·rw [z,hh];exact fun w=>nomatch w
      ·exact k1 k (by omega)
   | some r0 =>
    have nn:isNone (hD (some r0))=false:=rfl
    have hr0:r0 < M:=((ok.ok _ (fG hi)).2.1 r0 hh).1
    have hv:hD (some r0) = .int (r0:Int):=rfl
    have p3:=Gp (l:=(aG M).map fun r:Nat=>PyData.int (f r)) (by rw [aJ,aY]) hr0
    have st:=xr (n:=M) (c:=r0) (d:=.int (ek L i)) (fun r:Nat=>PyData.int (f r))
    refine ⟨_,[some (.d (.list (L.map yD))),some (.d (.int (M:Int))),some (.d (.int now)),some (.d (.list (((aG M).map fun r:Nat=>PyData.int (f r)).set r0 (.int (ek L i))))),some (.d (.tuple [.int (bk L i),.int (ek L i),hD (some r0)]))],rfl,.inl ?_,fun r=>if r=r0 then ek L i else f r,some (.d (.tuple [.int (bk L i),.int (ek L i),hD (some r0)])),fun r hr=>?_,?_⟩
    ·generalize (aG M).map (fun r:Nat=>PyData.int (f r))=FF at *
     simp only [EV,reduceIte,au,aA,ao,aq,aB,aC,aD,hh,hv,at1,at2,cL,p3,aL]
    ·by_cases z:r=r0
     ·exact .inl ⟨i,by omega,by rw [z];exact hh,by show (if r=r0 then ek L i else f r)=_;rw [if_pos z]⟩
     ·show (∃ k,k < i + 1∧hk L k=some r∧(if r=r0 then ek L i else f r)=ek L k)∨((∀ k,k < i + 1→hk L k ≠ some r)∧(if r=r0 then ek L i else f r)=now)
      rw [if_neg z]
      rcases hf r hr with ⟨k,k1,k2⟩ | ⟨k1,k2⟩
      ·exact .inl ⟨k,by omega,k2⟩
      ·refine .inr ⟨fun k hk'=>?_,k2⟩
       by_cases w:k=i
       ·rw [w,hh]
        intro y
        injection y with y
        exact z y.symm
       ·exact k1 k (by omega)
    ·rw [st]
     have:(fun x:Nat=>if x=r0 then PyData.int (ek L i) else PyData.int (f x))=fun x=>PyData.int (if x=r0 then ek L i else f x):=by
      funext x
      by_cases z:x=r0
      ·rw [if_pos z,if_pos z]
      ·rw [if_neg z,if_neg z]
     rw [this])
 rw [aJ] at hf
 refine ⟨f,?_,hf⟩
 have fl:flats ((aG M).map fun r:Nat=>PyData.int (f r))=true:=gC _ (fun _=>rfl) _
 show Com.cj _=_
 unfold Com.cj
 simp only [EV,reduceIte,au,aA,ao,aq,aB,aC,aD,zl1,rp]
 rw [e]
 simp only [EV,reduceIte,au,aA,ao,aq,aB,aC,aD,jZ,fl]
def hel (L:List Ty):List Nat:=(aG L.length).filter fun k=>(hk L k).isSome
theorem qe {k:Nat}:k ∈ hel L↔k < L.length∧(hk L k).isSome=true:=by
 unfold hel
 rw [bF,aR]
end
theorem TO0.of {L:List Ty} {M:Nat} {now:Int} (ok:TOk L M now):TO0 L M now:=⟨ok.len,fun s hs=>⟨⟨(ok.ok s hs).1,(ok.bd s hs).1,(ok.bd s hs).2⟩,(ok.ok s hs).2⟩,ok.nd⟩
theorem Ak {L:List Ty} {M:Nat} {now:Int} (ok:TOk L M now):gY L now ≤ M:=by
 cases e:L.filter (hol now) with
 | nil=>unfold gY;rw [e];exact dU _
 | cons s r =>
  have hs:s ∈ L.filter (hol now):=by rw [e];exact aN
  obtain ⟨h1,h2⟩:=bF.mp hs
  have:=ok.full s h1
  unfold hol at h2
  rw [aM,decide_eq_true_iff] at h2
  rwa [if_neg (by omega)] at this
theorem Ei {L:List Ty} {M:Nat} {now:Int} (ok:TOk L M now) {s:Ty} (hs:s ∈ L) (h:now ≤ s.1):gY L s.1 ≤ M:=by
 have:=ok.full s hs
 by_cases z:s.1 > now
 ·rwa [if_pos z] at this
 ·rw [if_neg z] at this
  have:s.1=now:=by omega
  rw [this]
  exact Ak ok
theorem Ej {L:List Ty} {g:FG} {c:FT} {e:FE} (hg:g=gNl 0) (hc:c=D3.jM) (he:e=dCall Com.cU (aH (aF 0) (bh))) (δ0:DS):dW g c e (jj 1 [] δ0) (L.map yD)=some ((nS L).map stD):=by
 subst hg hc he
 unfold nS
 rw [dR]
 exact yF yD _ L fun s _=>⟨[some (.d (yD s))],rfl,rfl,by
  obtain ⟨a,b,c⟩:=s
  have:Com.cU [.tuple [.int a,.int b,hD c]]=_:=qd a b (hD c)
  unfold yD
  simp only [EV,reduceIte,au,aA,ao,aq,aB,aC,aD,this]
  rfl⟩
theorem Mw {L:List Ty} {M:Nat} {now:Int} (ok:TOk L M now):gU [.list (L.map yD),.int (M:Int),.int now]=some .none:=by
 have l24:=ok.len
 have len:(L.map yD).length ≤ 100000:=by rw [aJ];omega
 have ff:=Mu (L:=L) (M:=M) (now:=now) l24
 have no:(now :: nG (LT L now)).find? (pM L M)=none:=qp.mpr fun x hx=>by
  have:gY L x ≤ M:=by
   rcases bH.mp hx with rfl | z
   ·exact Ak ok
   ·obtain ⟨z1,z2⟩:=bF.mp ((jE _).mem_iff.mp z)
    obtain ⟨s,s1,rfl⟩:=cG.mp z1
    have z2:=of_decide_eq_true z2
    exact Ei ok s1 (by omega)
  unfold pM
  rw [decide_eq_true_iff]
  omega
 rw [no] at ff
 have ff:Com.jQ [.list ((nS L).map stD),.int (M:Int),.int now]=some .none:=ff
 have C:=fun δ0=>Ej (L:=L) (g:=(gNl 0)) (c:=(D3.jM)) (e:=(dCall cU (aH (aF 0) (bh)))) rfl rfl rfl δ0
 have nn:isNone .none=true:=rfl
 show Com.gU _=_
 unfold Com.gU
 simp only [EV,reduceIte,au,aA,ao,aq,aB,aC,aD,len,C,ff,nn,cg]
theorem yL {L:List Ty} {M:Nat} {now:Int} (ok:TOk L M now) {w:Nat} (hw:w < L.length) (hn:hk L w=none):je [.list (L.map yD),.int (M:Int),.int now,.int (w:Int)]=some .none:=by
 have l24:=ok.len
 have c1:=JB (TO0.of ok)
 have c2:=Mw ok
 have a1:=ay hw
 have ll:((L.map yD).length:Int)=(L.length:Int):=by rw [aJ]
 have z1:decide ((0:Int) ≤ (w:Int))=true:=dTr (by omega)
 have z2:decide ((w:Int) < (L.length:Int))=true:=dTr (by omega)
 have nn:isNone (hD none)=true:=rfl
 rw [hn] at a1
 unfold je
 simp only [EV,reduceIte,au,aA,ao,aq,aB,aC,aD,c1,c2,ll,z1,z2,a1,at2,nn,cg]
theorem yM {M r:Nat} (h:r < M):d_ [.int (M:Int),.int (r:Int)]=some .none:=by
 have z1:decide ((0:Int) ≤ (r:Int))=true:=dTr (by omega)
 have z2:decide ((r:Int) < (M:Int))=true:=dTr (by omega)
 show Com.d_ _=_
 unfold Com.d_
 simp only [EV,reduceIte,au,aA,ao,aq,aB,aC,aD,z1,z2,cg]
def gA (L:List Ty) (w k:Nat) (x:Int):Bool:=!decide (k=w) && (!(hk L k).isSome && (decide (bk L k=x) && decide (ek L k ≤ bk L w)))
theorem JD {L:List Ty} {w k:Nat} {x:Int} (hw:w < L.length) (hk':k < L.length):fj [.list (L.map yD),.int (w:Int),.int (k:Int),.int x]=some (.bool (gA L w k x)):=by
 have a1:=ay hw
 have a2:=ay hk'
 have nn:=yJ (hk L k)
 have e1:decide ((k:Int)=(w:Int))=decide (k=w):=decide_eq_decide.mpr (by omega)
 unfold gA
 show Com.fj _=_
 unfold Com.fj
 cases c1:decide (k=w) with
 | true=>simp only [EV,reduceIte,au,aA,ao,aq,aB,aC,aD,a1,a2,at0,at1,at2,nn,e1,c1,cg,fH]
 | false =>
  cases c2:(hk L k).isSome with
  | true=>simp only [EV,reduceIte,au,aA,ao,aq,aB,aC,aD,a1,a2,at0,at1,at2,nn,e1,c1,c2,cg,cL,fH,iT]
  | false =>
   cases c3:decide (bk L k=x) with
   | true=>simp only [EV,reduceIte,au,aA,ao,aq,aB,aC,aD,a1,a2,at0,at1,at2,nn,e1,c1,c2,c3,cg,cL,fH,iT]
   | false=>simp only [EV,reduceIte,au,aA,ao,aq,aB,aC,aD,a1,a2,at0,at1,at2,nn,e1,c1,c2,c3,cg,cL,fH,iT]
theorem JF {L:List Ty} {M:Nat} {x:Int} (hl:L.length ≤ 24):iM [.list (L.map yD),.int (M:Int),.int x]=some (.bool (decide (gY L x=M))):=by
 have len:(L.map yD).length ≤ 100000:=by rw [aJ];omega
 have C:=fun δ0=>Ej (L:=L) (g:=(gNl 0)) (c:=(D3.jM)) (e:=(dCall cU (aH (aF 0) (bh)))) rfl rfl rfl δ0
 have cs:=vm (ss:=nS L) (by unfold nS;rw [aJ];omega) x
 rw [JC] at cs
 have e1:decide ((gY L x:Int)=(M:Int))=decide (gY L x=M):=decide_eq_decide.mpr (by omega)
 show Com.iM _=_
 unfold Com.iM
 simp only [EV,reduceIte,au,aA,ao,aq,aB,aC,aD,len,C,cs,e1]
def pqD (s:Int × Option Nat):D:=.tuple [.int s.1,hD s.2]
def gos (L:List Ty) (w:Nat) (x:Int):List Nat:=(aG L.length).filter fun k=>gA L w k x
def stp (L:List Ty) (M w:Nat) (x:Int):List (Int × Option Nat):=((gos L w x).map fun k=>(ek L k,some k))++if gY L x=M then [] else [(x + 1,none)]
theorem Ri {L:List Ty} {M w:Nat} {x:Int} (hl:L.length ≤ 24) (hw:w < L.length):fu [.list (L.map yD),.int (M:Int),.int (w:Int),.int x]=some (.list ((stp L M w x).map pqD)):=by
 have en:jV (L.map yD)=(aG L.length).map fun p:Nat=>PyData.tuple [.int (p:Int),yD (tAt L p)]:=by rw [lJ];exact Cv _
 have C:dW (gTn 2 (cM (gNl 0) (cM (gNl 1) (jN)))) (bB (dCall fj (aH (aF 2) (aH (aF 3) (aH (aF 0) (aH (aF 4) (bh))))))) (cR (dTup (aH (dOp gIx (aF 1) (dC (.int 1))) (aH (aF 0) (bh))))) (jj 2 [0,2,3] [some (.d (.list (L.map yD))),some (.d (.int (M:Int))),some (.d (.int (w:Int))),some (.d (.int x)),none]) (jV (L.map yD))=some ((gos L w x).map fun k=>pqD (ek L k,some k)):=by
  rw [en]
  exact vg (fun p:Nat=>PyData.tuple [.int (p:Int),yD (tAt L p)]) (fun k=>gA L w k x) (fun k=>pqD (ek L k,some k)) (aG L.length) fun p hp=>⟨[some (.d (.int (p:Int))),some (.d (yD (tAt L p))),some (.d (.list (L.map yD))),some (.d (.int (w:Int))),some (.d (.int x))],rfl,by
   have:=JD (x:=x) hw (aR.mp hp)
   have:Com.fj _=_:=this
   simp only [EV,reduceIte,au,aA,ao,aq,aB,aC,aD,this],fun _=>by
   unfold yD
   simp only [EV,reduceIte,au,aA,ao,aq,aB,aC,aD,at1]
   rfl⟩
 have el:(jV (L.map yD)).length ≤ 100000:=by rw [en,aJ,aY];omega
 have tt:Com.iM _=_:=JF (M:=M) (x:=x) hl
 have gl:(gos L w x).length ≤ 24:=by
  have:=cI (fun k=>gA L w k x) (aG L.length)
  rw [aY] at this
  exact bT this hl
 have lm:((gos L w x).map fun k=>pqD (ek L k,some k)).length < 1000000:=by rw [aJ];omega
 have f1:flats ((gos L w x).map fun k=>pqD (ek L k,some k))=true:=gC _ (fun _=>rfl) _
 unfold stp
 show Com.fu _=_
 unfold Com.fu
 by_cases z:gY L x=M
 ·rw [dTr z] at tt
  rw [if_pos z,cP,dR]
  simp only [EV,reduceIte,au,aA,ao,aq,aB,aC,aD,el,C,tt,cg,jZ,f1]
  rfl
 ·rw [dFa z] at tt
  rw [if_neg z,eE,dR]
  have f2:flats (((gos L w x).map fun k=>pqD (ek L k,some k))++[pqD (x + 1,none)])=true:=by
   rw [show [pqD (x + 1,none)]=([(x + 1,none)]:List (Int × Option Nat)).map pqD from rfl]
   rw [show ((gos L w x).map fun k=>pqD (ek L k,some k))=((gos L w x).map fun k=>(ek L k,some k)).map pqD by rw [dR];rfl,← eE]
   exact gC _ (fun s=>by obtain ⟨a,b⟩:=s;cases b <;> rfl) _
  have f2':flats (((gos L w x).map fun k=>pqD (ek L k,some k))++[PyData.tuple [.int (x + 1),.none]])=true:=f2
  simp only [EV,reduceIte,au,aA,ao,aq,aB,aC,aD,el,C,tt,cL,zl2,lm,jZ,f2']
  rfl
theorem um {S:List (Int × D)} {k x:Int} {d:D} (h:(dO S x).isSome=true):dO (mF S k d) x=dO S x:=by
 unfold mF
 split
 ·rfl
 ·unfold dO at h ⊢
  rw [qY]
  cases e:S.find? fun q=>decide (q.1=x) with
  | none=>rw [e] at h;cases h
  | some q=>rfl
theorem yN {S:List (Int × D)} {k x:Int} {d:D} (h:dO S x=none):dO (mF S k d) x=if x=k then some d else none:=by
 unfold mF
 split
 ·next c =>
  by_cases z:x=k
  ·rw [← z,h] at c;cases c
  ·rw [if_neg z];exact h
 ·unfold dO at h ⊢
  rw [qY]
  cases e:S.find? fun q=>decide (q.1=x) with
  | some q=>rw [e] at h;cases h
  | none =>
   show (([(k,d)]:List (Int × D)).find? fun q=>decide (q.1=x)).map (·.2)=_
   by_cases z:x=k
   ·rw [if_pos z,nY (by simp [z])];rfl
   ·rw [if_neg z,nZ (by simp;exact fun y=>z y.symm)];rfl
theorem rQ {S:List (Int × D)} {k x:Int} {d:D} (h:(dO S x).isSome=true):(dO (mF S k d) x).isSome=true:=by rw [um h];exact h
theorem JG {S:List (Int × D)} {k:Int} {d:D}:(dO (mF S k d) k).isSome=true:=by
 cases h:dO S k with
 | none=>rw [yN h,if_pos rfl];rfl
 | some v=>rw [um (by rw [h];rfl),h];rfl
theorem Mx (S:List (Int × D)) (k:Int) (d:D):(mF S k d).length ≤ S.length + 1:=by
 unfold mF
 split
 ·omega
 ·rw [bQ];exact bf _
def qTv (i:Nat) (x y z:Option D) (δ:DS):Option Oc:=x.bind fun x=>y.bind fun y=>z.bind fun z=>(tW x).bind fun S=>match y with
 | .int k=>if tvD z=true∧S.length < 1000000 then some (.nx (δ.set i (some (.d (dtv (mF S k z)))))) else none
 | _=>none
theorem Mz {i:Nat} {fk fv:FE} {δ:DS}:uV i fk fv δ=qTv i (aF i δ) (fk δ) (fv δ) δ:=rfl
theorem Gu {i:Nat} {S:List (Int × D)} {k:Int} {z:D} {δ:DS} (hA:tvA S=true) (hz:tvD z=true) (h:S.length < 1000000):qTv i (some (dtv S)) (some (.int k)) (some z) δ=some (.nx (δ.set i (some (.d (dtv (mF S k z)))))):=by
 unfold qTv
 rw [aL,aL,aL,pX hA,aL]
 show (if _ then _ else _)=_
 rw [if_pos ⟨hz,h⟩]
theorem MF {fk:FE} {δ:DS} {i:Int} (h:fk δ=some (.int i)):uU fk δ=some (dtv [(i,.none)]):=by
 unfold uU
 rw [h]
 rfl
theorem Rj {S:List (Int × D)} {k:Int} (hA:tvA S=true):z7 (.int k) (dtv S)=some (.bool (dO S k).isSome):=by
 unfold z7
 rw [pX hA]
 rfl
theorem xu {S:List (Int × D)} {k:Int} (hA:tvA S=true):rH (.int k) (dtv S)=some (.bool (!(dO S k).isSome)):=by
 unfold rH
 rw [pX hA]
 rfl
theorem Ek {S:List (Int × D)} {k:Int} (hA:tvA S=true):oN (dtv S) (.int k)=dO S k:=by
 unfold oN
 rw [pX hA]
 rfl
theorem NK (x:Int) (p:Option Nat):tvD (.tuple [.int x,hD p])=true:=by cases p <;> rfl
abbrev Gk (L:List Ty) (w k:Nat):Prop:=Rch.Go L.length (bk L) (ek L) (hk L) w k
def Stp (L:List Ty) (M w:Nat) (y:Int) (p:Option Nat) (x:Int):Prop:=match p with
 | none=>gY L y ≠ M∧x=y + 1
 | some k=>Gk L w k∧bk L k=y∧ek L k=x
theorem uo {L:List Ty} {M w:Nat} {y:Int} {s:Int × Option Nat}:s ∈ stp L M w y↔Stp L M w y s.2 s.1:=by
 obtain ⟨x,p⟩:=s
 unfold stp Stp
 rw [aV,cG]
 cases p with
 | none =>
  constructor
  ·rintro (⟨k,_,e⟩ | h)
   ·cases e
   ·by_cases z:gY L y=M
    ·rw [if_pos z] at h;cases h
    ·rw [if_neg z] at h
     have:=aK.mp h
     injection this with h1 h2
     exact ⟨z,h1⟩
  ·rintro ⟨h1,h2⟩
   right
   rw [if_neg h1]
   have h2:x=y + 1:=h2
   rw [h2]
   exact aK.mpr rfl
 | some k =>
  have gk:k ∈ gos L w y↔Gk L w k∧bk L k=y:=by
   unfold gos gA
   rw [bF,aR,aM,aM,aM,decide_eq_true_iff,decide_eq_true_iff]
   have:(!(hk L k).isSome)=true↔hk L k=none:=by cases hk L k <;> simp
   rw [this]
   simp only [Bool.not_eq_true',decide_eq_false_iff_not]
   constructor
   ·rintro ⟨h1,h2,h3,h4,h5⟩;exact ⟨⟨h1,h2,h3,h5⟩,h4⟩
   ·rintro ⟨⟨h1,h2,h3,h5⟩,h4⟩;exact ⟨h1,h2,h3,h4,h5⟩
  constructor
  ·rintro (⟨k',h1,e⟩ | h)
   ·injection e with e1 e2
    injection e2 with e2
    subst e2
    obtain ⟨g1,g2⟩:=gk.mp h1
    exact ⟨g1,g2,e1⟩
   ·split at h
    ·cases h
    ·have:=aK.mp h
     injection this with h1 h2
     cases h2
  ·rintro ⟨h1,h2,h3⟩
   exact .inl ⟨k,gk.mpr ⟨h1,h2⟩,by rw [show ek L k=x from h3]⟩
theorem El {S:List (Int × D)} {x:Int}:(dO S x).isSome=true↔x ∈ S.map (·.1):=by
 unfold dO
 rw [jJ,List.find?_isSome]
 constructor
 ·rintro ⟨q,h1,h2⟩
  exact cG.mpr ⟨q,h1,of_decide_eq_true h2⟩
 ·intro h
  obtain ⟨q,h1,h2⟩:=cG.mp h
  exact ⟨q,h1,dTr h2⟩
theorem Rm {S:List (Int × D)} {k:Int} {d:D} (h:(S.map (·.1)).Nodup):((mF S k d).map (·.1)).Nodup:=by
 unfold mF
 split
 ·exact h
 ·next c =>
  rw [eE]
  refine mH.mpr ⟨h,jD _ _,fun a ha b hb z=>c ?_⟩
  have hb:b=k:=aK.mp hb
  rw [hb] at z
  rw [z] at ha
  exact El.mpr ha
structure Sok (L:List Ty) (M w:Nat) (B:Int) (S:List (Int × D)):Prop where
 a:tvA S=true
 b:dO S B=some .none
 nd:(S.map (·.1)).Nodup
 c:∀ x d,dO S x=some d→(x=B∧d = .none)∨∃ (y:Int) (p:Option Nat),d = .tuple [.int y,hD p]∧B ≤ y∧y < x∧y < bk L w∧(dO S y).isSome=true∧Stp L M w y p x
theorem Sok.add {L:List Ty} {M w:Nat} {B x z:Int} {p:Option Nat} {S:List (Int × D)} (h:Sok L M w B S) (h1:B ≤ x) (h2:x < z) (h3:x < bk L w) (h4:(dO S x).isSome=true) (h5:Stp L M w x p z):Sok L M w B (mF S z (.tuple [.int x,hD p])):=by
 refine ⟨KN h.a (NK _ _),by rw [um (by rw [h.b];rfl)];exact h.b,Rm h.nd,fun y d e=>?_⟩
 cases hy:dO S y with
 | some v =>
  rw [um (by rw [hy];rfl)] at e
  rcases h.c y d e with q | ⟨y',p',q1,q2,q3,q4,q5,q6⟩
  ·exact .inl q
  ·exact .inr ⟨y',p',q1,q2,q3,q4,rQ q5,q6⟩
 | none =>
  rw [yN hy] at e
  split at e
  ·next c =>
   cases e
   exact .inr ⟨x,p,rfl,h1,by omega,h3,rQ h4,by rw [c];exact h5⟩
  ·cases e
theorem MJ {L:List Ty} {M w:Nat} {x:Int} (hl:L.length ≤ 24):(stp L M w x).length ≤ 25:=by
 have:=cI (fun k=>gA L w k x) (aG L.length)
 rw [aY] at this
 unfold stp gos
 rw [bQ,aJ]
 split <;> simp only [gO,bM] <;> omega
theorem NP {lo hi:Int} {i:Nat} {d:D} (h:(dZ lo hi)[i]? = some d):lo + (i:Int) < hi∧d = .int (lo + (i:Int)):=by
 unfold dZ at h
 rw [aQ] at h
 by_cases z:i < (hi - lo).toNat
 ·rw [bU z] at h
  cases h
  exact ⟨by omega,rfl⟩
 ·rw [bA (by simpa using z)] at h
  cases h
theorem vD {L:List Ty} {M w:Nat} {now B:Int} (ok:TOk L M now) (hw:w < L.length) (B0:0 ≤ B) (hB:B ≤ bk L w) :
 ∃ S,eY [.list (L.map yD),.int (M:Int),.int (w:Int),.int B]=some (dtv S)∧Sok L M w B S∧∀ x,B ≤ x→x < bk L w→(dO S x).isSome=true→∀ s ∈ stp L M w x,(dO S s.1).isSome=true:=by
 have l24:=ok.len
 have lt:∀ k,k < L.length→bk L k < ek L k:=fun k hk'=>(ok.ok _ (fG hk')).1
 have g400:bk L w ≤ 400:=by
  have:=(ok.bd _ (fG hw)).2
  have:=lt w hw
  show (tAt L w).1 ≤ 400
  have:(tAt L w).1 < (tAt L w).2.1:=this
  omega
 have aw:=ay hw
 have st0:Sok L M w B [(B,.none)]:=⟨rfl,by simp [dO],by simp,fun x d e=>by
  unfold dO at e
  by_cases z:B=x
  ·rw [nY (by simp [z])] at e
   cases e
   exact .inl ⟨z.symm,rfl⟩
  ·rw [nZ (by simp [z])] at e
   cases e⟩
 obtain ⟨δ',e,S,u5,u6,h1,h2,h3,rfl⟩:=jo (g:=(gNl 5)) (b:=(sIf (bB (dOp z7 (aF 5) (aF 4))) (mD (kI (dCall fu (aH (aF 0) (aH (aF 1) (aH (aF 2) (aH (aF 5) (bh))))))) (gNl 6) (uV 4 (dOp gIx (aF 6) (dC (.int 0))) (dTup (aH (aF 5) (aH (dOp gIx (aF 6) (dC (.int 1))) (bh)))))) (fO)))
  (fun i δ=>∃ (S:List (Int × D)) (u5 u6:Option U),Sok L M w B S∧S.length ≤ 1 + 25 * i∧(∀ x,B ≤ x→x < B + (i:Int)→(dO S x).isSome=true→∀ s ∈ stp L M w x,(dO S s.1).isSome=true) ∧
   δ=[some (.d (.list (L.map yD))),some (.d (.int (M:Int))),some (.d (.int (w:Int))),some (.d (.int B)),some (.d (dtv S)),u5,u6]) (dZ B (bk L w))
  [some (.d (.list (L.map yD))),some (.d (.int (M:Int))),some (.d (.int (w:Int))),some (.d (.int B)),some (.d (dtv [(B,.none)])),none,none] ⟨_,none,none,st0,(show 1 ≤ 1 + 25 * 0 by decide),fun x q1 q2=>by omega,rfl⟩ (by
   rintro i d δ hd ⟨S,u5,u6,h1,h2,h3,rfl⟩
   obtain ⟨hi,rfl⟩:=NP hd
   have i400:i ≤ 400:=by omega
   have q1:=Rj (k:=B + (i:Int)) h1.a
   cases kx:(dO S (B + (i:Int))).isSome with
   | false =>
    rw [kx] at q1
    refine ⟨_,[some (.d (.list (L.map yD))),some (.d (.int (M:Int))),some (.d (.int (w:Int))),some (.d (.int B)),some (.d (dtv S)),some (.d (.int (B + (i:Int)))),u6],rfl,.inl ?_,S,_,_,h1,by omega,fun x x1 x2 x3=>?_,rfl⟩
    ·simp only [EV,reduceIte,au,aA,ao,aq,aB,aC,aD,q1]
    ·by_cases z:x=B + (i:Int)
     ·rw [z,kx] at x3;cases x3
     ·exact h3 x x1 (by omega) x3
   | true =>
    rw [kx] at q1
    have sl:=MJ (M:=M) (w:=w) (x:=B + (i:Int)) l24
    have so:Com.fu _=_:=Ri (M:=M) (x:=B + (i:Int)) l24 hw
    obtain ⟨δ2,e2,S2,v6,g1,g2,g3,g4,g5,rfl⟩:=jo (g:=(gNl 6)) (b:=(uV 4 (dOp gIx (aF 6) (dC (.int 0))) (dTup (aH (aF 5) (aH (dOp gIx (aF 6) (dC (.int 1))) (bh))))))
     (fun j δ=>∃ (S2:List (Int × D)) (v6:Option U),Sok L M w B S2∧S2.length ≤ S.length + j∧(∀ x,(dO S x).isSome=true→(dO S2 x).isSome=true)∧(∀ x,x ≤ B + (i:Int)→(dO S2 x).isSome=true→(dO S x).isSome=true) ∧
      (∀ s ∈ (stp L M w (B + (i:Int))).take j,(dO S2 s.1).isSome=true)∧δ=[some (.d (.list (L.map yD))),some (.d (.int (M:Int))),some (.d (.int (w:Int))),some (.d (.int B)),some (.d (dtv S2)),some (.d (.int (B + (i:Int)))),v6]) ((stp L M w (B + (i:Int))).map pqD)
     [some (.d (.list (L.map yD))),some (.d (.int (M:Int))),some (.d (.int (w:Int))),some (.d (.int B)),some (.d (dtv S)),some (.d (.int (B + (i:Int)))),u6] ⟨S,u6,h1,by omega,fun _ h=>h,fun _ _ h=>h,fun s hs=>(by cases hs),rfl⟩ (by
      rintro j d δ hd ⟨S2,v6,g1,g2,g3,g4,g5,rfl⟩
      rw [aQ] at hd
      cases es:(stp L M w (B + (i:Int)))[j]? with
      | none=>rw [es] at hd;cases hd
      | some s =>
       rw [es] at hd
       cases hd
       have jl:j < 25:=bN (cD.mp es).1 sl
       have sm:=fJ es
       obtain ⟨z,p⟩:=s
       have sp:=uo.mp sm
       have zx:B + (i:Int) < z:=by
        cases p with
        | none =>
         have:z=B + (i:Int) + 1:=sp.2
         omega
        | some k =>
         have h:=lt k sp.1.1
         have h4:bk L k=B + (i:Int):=sp.2.1
         have h5:ek L k=z:=sp.2.2
         omega
       have et:(stp L M w (B + (i:Int))).take (j + 1)=(stp L M w (B + (i:Int))).take j++[(z,p)]:=by rw [iU,es];rfl
       have vs:=Gu (i:=4) (k:=z) (δ:=[some (.d (.list (L.map yD))),some (.d (.int (M:Int))),some (.d (.int (w:Int))),some (.d (.int B)),some (.d (dtv S2)),some (.d (.int (B + (i:Int)))),some (.d (pqD (z,p)))]) g1.a (NK (B + (i:Int)) p) (by omega)
       refine ⟨_,[some (.d (.list (L.map yD))),some (.d (.int (M:Int))),some (.d (.int (w:Int))),some (.d (.int B)),some (.d (dtv (mF S2 z (.tuple [.int (B + (i:Int)),hD p])))),some (.d (.int (B + (i:Int)))),some (.d (pqD (z,p)))],rfl,.inl ?_,mF S2 z (.tuple [.int (B + (i:Int)),hD p]),_,g1.add (by omega) zx hi (g3 _ kx) sp,?_,fun x hx=>rQ (g3 x hx),fun x x1 x2=>?_,fun s hs=>?_,rfl⟩
       ·have i0:gIx (pqD (z,p)) (.int 0)=some (.int z):=rfl
        have i1:gIx (pqD (z,p)) (.int 1)=some (hD p):=rfl
        simp only [EV,reduceIte,au,aA,ao,aq,aB,aC,aD,Mz,i0,i1,zl2]
        exact vs
       ·have:=Mx S2 z (.tuple [.int (B + (i:Int)),hD p])
        omega
       ·refine g4 x x1 ?_
        cases hy:dO S2 x with
        | some v=>rfl
        | none =>
         rw [yN hy,if_neg (by omega)] at x2
         cases x2
       ·rw [et] at hs
        rcases aV.mp hs with y | y
        ·exact rQ (g5 s y)
        ·rw [aK.mp y]
         exact JG)
    rw [aJ] at g2 g5
    rw [ji] at g5
    refine ⟨_,[some (.d (.list (L.map yD))),some (.d (.int (M:Int))),some (.d (.int (w:Int))),some (.d (.int B)),some (.d (dtv S2)),some (.d (.int (B + (i:Int)))),v6],rfl,.inl ?_,S2,_,_,g1,by omega,fun x x1 x2 x3=>?_,rfl⟩
    ·simp only [EV,reduceIte,au,aA,ao,aq,aB,aC,aD,q1,so]
     exact e2
    ·by_cases z:x=B + (i:Int)
     ·rw [z];exact g5
     ·intro s hs
      exact g3 _ (h3 x x1 (by omega) (g4 x (by omega) x3) s hs))
 refine ⟨S,?_,h1,fun x x1 x2=>h3 x x1 (by unfold dZ;rw [aJ,aY];omega)⟩
 have rg:Ae (some [.int B,.int (bk L w)])=some (dZ B (bk L w)):=Ue (by omega) (by omega) (by omega) (by omega)
 have nw:uU (aF 3) [some (.d (.list (L.map yD))),some (.d (.int (M:Int))),some (.d (.int (w:Int))),some (.d (.int B)),none,none,none]=some (dtv [(B,.none)]):=MF rfl
 unfold eY
 simp only [EV,reduceIte,au,aA,ao,aq,aB,aC,aD,nw,aw,at0,rg]
 rw [e]
 simp only [EV,reduceIte,au,aA,ao,aq,aB,aC,aD]
theorem CK {L:List Ty} (x:Int):gY L x=Rch.cnt L.length (bk L) (ek L) x:=Nz x
abbrev Pt (L:List Ty) (M w:Nat) (B:Int):List Nat→Int→Prop:=Rch.Pth L.length M (bk L) (ek L) (hk L) w B
def nD (t:List Nat):List D:=t.map fun k:Nat=>PyData.int (k:Int)
theorem CN {L:List Ty} {M w:Nat} {B:Int} {S:List (Int × D)} (h:Sok L M w B S):∀ (m:Nat) (x:Int) (t:List Nat) (u4:Option U),(x - B).toNat ≤ m→(dO S x).isSome=true→t.length + m ≤ 1000→(∀ cs,Pt L M w B cs x→Pt L M w B (cs++t) (bk L w)) →
 ∃ n t' z4,gM ((bB (dUn mO (dOp oN (aF 0) (aF 3))))) ((b_ (bW 4 (dOp gIx (dOp oN (aF 0) (aF 3)) (dC (.int 1)))) (b_ (sIf (bB (dUn mO (aF 4))) (vK 2 (dC (.int 0)) (aF 4)) (fO)) (bW 3 (dOp gIx (dOp oN (aF 0) (aF 3)) (dC (.int 0))))))) n [some (.d (dtv S)),some (.d (.int (bk L w))),some (.d (.list (nD t))),some (.d (.int x)),u4] =
  some (.nx [some (.d (dtv S)),some (.d (.int (bk L w))),some (.d (.list (nD t'))),some (.d (.int B)),z4])∧Pt L M w B t' (bk L w):=by
 intro m
 induction m with
 | zero =>
  intro x t u4 hm hx _ hP
  obtain ⟨d,ed⟩:=cH.mp hx
  rcases h.c x d ed with ⟨rfl,rfl⟩ | ⟨y,p,_,y1,y2,_⟩
  ·have g:=Ek (k:=x) h.a
   rw [ed] at g
   have nn:isNone .none=true:=rfl
   refine ⟨1,t,u4,?_,hP [] .start⟩
   rw [gM]
   simp only [EV,reduceIte,au,aA,ao,aq,aB,aC,aD,g,nn,cg]
   rfl
  ·omega
 | succ m ih =>
  intro x t u4 hm hx hl hP
  obtain ⟨d,ed⟩:=cH.mp hx
  have g:=Ek (k:=x) h.a
  rw [ed] at g
  rcases h.c x d ed with ⟨rfl,rfl⟩ | ⟨y,p,rfl,y1,y2,y3,y4,y5⟩
  ·have nn:isNone .none=true:=rfl
   refine ⟨1,t,u4,?_,hP [] .start⟩
   rw [gM]
   simp only [EV,reduceIte,au,aA,ao,aq,aB,aC,aD,g,nn,cg]
   rfl
  ·cases p with
   | none =>
    obtain ⟨n,t',z4,e1,e2⟩:=ih y t (some (.d .none)) (by omega) y4 (by omega) (fun cs hc=>hP cs (by
     have:=Rch.Pth.gap hc (by rw [← CK];exact y5.1) y3
     rwa [← y5.2] at this))
    refine ⟨n + 1,t',z4,?_,e2⟩
    have nt:isNone (.tuple [.int y,hD none])=false:=rfl
    have nn:isNone (hD none)=true:=rfl
    rw [gM]
    simp only [EV,reduceIte,au,aA,ao,aq,aB,aC,aD,g,nt,nn,at0,at1,cL,cg,aL]
    exact e1
   | some k =>
    obtain ⟨n,t',z4,e1,e2⟩:=ih y (k :: t) (some (.d (.int (k:Int)))) (by omega) y4 (by rw [bM];omega) (fun cs hc=>by
     have h1:bk L k=y:=y5.2.1
     have h2:ek L k=x:=y5.2.2
     have:=hP (cs++[k]) (by
      have:=Rch.Pth.stay (k:=k) (by rw [h1];exact hc) y5.1
      rwa [h2] at this)
     rwa [jH] at this)
    refine ⟨n + 1,t',z4,?_,e2⟩
    have nt:isNone (.tuple [.int y,hD (some k)])=false:=rfl
    have nn:isNone (hD (some k))=false:=rfl
    have hk':hD (some k) = .int (k:Int):=rfl
    have ei:BJ 0 (.int (k:Int)) (nD t)=some (nD (k :: t)):=by
     unfold BJ
     rw [if_pos (by unfold nD;rw [aJ];omega)]
     rfl
    rw [gM]
    simp only [EV,reduceIte,au,aA,ao,aq,aB,aC,aD,g,nt,nn,hk',at0,at1,cL,cg,aL,HX,xZ,Pz ei]
    exact e1
theorem JH {L:List Ty} {M w:Nat} {B:Int} {S:List (Int × D)} (h:Sok L M w B S) (hx:(dO S (bk L w)).isSome=true) (hb:(bk L w - B).toNat ≤ 1000) :
 ∃ t:List Nat,mj [dtv S,.int (bk L w)]=some (.list (nD t))∧Pt L M w B t (bk L w):=by
 obtain ⟨n,t,z4,e1,e2⟩:=CN h (bk L w - B).toNat (bk L w) [] none (bf _) hx (by rw [gO];omega) (fun cs hc=>by rw [cP];exact hc)
 refine ⟨t,?_,e2⟩
 have sw:=Fg e1
 have fl:flats (nD t)=true:=gC _ (fun _=>rfl) _
 have n0:nD []=[]:=rfl
 rw [n0] at sw
 unfold mj
 simp only [EV,reduceIte,au,aA,ao,aq,aB,aC,aD,zl0]
 rw [sw]
 simp only [EV,reduceIte,au,aA,ao,aq,aB,aC,aD,jZ,fl]
section
variable {L:List Ty} {M:Nat} {now:Int}
theorem wd (ok:TOk L M now) {w r:Nat} {f:Nat→Int} (hw:w < L.length) (hn:hk L w=none) (hr:r < M) (hf:∀ s,s < M→(∃ k,k < L.length∧hk L k=some s∧f s=ek L k)∨((∀ k,k < L.length→hk L k ≠ some s)∧f s=now)):Rch.Wd L.length M (bk L) (ek L) (hk L) now w r (f r) :=
 ⟨fun k h=>(ok.ok _ (fG h)).1,fun k s h e=>(ok.ok _ (fG h)).2.1 s e,fun k h e=>(ok.ok _ (fG h)).2.2 e,fun k l s h1 h2 e1 e2=>rP ok.nd h1 h2 e1 e2,
  fun k h e=>by rw [← CK];exact Ei ok (fG h) e,hw,hn,hr,hf r hr⟩
def s0 (L:List Ty) (r w:Nat) (t:List Nat) (k:Nat):Option Nat:=if k ∈ t++[w] then some r else hk L k
def f0 (L:List Ty) (r w:Nat) (f:Nat→Int) (s:Nat):Int:=if s=r then ek L w else f s
theorem MK (ok:TOk L M now) (hM:M ≤ 12) {w r:Nat} {f:Nat→Int} (hw:w < L.length) (hn:hk L w=none) (hr:r < M) (hf:∀ s,s < M→(∃ k,k < L.length∧hk L k=some s∧f s=ek L k)∨((∀ k,k < L.length→hk L k ≠ some s)∧f s=now))
 (hB:f r ≤ bk L w) {t:List Nat} (pt:Pt L M w (f r) t (bk L w)) :
 ∃ seat:Nat→Option Nat,pI [.list (L.map yD),.list ((aG L.length).map fun k=>hD (s0 L r w t k)),.list ((aG M).map fun s:Nat=>PyData.int (f0 L r w f s))]=some (.list ((aG L.length).map fun p=>hD (seat p))) ∧
  (∀ p,p < L.length→∃ s,seat p=some s∧s < M)∧(∀ p s,s0 L r w t p=some s→seat p=some s)∧(∀ p q,p < L.length→q < L.length→p ≠ q→seat p=seat q→ek L p ≤ bk L q∨ek L q ≤ bk L p) ∧
  ∀ p,seat p=some r→p ∈ t++[w]∨(hk L p).isSome=true∨ek L w ≤ bk L p:=by
 have l24:=ok.len
 have W:=wd ok hw hn hr hf
 obtain ⟨P,eP,pP,sP⟩:=Cy (L:=L) (by omega)
 have nP:P.Nodup:=pP.nodup_iff.mpr (List.Pairwise.filter _ iz)
 have mP:∀ p ∈ P,p < L.length∧hk L p=none:=fun p hp=>by
  obtain ⟨h1,h2⟩:=bF.mp (pP.mem_iff.mp hp)
  refine ⟨aR.mp h1,?_⟩
  cases z:hk L p with
  | none=>rfl
  | some s =>
   have z:(tAt L p).2.2=some s:=z
   rw [z] at h2
   cases h2
 have lt:∀ p,p < L.length→bk L p < ek L p:=W.lt
 have lw:=lt w hw
 have nhk:∀ k,k ∈ t++[w]→k < L.length:=fun k hk'=>by
  rcases aV.mp hk' with z | z
  ·exact (pt.mem W k z).1.1
  ·rw [aK.mp z];exact hw
 obtain ⟨δ',e,seat,fs,x,y,I,hH,hF,hR,rfl⟩:=jo (g:=(gNl 5)) (b:=(sIf (bB (dUn oE (dOp gIx (aF 3) (aF 5)))) (b_ (bW 6 (dCall gj (aH (aF 4) (aH (dOp gIx (dOp gIx (aF 0) (aF 5)) (dC (.int 0))) (bh))))) (b_ (rm 3 (aF 5) (aF 6)) (rm 4 (aF 6) (dOp gIx (dOp gIx (aF 0) (aF 5)) (dC (.int 1)))))) (fO)))
  (fun i δ=>∃ (seat:Nat→Option Nat) (fs:Nat→Int) (x y:Option U),Rch.GInv now M (bk L) (ek L) (hel L++(t++[w])++(P.take i).filter fun k=>!decide (k ∈ t++[w])) seat fs∧(∀ p s,s0 L r w t p=some s→seat p=some s)∧ek L w ≤ fs r ∧
   (∀ p,seat p=some r→p ∈ t++[w]∨(hk L p).isSome=true∨ek L w ≤ bk L p) ∧
   δ=[some (.d (.list (L.map yD))),some (.d (.list ((aG L.length).map fun k=>hD (s0 L r w t k)))),some (.d (.list ((aG M).map fun s:Nat=>PyData.int (f0 L r w f s)))),some (.d (.list ((aG L.length).map fun p=>hD (seat p)))),some (.d (.list ((aG M).map fun s:Nat=>PyData.int (fs s)))),x,y]) (P.map fun i:Nat=>PyData.int (i:Int))
  [some (.d (.list (L.map yD))),some (.d (.list ((aG L.length).map fun k=>hD (s0 L r w t k)))),some (.d (.list ((aG M).map fun s:Nat=>PyData.int (f0 L r w f s)))),some (.d (.list ((aG L.length).map fun k=>hD (s0 L r w t k)))),some (.d (.list ((aG M).map fun s:Nat=>PyData.int (f0 L r w f s)))),none,none]
  ⟨s0 L r w t,f0 L r w f,none,none,by
   rw [List.take_zero,List.filter_nil,cP]
   exact Rch.UG W hB pt hf rfl (fun k=>qe) (fun k h=>VJ h),fun _ _ h=>h,by unfold f0;rw [if_pos rfl];exact dI _,fun p hp=>by
    unfold s0 at hp
    by_cases z:p ∈ t++[w]
    ·exact .inl z
    ·rw [if_neg z] at hp;exact .inr (.inl (by rw [hp];rfl)),rfl⟩ (by
   rintro i d δ hd ⟨seat,fs,x,y,I,hH,hF,hR,rfl⟩
   rw [aQ] at hd
   cases hi:P[i]? with
   | none=>rw [hi] at hd;cases hd
   | some c =>
    rw [hi] at hd
    cases hd
    have hiL:i < P.length:=(cD.mp hi).1
    have et:P.take (i + 1)=P.take i++[c]:=by rw [iU,hi];rfl
    have sp:P=P.take i++c :: P.drop (i + 1):=by
     rw [aZ hiL] at hi
     cases hi
     rw [nW,jU]
    obtain ⟨hcn,hcf⟩:=mP c (fJ hi)
    have ayc:=ay hcn
    by_cases ct:c ∈ t++[w]
    ·have sc:seat c=some r:=hH c r (by unfold s0;rw [if_pos ct])
     have a1:=vN (fun p=>hD (seat p)) hcn
     rw [sc] at a1
     have nN:isNone (hD (some r))=false:=rfl
     refine ⟨_,[some (.d (.list (L.map yD))),some (.d (.list ((aG L.length).map fun k=>hD (s0 L r w t k)))),some (.d (.list ((aG M).map fun s:Nat=>PyData.int (f0 L r w f s)))),some (.d (.list ((aG L.length).map fun p=>hD (seat p)))),some (.d (.list ((aG M).map fun s:Nat=>PyData.int (fs s)))),some (.d (.int (c:Int))),y],rfl,.inl ?_,seat,fs,_,y,?_,hH,hF,hR,rfl⟩
     ·generalize (aG L.length).map (fun p=>hD (seat p))=SQ at *
      generalize (aG L.length).map (fun k=>hD (s0 L r w t k))=SP at *
      generalize (aG M).map (fun s:Nat=>PyData.int (fs s))=FF at *
      generalize (aG M).map (fun s:Nat=>PyData.int (f0 L r w f s))=FB at *
      simp only [EV,reduceIte,au,aA,ao,aq,aB,aC,aD,a1,nN]
     ·rw [et,lU,show ([c].filter fun k=>!decide (k ∈ t++[w]))=[] by rw [iy (by rw [dTr ct];simp)];rfl,cP]
      exact I
    ·have hc:c ∉ hel L++(t++[w])++(P.take i).filter fun k=>!decide (k ∈ t++[w]):=fun z=>by
      rcases aV.mp z with z | z
      ·rcases aV.mp z with z | z
       ·have:=(qe.mp z).2
        rw [hcf] at this
        cases this
       ·exact ct z
      ·rw [sp] at nP
       exact (mH.mp nP).2.2 c (bF.mp z).1 c aN rfl
     have hdn:∀ k ∈ hel L++(t++[w])++(P.take i).filter (fun k=>!decide (k ∈ t++[w])),k < L.length:=fun k hk'=>by
      rcases aV.mp hk' with z | z
      ·rcases aV.mp z with z | z
       ·exact (qe.mp z).1
       ·exact nhk k z
      ·exact (mP k (List.mem_of_mem_take (bF.mp z).1)).1
     have hA:∀ k ∈ hel L++(t++[w])++(P.take i).filter (fun k=>!decide (k ∈ t++[w])),k ∈ t++[w]∨bk L k ≤ bk L c:=fun k hk'=>by
      rcases aV.mp hk' with z | z
      ·rcases aV.mp z with z | z
       ·obtain ⟨h1,h2⟩:=qe.mp z
        obtain ⟨s,hs⟩:=cH.mp h2
        have q1:=(W.hh k s h1 hs).2.1
        have q2:=W.hn c hcn hcf
        exact .inr (by omega)
       ·exact .inl z
      ·rw [sp] at sP
       exact .inr ((iZ.mp sP).2.2 k (bF.mp z).1 c aN)
     obtain ⟨r',r1,r2,r3⟩:=Cz (show M ≤ 1000 by omega) (Rch.room W hB pt I hc hcn hcf hdn hA
      (fun k hk'=>⟨aW _ (aP _ hk'),hH k r (by unfold s0;rw [if_pos hk'])⟩)
      (fun k k1 k2=>⟨aW _ (aW _ (qe.mpr ⟨k1,by rw [k2];rfl⟩)),hH k r (by
       unfold s0
       by_cases z:k ∈ t++[w]
       ·rw [if_pos z]
       ·rw [if_neg z];exact k2)⟩))
     have sc:seat c=none:=I.out c hc
     have a1:=vN (fun p=>hD (seat p)) hcn
     rw [sc] at a1
     have a1:pAt ((aG L.length).map fun p=>hD (seat p)) (c:Int)=some .none:=a1
     have nN:isNone .none=true:=rfl
     have p1:=Gp (l:=(aG L.length).map fun p=>hD (seat p)) (by rw [aJ,aY]) hcn
     have p2:=Gp (l:=(aG M).map fun s:Nat=>PyData.int (fs s)) (by rw [aJ,aY]) r1
     have s1:=xr (n:=L.length) (c:=c) (d:=.int (r':Int)) (fun p=>hD (seat p))
     have s2:=xr (n:=M) (c:=r') (d:=.int (ek L c)) (fun s:Nat=>PyData.int (fs s))
     refine ⟨_,[some (.d (.list (L.map yD))),some (.d (.list ((aG L.length).map fun k=>hD (s0 L r w t k)))),some (.d (.list ((aG M).map fun s:Nat=>PyData.int (f0 L r w f s)))),some (.d (.list (((aG L.length).map fun p=>hD (seat p)).set c (.int (r':Int))))),some (.d (.list (((aG M).map fun s:Nat=>PyData.int (fs s)).set r' (.int (ek L c))))),some (.d (.int (c:Int))),some (.d (.int (r':Int)))],rfl,.inl ?_,?_⟩
     ·generalize (aG L.length).map (fun p=>hD (seat p))=SQ at *
      generalize (aG L.length).map (fun k=>hD (s0 L r w t k))=SP at *
      generalize (aG M).map (fun s:Nat=>PyData.int (fs s))=FF at *
      generalize (aG M).map (fun s:Nat=>PyData.int (f0 L r w f s))=FB at *
      simp only [EV,reduceIte,au,aA,ao,aq,aB,aC,aD,a1,nN,ayc,at0,at1,r3,p1,p2,aL]
     ·refine ⟨fun p=>if p=c then some r' else seat p,fun x=>if x=r' then ek L c else fs x,some (.d (.int (c:Int))),some (.d (.int (r':Int))),?_,fun p s hp=>?_,?_,fun p hp=>?_,?_⟩
      ·rw [et,lU,show ([c].filter fun k=>!decide (k ∈ t++[w]))=[c] by rw [iw (by rw [dFa ct];rfl)];rfl,← jH]
       exact I.step hc r1 r2 (lt c hcn)
      ·have:p ≠ c:=fun z=>by
        unfold s0 at hp
        rw [z,if_neg ct,hcf] at hp
        cases hp
       show (if p=c then some r' else seat p)=_
       rw [if_neg this]
       exact hH p s hp
      ·show ek L w ≤ if r=r' then ek L c else fs r
       by_cases z:r=r'
       ·rw [if_pos z]
        have:=lt c hcn
        rw [← z] at r2
        omega
       ·rw [if_neg z];exact hF
      ·have hp:(if p=c then some r' else seat p)=some r:=hp
       by_cases z:p=c
       ·rw [if_pos z] at hp
        injection hp with hp
        rw [hp] at r2
        rw [z]
        exact .inr (.inr (by omega))
       ·rw [if_neg z] at hp;exact hR p hp
      ·rw [s1,s2]
       have q1:(fun p=>if p=c then PyData.int (r':Int) else hD (seat p))=fun p=>hD (if p=c then some r' else seat p):=by
        funext p
        by_cases z:p=c
        ·rw [if_pos z,if_pos z];rfl
        ·rw [if_neg z,if_neg z]
       have q2:(fun x:Nat=>if x=r' then PyData.int (ek L c) else PyData.int (fs x))=fun x=>PyData.int (if x=r' then ek L c else fs x):=by
        funext x
        by_cases z:x=r'
        ·rw [if_pos z,if_pos z]
        ·rw [if_neg z,if_neg z]
       rw [q1,q2])
 rw [aJ,ji] at I
 have all:∀ p,p < L.length→p ∈ hel L++(t++[w])++P.filter fun k=>!decide (k ∈ t++[w]):=fun p hp=>by
  by_cases ct:p ∈ t++[w]
  ·exact aW _ (aP _ ct)
  ·cases z:hk L p with
   | some s=>exact aW _ (aW _ (qe.mpr ⟨hp,by rw [z];rfl⟩))
   | none =>
    refine aP _ (bF.mpr ⟨pP.mem_iff.mpr (bF.mpr ⟨aR.mpr hp,?_⟩),by rw [dFa ct];rfl⟩)
    have z:(tAt L p).2.2=none:=z
    rw [z];rfl
 refine ⟨seat,?_,fun p hp=>?_,hH,fun p q hp hq ne hs=>I.dj p (all p hp) q (all q hq) ne hs,hR⟩
 ·have fl:flats ((aG L.length).map fun p=>hD (seat p))=true:=gC _ (fun p=>by cases seat p <;> rfl) _
  unfold pI
  simp only [EV,reduceIte,au,aA,ao,aq,aB,aC,aD,eP]
  rw [e]
  simp only [EV,reduceIte,au,aA,ao,aq,aB,aC,aD,jZ,fl]
 ·obtain ⟨s,h1,h2,_⟩:=I.inn p (all p hp)
  exact ⟨s,h1,h2⟩
end
section
variable {L:List Ty} {M:Nat} {now:Int}
structure Pn (L:List Ty) (M:Nat) (rr:Nat→Nat):Prop where
 lt:∀ k,k < L.length→rr k < M
 held:∀ k r,k < L.length→hk L k=some r→rr k=r
 dj:∀ p q,p < L.length→q < L.length→p ≠ q→rr p=rr q→ek L p ≤ bk L q∨ek L q ≤ bk L p
theorem Pn.pk {rr:Nat→Nat} (P:Pn L M rr):∀ i,i < L.length→Pk L M (plD L.length fun k=>(rr k:Int)) i:=fun i hi=>by
 have g:∀ k,k < L.length→(plD L.length fun k=>(rr k:Int))[k]? = some (.int (rr k:Int)):=fun k hk'=>by
  unfold plD
  rw [aQ,bU hk'];rfl
 have:=P.lt i hi
 refine ⟨(rr i:Int),g i hi,by omega,by omega,fun r hr=>by rw [P.held i r hi hr],fun k hk' z=>?_⟩
 have hkL:k < L.length:=by omega
 obtain ⟨z1,z2,z3⟩:=z
 rw [g k hkL,g i hi] at z1
 have z1:(rr k:Int)=(rr i:Int):=by
  injection z1 with z1
  injection z1
 rcases P.dj k i hkL hi (by omega) (by omega) with w | w <;> omega
theorem UL (g:FG) (c:FT) (e:FE) (hg:g=gNl 0) (hc:c=D3.jM) (he:e=cR (dOp gIx (aF 0) (dC (.int 2)))) (δ0:DS):dW g c e (jj 1 [] δ0) (L.map yD)=some ((aG L.length).map fun k=>hD (hk L k)):=by
 rw [lJ,hg,hc,he]
 exact yF (fun k=>yD (tAt L k)) (fun k=>hD (hk L k)) (aG L.length) fun k _=>⟨[some (.d (yD (tAt L k)))],rfl,rfl,by
  have fl:flat (hD (tAt L k).2.2)=true:=by cases (tAt L k).2.2 <;> rfl
  unfold yD hk
  simp only [EV,reduceIte,au,aA,ao,aq,aB,aC,aD,at2,fl]⟩
theorem yO (ok:TOk L M now) (hM:M ≤ 12) {w r:Nat} {f:Nat→Int} (ef:cj [.list (L.map yD),.int (M:Int),.int now]=some (.list ((aG M).map fun r:Nat=>PyData.int (f r)))) (hw:w < L.length) (hn:hk L w=none) (hr:r < M) (hf:∀ s,s < M→(∃ k,k < L.length∧hk L k=some s∧f s=ek L k)∨((∀ k,k < L.length→hk L k ≠ some s)∧f s=now))
 (hB:f r ≤ bk L w) {t:List Nat} (pt:Pt L M w (f r) t (bk L w)) (tl:t.length ≤ 24) :
 ∃ rr:Nat→Nat,kZ [.list (L.map yD),.int (M:Int),.int now,.int (w:Int),.int (r:Int),.list (nD t)]=some (.list (plD L.length fun k=>(rr k:Int)))∧Pn L M rr∧rr w=r∧∀ k,k < L.length→hk L k=none→bk L k < bk L w→(rr k=r↔k ∈ t):=by
 have l24:=ok.len
 have W:=wd ok hw hn hr hf
 obtain ⟨seat,es,q1,q2,q3,q4⟩:=MK ok hM hw hn hr hf hB pt
 have sl:(aG L.length).map (fun p=>hD (seat p))=plD L.length fun p=>(((seat p).getD 0:Nat):Int):=Nx fun p hp=>by
  obtain ⟨s,hs,_⟩:=q1 p hp
  show hD (seat p)=PyData.int (((seat p).getD 0:Nat):Int)
  rw [hs];rfl
 rw [sl] at es
 have inT:∀ k,k ∈ t++[w]→k < L.length:=fun k hk'=>by
  rcases aV.mp hk' with z | z
  ·exact (pt.mem W k z).1.1
  ·rw [aK.mp z];exact hw
 have sr:∀ k,k ∈ t++[w]→seat k=some r:=fun k hk'=>q2 k r (by unfold s0;rw [if_pos hk'])
 have noT:∀ k,hk L k ≠ none→k ∉ t++[w]:=fun k h1 h2=>by
  rcases aV.mp h2 with z | z
  ·exact h1 (pt.mem W k z).1.2.2.1
  ·rw [aK.mp z] at h1;exact h1 hn
 refine ⟨fun p=>(seat p).getD 0,?_,⟨fun k hk'=>?_,fun k s hk' hs=>?_,fun p q hp hq ne e=>q3 p q hp hq ne ?_⟩,?_,fun k k1 k2 k3=>?_⟩
 ·have C:=fun δ0=>UL (L:=L) ((gNl 0)) ((D3.jM)) ((cR (dOp gIx (aF 0) (dC (.int 2))))) rfl rfl rfl δ0
  have len:(L.map yD).length ≤ 100000:=by rw [aJ];omega
  have cat:sE (.list (nD t)) (.list [.int (w:Int)])=some (.list (nD (t++[w]))):=by
   rw [Ad,if_pos (by unfold nD;rw [aJ];show t.length + 1 ≤ _;omega)]
   unfold nD
   rw [eE]
   rfl
  have aw:=ay hw
  obtain ⟨δ',e,u7,rfl⟩:=jo (g:=(gNl 7)) (b:=(rm 6 (aF 7) (aF 4)))
   (fun i δ=>∃ u7:Option U,δ=[some (.d (.list (L.map yD))),some (.d (.int (M:Int))),some (.d (.int now)),some (.d (.int (w:Int))),some (.d (.int (r:Int))),some (.d (.list (nD t))),some (.d (.list ((aG L.length).map fun k=>hD (if k ∈ (t++[w]).take i then some r else hk L k)))),u7,none]) (nD (t++[w]))
   [some (.d (.list (L.map yD))),some (.d (.int (M:Int))),some (.d (.int now)),some (.d (.int (w:Int))),some (.d (.int (r:Int))),some (.d (.list (nD t))),some (.d (.list ((aG L.length).map fun k=>hD (hk L k)))),none,none] ⟨none,by rw [List.take_zero];simp only [iu,if_false]⟩ (by
    rintro i d δ hd ⟨u7,rfl⟩
    unfold nD at hd
    rw [aQ] at hd
    cases hi:(t++[w])[i]? with
    | none=>rw [hi] at hd;cases hd
    | some c =>
     rw [hi] at hd
     cases hd
     have et:(t++[w]).take (i + 1)=(t++[w]).take i++[c]:=by rw [iU,hi];rfl
     have hc:=inT c (fJ hi)
     have p1:=Gp (l:=(aG L.length).map fun k=>hD (if k ∈ (t++[w]).take i then some r else hk L k)) (by rw [aJ,aY]) hc
     have s1:=xr (n:=L.length) (c:=c) (d:=.int (r:Int)) (fun k=>hD (if k ∈ (t++[w]).take i then some r else hk L k))
     refine ⟨_,[some (.d (.list (L.map yD))),some (.d (.int (M:Int))),some (.d (.int now)),some (.d (.int (w:Int))),some (.d (.int (r:Int))),some (.d (.list (nD t))),some (.d (.list (((aG L.length).map fun k=>hD (if k ∈ (t++[w]).take i then some r else hk L k)).set c (.int (r:Int))))),some (.d (.int (c:Int))),none],rfl,.inl ?_,some (.d (.int (c:Int))),?_⟩
     ·generalize (aG L.length).map (fun k=>hD (if k ∈ (t++[w]).take i then some r else hk L k))=SQ at *
      simp only [EV,reduceIte,au,aA,ao,aq,aB,aC,aD,p1,aL]
     ·rw [s1,et]
      have:(fun p=>if p=c then PyData.int (r:Int) else hD (if p ∈ (t++[w]).take i then some r else hk L p))=fun k=>hD (if k ∈ (t++[w]).take i++[c] then some r else hk L k):=by
       funext k
       by_cases z:k=c
       ·rw [if_pos z,if_pos (aP _ (by rw [z];exact aK.mpr rfl))];rfl
       ·rw [if_neg z]
        by_cases y:k ∈ (t++[w]).take i
        ·rw [if_pos y,if_pos (aW _ y)]
        ·rw [if_neg y,if_neg (fun x=>by
          rcases aV.mp x with x | x
          ·exact y x
          ·exact z (aK.mp x))]
      rw [this])
  have lT:(nD (t++[w])).length=(t++[w]).length:=aJ _
  rw [lT,ji] at e
  have p2:=Gp (l:=(aG M).map fun s:Nat=>PyData.int (f s)) (by rw [aJ,aY]) hr
  have s2:=xr (n:=M) (c:=r) (d:=.int (ek L w)) (fun s:Nat=>PyData.int (f s))
  have e2:((aG M).map fun s:Nat=>PyData.int (f s)).set r (.int (ek L w))=(aG M).map fun s:Nat=>PyData.int (f0 L r w f s):=by
   rw [s2]
   congr 1
   funext s
   unfold f0
   by_cases z:s=r
   ·rw [if_pos z,if_pos z]
   ·rw [if_neg z,if_neg z]
  have fl:flats ((aG M).map fun s:Nat=>PyData.int (f s))=true:=gC _ (fun _=>rfl) _
  have ef:Com.cj _=_:=ef
  unfold s0 at es
  unfold kZ
  generalize hSQ:(aG L.length).map (fun k=>hD (if k ∈ t++[w] then some r else hk L k))=SQ at *
  generalize hSP:(aG L.length).map (fun k=>hD (hk L k))=SP at *
  generalize hFB:(aG M).map (fun s:Nat=>PyData.int (f0 L r w f s))=FB at *
  generalize hFF:(aG M).map (fun s:Nat=>PyData.int (f s))=FF at *
  simp only [EV,reduceIte,au,aA,ao,aq,aB,aC,aD,len,C,zl1,cat]
  rw [e]
  simp only [EV,reduceIte,au,aA,ao,aq,aB,aC,aD,ef,jZ,fl,aw,at1,p2,aL,e2,es]
 ·obtain ⟨s,hs,hsM⟩:=q1 k hk'
  show (seat k).getD 0 < M
  rw [hs];exact hsM
 ·show (seat k).getD 0=s
  rw [q2 k s (by unfold s0;rw [if_neg (noT k (by rw [hs];exact fun z=>nomatch z))];exact hs)];rfl
 ·obtain ⟨s,hs,_⟩:=q1 p hp
  obtain ⟨s',hs',_⟩:=q1 q hq
  have e:(seat p).getD 0=(seat q).getD 0:=e
  rw [hs,hs'] at e
  rw [hs,hs',show s=s' from e]
 ·show (seat w).getD 0=r
  rw [sr w (aP _ (aK.mpr rfl))];rfl
 ·obtain ⟨s,hs,_⟩:=q1 k k1
  show (seat k).getD 0=r↔k ∈ t
  rw [hs]
  constructor
  ·intro z
   have z:s=r:=z
   rw [z] at hs
   rcases q4 k hs with y | y | y
   ·rcases aV.mp y with x | x
    ·exact x
    ·rw [aK.mp x] at k3;omega
   ·rw [k2] at y;cases y
   ·have:=W.lt w hw
    omega
  ·intro z
   have:=sr k (aW _ z)
   rw [hs] at this
   injection this
theorem JK (ok:TOk L M now) {w r:Nat} {f h:Nat→Int} (hw:w < L.length) (hn:hk L w=none) (hr:r < M) (hf:∀ s,s < M→(∃ k,k < L.length∧hk L k=some s∧f s=ek L k)∨((∀ k,k < L.length→hk L k ≠ some s)∧f s=now))
 (hv:Xg.Valid (ssT L now) h) (hb:∀ k,k < L.length→0 ≤ h k∧h k < (M:Int)) (hh:∀ k s,k < L.length→hk L k=some s→h k=(s:Int)) (e:h w=(r:Int)) :
 f r ≤ bk L w∧∀ S,Sok L M w (f r) S→(∀ x,f r ≤ x→x < bk L w→(dO S x).isSome=true→∀ s ∈ stp L M w x,(dO S s.1).isSome=true)→(dO S (bk L w)).isSome=true:=by
 have W:=wd ok hw hn hr hf
 obtain ⟨h1,h2⟩:=Rch.reach W (h:=h) (fun k l k1 l1 kl a b=>hv k l k1 l1 kl a b) hb hh e
 refine ⟨h1,fun S so cl=>h2 (fun x=>(dO S x).isSome=true) (by show (dO S (f r)).isSome=true;rw [so.b];rfl) fun x x1 x2 x3=>⟨fun c=>?_,fun k g kx=>?_⟩⟩
 ·exact cl x x1 x2 x3 (x + 1,none) (uo.mpr ⟨by rw [CK];exact c,rfl⟩)
 ·exact cl x x1 x2 x3 (ek L k,some k) (uo.mpr ⟨g,kx,rfl⟩)
theorem MN (ok:TOk L M now) (hM:M ≤ 12) {w r:Nat} {f:Nat→Int} (hw:w < L.length) (hn:hk L w=none) (hr:r < M)
 (ef:cj [.list (L.map yD),.int (M:Int),.int now]=some (.list ((aG M).map fun s:Nat=>PyData.int (f s)))) (hf:∀ s,s < M→(∃ k,k < L.length∧hk L k=some s∧f s=ek L k)∨((∀ k,k < L.length→hk L k ≠ some s)∧f s=now))
 (hB:f r ≤ bk L w) (fB:0 ≤ f r) {S:List (Int × D)} (eS:eY [.list (L.map yD),.int (M:Int),.int (w:Int),.int (f r)]=some (dtv S)) (so:Sok L M w (f r) S) (kg:(dO S (bk L w)).isSome=true) :
 ∃ (t:List Nat) (rr:Nat→Nat),gG [.list (L.map yD),.int (M:Int),.int now,.int (w:Int),.int (r:Int)]=some (.tuple [.str "yes", .list (nD t),.list (plD L.length fun k=>(rr k:Int))])∧Pn L M rr∧rr w=r ∧
  (∀ k,k < L.length→hk L k=none→bk L k < bk L w→(rr k=r↔k ∈ t))∧t.Pairwise (fun a b=>bk L a < bk L b)∧(∀ k ∈ t,k < L.length∧hk L k=none∧bk L k < bk L w)∧t.length < L.length:=by
 have l24:=ok.len
 have W:=wd ok hw hn hr hf
 have g400:bk L w ≤ 400:=by
  have h1:=(ok.bd _ (fG hw)).2
  have h2:=W.lt w hw
  have h1:ek L w ≤ 400:=h1
  omega
 obtain ⟨t,et,pt⟩:=JH so kg (by omega)
 have mt:∀ k ∈ t,k < L.length∧hk L k=none∧bk L k < bk L w:=fun k hk'=>by
  obtain ⟨g,_,g2⟩:=pt.mem W k hk'
  have:=W.lt k g.1
  exact ⟨g.1,g.2.2.1,by omega⟩
 have pw:t.Pairwise fun a b=>bk L a < bk L b:=List.Pairwise.imp_of_mem (fun {a b} ha hb' q=>by
  have:=W.lt a (mt a ha).1
  omega) (pt.pw W)
 have nd:(w :: t).Nodup:=bV.mpr ⟨fun z=>(pt.mem W w z).1.2.1 rfl,pw.imp fun {a b} q z=>by rw [z] at q;omega⟩
 have tl:=List.Nodup.length_le_of_subset (l₂:=aG L.length) nd fun k hk'=>by
  rcases bH.mp hk' with rfl | z
  ·exact aR.mpr hw
  ·exact aR.mpr (mt k z).1
 rw [bM,aY] at tl
 obtain ⟨rr,er,P,rw',rt⟩:=yO ok hM ef hw hn hr hf hB pt (by omega)
 refine ⟨t,rr,?_,P,rw',rt,pw,mt,by omega⟩
 have c1:=yL ok hw hn
 have c2:Com.d_ _=_:=yM hr
 have aw:=ay hw
 have ab:=vN (n:=M) (c:=r) (fun s:Nat=>PyData.int (f s)) hr
 have z1:decide (f r > bk L w)=false:=dFa (by omega)
 have ni:=xu (k:=bk L w) so.a
 rw [kg] at ni
 have fl:flats (nD t)=true:=gC _ (fun _=>rfl) _
 have ef:Com.cj _=_:=ef
 unfold gG
 simp only [EV,reduceIte,au,aA,ao,aq,aB,aC,aD,c1,c2,ef,ab,aw,at0,z1,eS,ni,cg,et,jZ,fl,er,zl3]
theorem Rn:ly 1 (.str "yes"):=⟨by decide +kernel,by simp [PyData.depth]⟩
end
section
variable {L:List Ty} {M:Nat} {now:Int}
def ks (S:List (Int × D)):List Int:=nG (S.map (·.1))
theorem Sok.rg {w:Nat} {B:Int} {S:List (Int × D)} (h:Sok L M w B S) (hB:B ≤ bk L w) {x:Int} (hx:(dO S x).isSome=true):B ≤ x∧x ≤ bk L w:=by
 obtain ⟨d,ed⟩:=cH.mp hx
 rcases h.c x d ed with ⟨rfl,_⟩ | ⟨y,p,_,y1,y2,y3,_,y5⟩
 ·exact ⟨dI _,hB⟩
 ·refine ⟨by omega,?_⟩
  cases p with
  | none =>
   have:x=y + 1:=y5.2
   omega
  | some k =>
   have h1:ek L k=x:=y5.2.2
   have h2:ek L k ≤ bk L w:=y5.1.2.2.2
   omega
theorem Sok.len {w:Nat} {B:Int} {S:List (Int × D)} (h:Sok L M w B S) (hB:B ≤ bk L w) (g4:bk L w ≤ B + 59):S.length ≤ 60:=by
 have:=List.Nodup.length_le_of_subset (l₂:=(aG 60).map fun k:Nat=>B + (k:Int)) h.nd fun x hx=>by
  obtain ⟨h1,h2⟩:=h.rg hB (El.mpr hx)
  exact cG.mpr ⟨(x - B).toNat,aR.mpr (by omega),by omega⟩
 rwa [aJ,aJ,aY] at this
theorem JL {S:List (Int × D)} (hA:tvA S=true) (h:S.length < 64):rK [dtv S]=some (.list ((ks S).map .int)):=by
 unfold rK
 dsimp only
 rw [pX hA,aL,if_pos h]
 rfl
theorem MP (ok:TOk L M now) {w r:Nat} {f:Nat→Int} (hw:w < L.length) (hn:hk L w=none) (hr:r < M)
 (ef:cj [.list (L.map yD),.int (M:Int),.int now]=some (.list ((aG M).map fun s:Nat=>PyData.int (f s)))) (hB:bk L w < f r) :
 gG [.list (L.map yD),.int (M:Int),.int now,.int (w:Int),.int (r:Int)]=some (.tuple [.str "no", .list []]):=by
 have c1:=yL ok hw hn
 have c2:Com.d_ _=_:=yM hr
 have aw:=ay hw
 have ab:=vN (n:=M) (c:=r) (fun s:Nat=>PyData.int (f s)) hr
 have z1:decide (f r > bk L w)=true:=dTr hB
 have ef:Com.cj _=_:=ef
 unfold gG
 simp only [EV,reduceIte,au,aA,ao,aq,aB,aC,aD,c1,c2,ef,ab,aw,at0,z1,zl0,zl2]
theorem M4 (ok:TOk L M now) {w r:Nat} {f:Nat→Int} (hw:w < L.length) (hn:hk L w=none) (hr:r < M)
 (ef:cj [.list (L.map yD),.int (M:Int),.int now]=some (.list ((aG M).map fun s:Nat=>PyData.int (f s)))) (hB:f r ≤ bk L w)
 {S:List (Int × D)} (eS:eY [.list (L.map yD),.int (M:Int),.int (w:Int),.int (f r)]=some (dtv S)) (hA:tvA S=true) (hl:S.length < 64) (kg:(dO S (bk L w)).isSome=false) :
 gG [.list (L.map yD),.int (M:Int),.int now,.int (w:Int),.int (r:Int)]=some (.tuple [.str "no", .list ((ks S).map .int)]):=by
 have c1:=yL ok hw hn
 have c2:Com.d_ _=_:=yM hr
 have aw:=ay hw
 have ab:=vN (n:=M) (c:=r) (fun s:Nat=>PyData.int (f s)) hr
 have z1:decide (f r > bk L w)=false:=dFa (by omega)
 have ef:Com.cj _=_:=ef
 have ni:=xu (k:=bk L w) hA
 rw [kg] at ni
 have ts:=JL hA hl
 unfold gG
 simp only [EV,reduceIte,au,aA,ao,aq,aB,aC,aD,c1,c2,ef,ab,aw,at0,z1,eS,ni,cL,ts,zl2]
theorem Ro (ok:TOk L M now) {r:Nat} {f:Nat→Int} (hr:r < M) (hf:∀ s,s < M→(∃ k,k < L.length∧hk L k=some s∧f s=ek L k)∨((∀ k,k < L.length→hk L k ≠ some s)∧f s=now)) :
 fD [.list (L.map yD),.int now,.int (r:Int)]=some (.int (f r)):=by
 have F:=Mp (v:=.int (f r)) (g:=(gTn 3 (cM (gNl 3) (cM (gNl 4) (cM (gNl 5) (jN)))))) (b:=(sIf (D3.jA (bB (dUn mO (aF 5))) (bB (dOp gEq (aF 5) (aF 2)))) (d8 (cR (aF 4))) (fO)))
  (fun _ δ=>∃ x y z,δ=[some (.d (.list (L.map yD))),some (.d (.int now)),some (.d (.int (r:Int))),x,y,z]) (fun i=>hk L i ≠ some r) (L.map yD)
  [some (.d (.list (L.map yD))),some (.d (.int now)),some (.d (.int (r:Int))),none,none,none] ⟨none,none,none,rfl⟩ (by
   rintro i d δ hd' _ ⟨x,y,z,rfl⟩
   have hi:i < L.length:=by
    have:=(cD.mp hd').1
    rwa [aJ] at this
   have e:d = .tuple [.int (bk L i),.int (ek L i),hD (hk L i)]:=by
    have:=ay hi
    rw [mV,hd'] at this
    injection this
   subst e
   refine ⟨[some (.d (.list (L.map yD))),some (.d (.int now)),some (.d (.int (r:Int))),some (.d (.int (bk L i))),some (.d (.int (ek L i))),some (.d (hD (hk L i)))],rfl,?_⟩
   cases hh:hk L i with
   | none =>
    have nn:isNone (hD none)=true:=rfl
    refine .inl ⟨(fun z=>by cases z),[some (.d (.list (L.map yD))),some (.d (.int now)),some (.d (.int (r:Int))),some (.d (.int (bk L i))),some (.d (.int (ek L i))),some (.d (hD none))],?_,_,_,_,rfl⟩
    simp only [EV,reduceIte,au,aA,ao,aq,aB,aC,aD,nn,cg]
   | some s =>
    have nn:isNone (hD (some s))=false:=rfl
    by_cases c:s=r
    ·subst c
     refine .inr ⟨fun z=>z rfl,?_⟩
     have ef:ek L i=f s:=by
      rcases hf s hr with ⟨k,k1,k2,k3⟩ | ⟨k1,_⟩
      ·rw [k3,rP ok.nd hi k1 hh k2]
      ·exact absurd hh (k1 i hi)
     have q:gEq (hD (some s)) (.int (s:Int))=some (.bool true):=by
      show gEq (.int (s:Int)) (.int (s:Int))=_
      rw [Jd,dTr rfl]
     rw [ef]
     simp only [EV,reduceIte,au,aA,ao,aq,aB,aC,aD,nn,cL,q,fli]
    ·refine .inl ⟨fun z=>c (by injection z),[some (.d (.list (L.map yD))),some (.d (.int now)),some (.d (.int (r:Int))),some (.d (.int (bk L i))),some (.d (.int (ek L i))),some (.d (hD (some s)))],?_,_,_,_,rfl⟩
     have q:gEq (hD (some s)) (.int (r:Int))=some (.bool false):=by
      show gEq (.int (s:Int)) (.int (r:Int))=_
      rw [Jd,dFa (by omega)]
     simp only [EV,reduceIte,au,aA,ao,aq,aB,aC,aD,nn,cL,q])
 show Com.fD _=_
 unfold Com.fD
 rcases F with ⟨δ',e,⟨x,y,z,rfl⟩,a⟩ | ⟨e,_⟩
 ·have ef:f r=now:=by
   rcases hf r hr with ⟨k,k1,k2,k3⟩ | ⟨_,k2⟩
   ·exact absurd k2 (a k (by rw [aJ];exact k1))
   ·exact k2
  rw [ef]
  simp only [EV,reduceIte,au,aA,ao,aq,aB,aC,aD]
  rw [e]
  simp only [EV,reduceIte,au,aA,ao,aq,aB,aC,aD,fli]
 ·simp only [EV,reduceIte,au,aA,ao,aq,aB,aC,aD]
  rw [e]
  simp only [EV,reduceIte,au,aA,ao,aq,aB,aC,aD]
end
section
variable {L:List Ty} {M:Nat} {now:Int}
theorem inI (cs:List Int) (x:Int):gIn (.int x) (.list (cs.map .int))=some (.bool (decide (x ∈ cs))):=by
 show (if (SeqAt.shaped (.int x) && SeqAt.shaped (.list (cs.map .int)))=true then some (PyData.bool ((cs.map PyData.int).any fun z=>PyData.eqv z (.int x))) else none)=_
 rw [shaped_ints cs,if_pos (by rfl),List.any_map]
 congr 2
 rw [oV,List.any_eq_true,decide_eq_true_eq]
 constructor
 ·rintro ⟨y,h1,h2⟩
  have h2:PyData.eqv (.int y) (.int x)=true:=h2
  have:y=x:=by simpa [PyData.eqv] using h2
  rw [← this];exact h1
 ·intro h
  exact ⟨x,h,by show PyData.eqv (.int x) (.int x)=true;simp [PyData.eqv]⟩
theorem Rp (cs:List Int) (x:Int):nj (.int x) (.list (cs.map .int))=some (.bool (!decide (x ∈ cs))):=by
 have:=inI cs x
 unfold gIn at this
 unfold nj
 dsimp only at this ⊢
 split at this
 ·next c =>
  rw [if_pos c]
  injection this with this
  injection this with this
  rw [this]
 ·cases this
def nxt (L:List Ty) (M w:Nat) (x:Int):List Int:=(if gY L x < M then [x + 1] else [])++(gos L w x).map (ek L)
theorem VL (g:FG) (c:FT) (e:FE) (hg:g=gNl 0) (hc:c=D3.jA (bB (dOp gLe (dOp gIx (aF 0) (dC (.int 0))) (aF 1))) (bB (dOp gLt (aF 1) (dOp gIx (aF 0) (dC (.int 1)))))) (he:e=cR (aF 0)) (x:Int) (δ:DS) (hd:δ=[none,some (.d (.int x))]):dW g c e δ (L.map yD)=some ((L.filter (hol x)).map yD):=by
 subst hg hc he hd
 exact vg yD (hol x) yD L fun s _=>⟨[some (.d (yD s)),some (.d (.int x))],rfl,by
  obtain ⟨a,b,c⟩:=s
  unfold yD hol
  dsimp only
  cases c1:decide (a ≤ x) with
  | true=>simp only [EV,reduceIte,au,aA,ao,aq,aB,aC,aD,at0,at1,c1,iT]
  | false=>simp only [EV,reduceIte,au,aA,ao,aq,aB,aC,aD,at0,at1,c1,fH],fun _=>by
  have fl:flat (yD s)=true:=by obtain ⟨a,b,c⟩:=s;cases c <;> rfl
  simp only [EV,reduceIte,au,aA,ao,aq,aB,aC,aD,fl]⟩
theorem M5 {w:Nat} {x:Int} (hl:L.length ≤ 24) (hw:w < L.length):jf [.list (L.map yD),.int (M:Int),.int (w:Int),.int x]=some (.list ((nxt L M w x).map .int)):=by
 have aw:=ay hw
 have loop:∀ (h:List Int),h.length ≤ 1→∃ u5 u6 u7 u8,iW ((gNl 5)) ((b_ (Fe (dOp gIx (aF 0) (aF 5)) (gTn 3 (cM (gNl 6) (cM (gNl 7) (cM (gNl 8) (jN)))))) (sIf (D3.jA (bB (dOp gNe (aF 5) (aF 2))) (D3.jA (bB (dUn oE (aF 8))) (D3.jA (bB (dOp gEq (aF 6) (aF 3))) (bB (dOp gLe (aF 7) (dOp gIx (dOp gIx (aF 0) (aF 2)) (dC (.int 0)))))))) (xM 4 (aF 7)) (fO)))) (dZ 0 (L.length:Int)) [some (.d (.list (L.map yD))),some (.d (.int (M:Int))),some (.d (.int (w:Int))),some (.d (.int x)),some (.d (.list (h.map .int))),none,none,none,none] =
  some (.nx [some (.d (.list (L.map yD))),some (.d (.int (M:Int))),some (.d (.int (w:Int))),some (.d (.int x)),some (.d (.list ((h++(gos L w x).map (ek L)).map .int))),u5,u6,u7,u8]):=fun h h1=>by
  obtain ⟨δ',e,u5,u6,u7,u8,rfl⟩:=jo (g:=(gNl 5)) (b:=(b_ (Fe (dOp gIx (aF 0) (aF 5)) (gTn 3 (cM (gNl 6) (cM (gNl 7) (cM (gNl 8) (jN)))))) (sIf (D3.jA (bB (dOp gNe (aF 5) (aF 2))) (D3.jA (bB (dUn oE (aF 8))) (D3.jA (bB (dOp gEq (aF 6) (aF 3))) (bB (dOp gLe (aF 7) (dOp gIx (dOp gIx (aF 0) (aF 2)) (dC (.int 0)))))))) (xM 4 (aF 7)) (fO))))
   (fun i δ=>∃ u5 u6 u7 u8,δ=[some (.d (.list (L.map yD))),some (.d (.int (M:Int))),some (.d (.int (w:Int))),some (.d (.int x)),some (.d (.list ((h++((aG i).filter fun k=>gA L w k x).map (ek L)).map .int))),u5,u6,u7,u8]) (dZ 0 (L.length:Int))
   [some (.d (.list (L.map yD))),some (.d (.int (M:Int))),some (.d (.int (w:Int))),some (.d (.int x)),some (.d (.list (h.map .int))),none,none,none,none] ⟨none,none,none,none,by rw [List.range_zero,List.filter_nil,lA,cP]⟩ (by
    rintro i d δ hd ⟨u5,u6,u7,u8,rfl⟩
    obtain ⟨hi,rfl⟩:=yG hd
    have hi:i < L.length:=by omega
    have ai:=ay hi
    have nn:=yJ (hk L i)
    have e1:decide ((i:Int)=(w:Int))=decide (i=w):=decide_eq_decide.mpr (by omega)
    have ml:(((aG i).filter fun k=>gA L w k x).map (ek L)).length ≤ 24:=by
     rw [aJ]
     have:=cI (fun k=>gA L w k x) (aG i)
     rw [aY] at this
     omega
    have ll:((h++((aG i).filter fun k=>gA L w k x).map (ek L)).map PyData.int).length < 1000000:=by
     rw [aJ,bQ];omega
    have et:((aG (i + 1)).filter fun k=>gA L w k x).map (ek L)=((aG i).filter fun k=>gA L w k x).map (ek L)++(if gA L w i x=true then [ek L i] else []):=by
     rw [List.range_succ,lU,eE]
     by_cases c:gA L w i x=true
     ·rw [iw (p:=fun k=>gA L w k x) c,if_pos c];rfl
     ·rw [iy (p:=fun k=>gA L w k x) c,if_neg c];rfl
    rw [et]
    generalize ((aG i).filter fun k=>gA L w k x).map (ek L)=Z at *
    by_cases c:gA L w i x=true
    ·rw [if_pos c]
     refine ⟨_,[some (.d (.list (L.map yD))),some (.d (.int (M:Int))),some (.d (.int (w:Int))),some (.d (.int x)),some (.d (.list ((h++Z).map .int++[.int (ek L i)]))),some (.d (.int (i:Int))),some (.d (.int (bk L i))),some (.d (.int (ek L i))),some (.d (hD (hk L i)))],rfl,.inl ?_,some (.d (.int (i:Int))),some (.d (.int (bk L i))),some (.d (.int (ek L i))),some (.d (hD (hk L i))),?_⟩
     ·unfold gA at c
      rw [aM,aM,aM] at c
      obtain ⟨c1,c2,c3,c4⟩:=c
      have c1:decide (i=w)=false:=by simpa using c1
      have g1:gTn 3 (cM (gNl 6) (cM (gNl 7) (cM (gNl 8) jN))) (.tuple [.int (bk L i),.int (ek L i),hD (hk L i)]) [some (.d (.list (L.map yD))),some (.d (.int (M:Int))),some (.d (.int (w:Int))),some (.d (.int x)),some (.d (.list ((h++Z).map .int))),some (.d (.int (i:Int))),u6,u7,u8]=some [some (.d (.list (L.map yD))),some (.d (.int (M:Int))),some (.d (.int (w:Int))),some (.d (.int x)),some (.d (.list ((h++Z).map .int))),some (.d (.int (i:Int))),some (.d (.int (bk L i))),some (.d (.int (ek L i))),some (.d (hD (hk L i)))]:=rfl
      simp only [EV,reduceIte,au,aA,ao,aq,aB,aC,aD,ai,g1,e1,c1,cL,nn,c2,c3,aw,at0,c4,ll]
     ·rw [← jH,eE (f:=PyData.int) (l₁:=h++Z)]
      rfl
    ·rw [if_neg c,cP]
     refine ⟨_,[some (.d (.list (L.map yD))),some (.d (.int (M:Int))),some (.d (.int (w:Int))),some (.d (.int x)),some (.d (.list ((h++Z).map .int))),some (.d (.int (i:Int))),some (.d (.int (bk L i))),some (.d (.int (ek L i))),some (.d (hD (hk L i)))],rfl,.inl ?_,_,_,_,_,rfl⟩
     have g1:gTn 3 (cM (gNl 6) (cM (gNl 7) (cM (gNl 8) jN))) (.tuple [.int (bk L i),.int (ek L i),hD (hk L i)]) [some (.d (.list (L.map yD))),some (.d (.int (M:Int))),some (.d (.int (w:Int))),some (.d (.int x)),some (.d (.list ((h++Z).map .int))),some (.d (.int (i:Int))),u6,u7,u8]=some [some (.d (.list (L.map yD))),some (.d (.int (M:Int))),some (.d (.int (w:Int))),some (.d (.int x)),some (.d (.list ((h++Z).map .int))),some (.d (.int (i:Int))),some (.d (.int (bk L i))),some (.d (.int (ek L i))),some (.d (hD (hk L i)))]:=rfl
     unfold gA at c
     cases c1:decide (i=w) with
     | true=>simp only [EV,reduceIte,au,aA,ao,aq,aB,aC,aD,ai,g1,e1,c1,cg]
     | false =>
      rw [c1] at c
      cases c2:(hk L i).isSome with
      | true=>simp only [EV,reduceIte,au,aA,ao,aq,aB,aC,aD,ai,g1,e1,c1,cL,nn,c2,cg]
      | false =>
       rw [c2] at c
       cases c3:decide (bk L i=x) with
       | false=>simp only [EV,reduceIte,au,aA,ao,aq,aB,aC,aD,ai,g1,e1,c1,cL,nn,c2,c3]
       | true =>
        rw [c3] at c
        cases c4:decide (ek L i ≤ bk L w) with
        | false=>simp only [EV,reduceIte,au,aA,ao,aq,aB,aC,aD,ai,g1,e1,c1,cL,nn,c2,c3,aw,at0,c4]
        | true=>rw [c4] at c;exact absurd rfl c)
  rw [mW,gQ] at *
  exact ⟨u5,u6,u7,u8,e⟩
 have C:=VL (L:=L) ((gNl 0)) ((D3.jA (bB (dOp gLe (dOp gIx (aF 0) (dC (.int 0))) (aF 1))) (bB (dOp gLt (aF 1) (dOp gIx (aF 0) (dC (.int 1))))))) ((cR (aF 0))) rfl rfl rfl x (jj 1 [3] [some (.d (.list (L.map yD))),some (.d (.int (M:Int))),some (.d (.int (w:Int))),some (.d (.int x)),some (.d (.list [])),none,none,none,none]) rfl
 have len:(L.map yD).length ≤ 100000:=by rw [aJ];omega
 have ll:((L.map yD).length:Int)=(L.length:Int):=by rw [aJ]
 have cl:(((L.filter (hol x)).map yD).length:Int)=(gY L x:Int):=by rw [aJ];rfl
 have rg:nQ (some [.int (L.length:Int)])=some (dZ 0 (L.length:Int)):=Mq _ (by omega)
 have fl:∀ l:List Int,flats (l.map PyData.int)=true:=fun l=>gC _ (fun _=>rfl) _
 unfold nxt
 unfold jf
 by_cases c:gY L x < M
 ·rw [if_pos c]
  obtain ⟨u5,u6,u7,u8,e⟩:=loop [x + 1] (by simp)
  have dc:decide ((gY L x:Int) < (M:Int))=true:=dTr (by omega)
  have z1:([]:List D).length < 1000000:=by decide
  simp only [EV,reduceIte,au,aA,ao,aq,aB,aC,aD,zl0,len,C,cl,dc,z1,ll,rg]
  have e':([x + 1].map PyData.int)=[PyData.int (x + 1)]:=rfl
  rw [e'] at e
  rw [e]
  simp only [EV,reduceIte,au,aA,ao,aq,aB,aC,aD,jZ,fl]
 ·rw [if_neg c]
  obtain ⟨u5,u6,u7,u8,e⟩:=loop [] (by simp)
  have dc:decide ((gY L x:Int) < (M:Int))=false:=dFa (by omega)
  simp only [EV,reduceIte,au,aA,ao,aq,aB,aC,aD,zl0,len,C,cl,dc,ll,rg]
  have e':(([]:List Int).map PyData.int)=[]:=rfl
  rw [e'] at e
  rw [e]
  simp only [EV,reduceIte,au,aA,ao,aq,aB,aC,aD,jZ,fl]
end
section
variable {L:List Ty} {M:Nat} {now:Int}
theorem JM (ok:TOk L M now) {x:Int} (hx:now ≤ x):gY L x ≤ M:=by
 have key:∀ l:List Ty,(∀ s ∈ l,s ∈ L∧hol x s=true)→l=[]∨∃ s ∈ l,∀ t ∈ l,t.1 ≤ s.1:=by
  intro l
  induction l with
  | nil=>exact fun _=>.inl rfl
  | cons a r ih =>
   intro h
   right
   rcases ih fun s hs=>h s (aO _ hs) with z | ⟨s,s1,s2⟩
   ·subst z
    exact ⟨a,aN,fun t ht=>by rw [aK.mp ht];exact dI _⟩
   ·rcases nU s.1 a.1 with z | z
    ·refine ⟨a,aN,fun t ht=>?_⟩
     rcases bH.mp ht with rfl | q
     ·exact dI _
     ·have:=s2 t q
      omega
    ·refine ⟨s,aO _ s1,fun t ht=>?_⟩
     rcases bH.mp ht with rfl | q
     ·exact z
     ·exact s2 t q
 have hm:∀ s ∈ L.filter (hol x),s ∈ L∧hol x s=true:=fun s hs=>bF.mp hs
 rcases key _ hm with z | ⟨s,s1,s2⟩
 ·unfold gY;rw [z];exact dU _
 ·obtain ⟨s3,s4⟩:=hm s s1
  unfold hol at s4
  rw [aM,decide_eq_true_iff,decide_eq_true_iff] at s4
  refine bT ?_ (ok.full s s3)
  unfold gY
  have e:L.filter (hol x)=(L.filter (hol (if s.1 > now then s.1 else now))).filter (hol x):=by
   rw [List.filter_filter]
   apply List.filter_congr
   intro t ht
   cases c:hol x t with
   | false=>rfl
   | true =>
    have:=s2 t (bF.mpr ⟨ht,c⟩)
    unfold hol at c
    rw [aM,decide_eq_true_iff,decide_eq_true_iff] at c
    have:hol (if s.1 > now then s.1 else now) t=true:=by
     unfold hol
     rw [aM,decide_eq_true_iff,decide_eq_true_iff]
     split <;> omega
    rw [this]
    rfl
  rw [e]
  exact cI _ _
def Cl (L:List Ty) (M w:Nat) (B:Int) (K:Int→Prop):Prop:=K B∧∀ x,B ≤ x→x < bk L w→K x→∀ y ∈ nxt L M w x,K y
def Rc (L:List Ty) (M w:Nat) (B:Int):Prop:=B ≤ bk L w∧∀ K,Cl L M w B K→K (bk L w)
theorem Em (ok:TOk L M now) {w:Nat} {x y:Int} (hx:now ≤ x):y ∈ nxt L M w x↔∃ p,(y,p) ∈ stp L M w x:=by
 have:=JM ok hx
 unfold nxt stp
 constructor
 ·intro h
  rcases aV.mp h with z | z
  ·by_cases c:gY L x < M
   ·rw [if_pos c] at z
    rw [aK.mp z]
    exact ⟨none,aP _ (by rw [if_neg (by omega)];exact aK.mpr rfl)⟩
   ·rw [if_neg c] at z;cases z
  ·obtain ⟨k,k1,rfl⟩:=cG.mp z
   exact ⟨some k,aW _ (cG.mpr ⟨k,k1,rfl⟩)⟩
 ·rintro ⟨p,h⟩
  rcases aV.mp h with z | z
  ·obtain ⟨k,k1,e⟩:=cG.mp z
   cases e
   exact aP _ (cG.mpr ⟨k,k1,rfl⟩)
  ·by_cases c:gY L x=M
   ·rw [if_pos c] at z;cases z
   ·rw [if_neg c] at z
    have:=aK.mp z
    cases this
    exact aW _ (by rw [if_pos (by omega)];exact aK.mpr rfl)
theorem Sok.sound (ok:TOk L M now) {w:Nat} {B:Int} {S:List (Int × D)} (nB:now ≤ B) (so:Sok L M w B S) {K:Int→Prop} (hK:Cl L M w B K):∀ (m:Nat) (x:Int),(x - B).toNat ≤ m→(dO S x).isSome=true→K x:=by
 intro m
 induction m with
 | zero =>
  intro x hm hx
  obtain ⟨d,ed⟩:=cH.mp hx
  rcases so.c x d ed with ⟨rfl,_⟩ | ⟨y,p,_,y1,y2,_⟩
  ·exact hK.1
  ·omega
 | succ m ih =>
  intro x hm hx
  obtain ⟨d,ed⟩:=cH.mp hx
  rcases so.c x d ed with ⟨rfl,_⟩ | ⟨y,p,_,y1,y2,y3,y4,y5⟩
  ·exact hK.1
  ·exact hK.2 y y1 y3 (ih y (by omega) y4) x ((Em ok (by omega)).mpr ⟨p,uo.mpr y5⟩)
theorem xG (ok:TOk L M now) {w:Nat} {B:Int} {S:List (Int × D)} (nB:now ≤ B) (hB:B ≤ bk L w) (so:Sok L M w B S) (cl:∀ x,B ≤ x→x < bk L w→(dO S x).isSome=true→∀ s ∈ stp L M w x,(dO S s.1).isSome=true):(dO S (bk L w)).isSome=true↔Rc L M w B :=
 ⟨fun h=>⟨hB,fun K hK=>so.sound ok nB hK _ _ (bf _) h⟩,fun h=>h.2 (fun x=>(dO S x).isSome=true) ⟨by show (dO S B).isSome=true;rw [so.b];rfl,fun x x1 x2 x3 y hy=>by
  obtain ⟨p,hp⟩:=(Em ok (by omega)).mp hy
  exact cl x x1 x2 x3 _ hp⟩⟩
theorem Rq (ok:TOk L M now) {w:Nat} {x y:Int} (h:y ∈ nxt L M w x):x < y:=by
 unfold nxt at h
 rcases aV.mp h with z | z
 ·by_cases c:gY L x < M
  ·rw [if_pos c] at z
   have:=aK.mp z
   omega
  ·rw [if_neg c] at z;cases z
 ·obtain ⟨k,k1,rfl⟩:=cG.mp z
  unfold gos gA at k1
  rw [bF,aR,aM,aM,aM,decide_eq_true_iff] at k1
  obtain ⟨k2,_,_,k3,_⟩:=k1
  have:=(ok.ok _ (fG k2)).1
  have:bk L k < ek L k:=this
  omega
theorem M6 {w:Nat} {x:Int} (hl:L.length ≤ 24):(nxt L M w x).length ≤ 25:=by
 have:=cI (fun k=>gA L w k x) (aG L.length)
 rw [aY] at this
 unfold nxt gos
 rw [bQ,aJ]
 split <;> simp only [gO,bM] <;> omega
theorem rR {S:List Int} {k x:Int}:x ∈ pD S k↔x ∈ S∨x=k:=by
 unfold pD
 split
 ·next c =>
  constructor
  ·exact .inl
  ·rintro (z | rfl)
   ·exact z
   ·exact c
 ·rw [aV,aK]
theorem M7 (S:List Int) (k:Int):(pD S k).length ≤ S.length + 1:=by
 unfold pD
 split
 ·omega
 ·rw [bQ];exact bf _
theorem Rr {fk:FE} {δ:DS} {i:Int} (h:fk δ=some (.int i)):Dz fk δ=some (dsB [i]):=by
 unfold Dz
 rw [h]
 rfl
theorem CP (ok:TOk L M now) (n0:0 ≤ now) (n1:now ≤ 399) {w r:Nat} {f:Nat→Int} (hw:w < L.length) (hr:r < M) (hf:∀ s,s < M→(∃ k,k < L.length∧hk L k=some s∧f s=ek L k)∨((∀ k,k < L.length→hk L k ≠ some s)∧f s=now)) (nf:now ≤ f r) :
 ∃ b,gH [.list (L.map yD),.int (M:Int),.int now,.int (w:Int),.int (r:Int)]=some (.bool b)∧(b=true↔Rc L M w (f r)):=by
 have l24:=ok.len
 have aw:=ay hw
 have bg:Com.fD _=_:=Ro ok hr hf
 have g400:bk L w ≤ 400:=by
  have h1:=(ok.bd _ (fG hw)).2
  have h2:=(ok.ok _ (fG hw)).1
  have h1:ek L w ≤ 400:=h1
  have h2:bk L w < ek L w:=h2
  omega
 obtain ⟨δ',e,S,u7,u8,h1,h2,h3,h4,rfl⟩:=jo (g:=(gNl 7)) (b:=(sIf (bB (dOp sX (aF 7) (aF 6))) (mD (kI (dCall jf (aH (aF 0) (aH (aF 1) (aH (aF 3) (aH (aF 7) (bh))))))) (gNl 8) (tK 6 (aF 8))) (fO)))
  (fun i δ=>∃ (S:List Int) (u7 u8:Option U),f r ∈ S∧S.length ≤ 1 + 25 * i∧(∀ x ∈ S,f r ≤ x∧∀ K,Cl L M w (f r) K→K x)∧(∀ x,now ≤ x→x < now + (i:Int)→x ∈ S→∀ y ∈ nxt L M w x,y ∈ S) ∧
   δ=[some (.d (.list (L.map yD))),some (.d (.int (M:Int))),some (.d (.int now)),some (.d (.int (w:Int))),some (.d (.int (r:Int))),some (.d (.int (bk L w))),some (.d (dsB S)),u7,u8]) (dZ now (bk L w))
  [some (.d (.list (L.map yD))),some (.d (.int (M:Int))),some (.d (.int now)),some (.d (.int (w:Int))),some (.d (.int (r:Int))),some (.d (.int (bk L w))),some (.d (dsB [f r])),none,none]
  ⟨[f r],none,none,aK.mpr rfl,(show 1 ≤ 1 + 25 * 0 by decide),fun x hx=>by rw [aK.mp hx];exact ⟨dI _,fun K hK=>hK.1⟩,fun x q1 q2=>by omega,rfl⟩ (by
   rintro i d δ hd ⟨S,u7,u8,h1,h2,h3,h4,rfl⟩
   obtain ⟨hi,rfl⟩:=NP hd
   have i400:i ≤ 400:=by omega
   have q1:=Jz (S:=S) (k:=now + (i:Int))
   by_cases kx:now + (i:Int) ∈ S
   ·rw [dTr kx] at q1
    have nx:jf _=_:=M5 (M:=M) (x:=now + (i:Int)) l24 hw
    have nl:=M6 (L:=L) (M:=M) (w:=w) (x:=now + (i:Int)) l24
    obtain ⟨δ2,e2,S2,v8,g1,g2,g3,g4,g5,rfl⟩:=jo (g:=(gNl 8)) (b:=(tK 6 (aF 8)))
     (fun j δ=>∃ (S2:List Int) (v8:Option U),(∀ x ∈ S,x ∈ S2)∧S2.length ≤ S.length + j∧(∀ x ∈ S2,f r ≤ x∧∀ K,Cl L M w (f r) K→K x)∧(∀ x ∈ (nxt L M w (now + (i:Int))).take j,x ∈ S2)∧(∀ x ∈ S2,x ≤ now + (i:Int)→x ∈ S) ∧
      δ=[some (.d (.list (L.map yD))),some (.d (.int (M:Int))),some (.d (.int now)),some (.d (.int (w:Int))),some (.d (.int (r:Int))),some (.d (.int (bk L w))),some (.d (dsB S2)),some (.d (.int (now + (i:Int)))),v8]) ((nxt L M w (now + (i:Int))).map .int)
     [some (.d (.list (L.map yD))),some (.d (.int (M:Int))),some (.d (.int now)),some (.d (.int (w:Int))),some (.d (.int (r:Int))),some (.d (.int (bk L w))),some (.d (dsB S)),some (.d (.int (now + (i:Int)))),u8]
     ⟨S,u8,fun _ h=>h,bf _,h3,(fun x hx=>by cases hx),fun _ h _=>h,rfl⟩ (by
      rintro j d δ hd ⟨S2,v8,g1,g2,g3,g4,g5,rfl⟩
      rw [aQ] at hd
      cases es:(nxt L M w (now + (i:Int)))[j]? with
      | none=>rw [es] at hd;cases hd
      | some y =>
       rw [es] at hd
       cases hd
       have jl:j < 25:=bN (cD.mp es).1 nl
       have ym:=fJ es
       have yl:=Rq ok ym
       have vs:=Ai (i:=6) (S:=S2) (k:=y) (δ:=[some (.d (.list (L.map yD))),some (.d (.int (M:Int))),some (.d (.int now)),some (.d (.int (w:Int))),some (.d (.int (r:Int))),some (.d (.int (bk L w))),some (.d (dsB S2)),some (.d (.int (now + (i:Int)))),some (.d (.int y))]) (by omega)
       refine ⟨_,[some (.d (.list (L.map yD))),some (.d (.int (M:Int))),some (.d (.int now)),some (.d (.int (w:Int))),some (.d (.int (r:Int))),some (.d (.int (bk L w))),some (.d (dsB (pD S2 y))),some (.d (.int (now + (i:Int)))),some (.d (.int y))],rfl,.inl ?_,pD S2 y,_,fun x hx=>rR.mpr (.inl (g1 x hx)),?_,fun x hx=>?_,fun x hx=>?_,fun x hx xl=>?_,rfl⟩
       ·simp only [EV,reduceIte,au,aA,ao,aq,aB,aC,aD,Jy]
        exact vs
       ·have:=M7 S2 y
        omega
       ·rcases rR.mp hx with z | rfl
        ·exact g3 x z
        ·obtain ⟨k1,k2⟩:=h3 _ kx
         exact ⟨by omega,fun K hK=>hK.2 _ k1 hi (k2 K hK) _ ym⟩
       ·rw [iU,es] at hx
        rcases aV.mp hx with z | z
        ·exact rR.mpr (.inl (g4 x z))
        ·exact rR.mpr (.inr (aK.mp z))
       ·rcases rR.mp hx with z | z
        ·exact g5 x z xl
        ·omega)
    rw [aJ] at g2 g4
    rw [ji] at g4
    refine ⟨_,[some (.d (.list (L.map yD))),some (.d (.int (M:Int))),some (.d (.int now)),some (.d (.int (w:Int))),some (.d (.int (r:Int))),some (.d (.int (bk L w))),some (.d (dsB S2)),some (.d (.int (now + (i:Int)))),v8],rfl,.inl ?_,S2,_,_,g1 _ h1,by omega,g3,fun x x1 x2 x3 y hy=>?_,rfl⟩
    ·simp only [EV,reduceIte,au,aA,ao,aq,aB,aC,aD,q1,nx]
     exact e2
    ·by_cases z:x=now + (i:Int)
     ·rw [z] at hy;exact g4 y hy
     ·exact g1 y (h4 x x1 (by omega) (g5 x x3 (by omega)) y hy)
   ·rw [dFa kx] at q1
    refine ⟨_,[some (.d (.list (L.map yD))),some (.d (.int (M:Int))),some (.d (.int now)),some (.d (.int (w:Int))),some (.d (.int (r:Int))),some (.d (.int (bk L w))),some (.d (dsB S)),some (.d (.int (now + (i:Int)))),u8],rfl,.inl ?_,S,_,_,h1,by omega,h3,fun x x1 x2 x3=>?_,rfl⟩
    ·simp only [EV,reduceIte,au,aA,ao,aq,aB,aC,aD,q1]
    ·by_cases z:x=now + (i:Int)
     ·rw [z] at x3;exact absurd x3 kx
     ·exact h4 x x1 (by omega) x3)
 refine ⟨decide (bk L w ∈ S),?_,?_⟩
 ·have rg:Ae (some [.int now,.int (bk L w)])=some (dZ now (bk L w)):=by
   have:0 ≤ bk L w:=(ok.bd _ (fG hw)).1
   exact Ue (by omega) (by omega) (by omega) (by omega)
  have nb:=fun (δ:DS) (h:dCall Com.fD (aH (aF 0) (aH (aF 2) (aH (aF 4) (bh)))) δ=some (.int (f r)))=>Rr h
  have q1:=Jz (S:=S) (k:=bk L w)
  unfold gH
  simp only [EV,reduceIte,au,aA,ao,aq,aB,aC,aD,aw,at0]
  rw [nb _ (by simp only [EV,reduceIte,au,aA,ao,aq,aB,aC,aD,bg])]
  simp only [EV,reduceIte,au,aA,ao,aq,aB,aC,aD,rg]
  rw [e]
  simp only [EV,reduceIte,au,aA,ao,aq,aB,aC,aD,q1]
 ·rw [decide_eq_true_iff]
  constructor
  ·intro h
   obtain ⟨k1,k2⟩:=h3 _ h
   exact ⟨k1,k2⟩
  ·intro h
   refine h.2 (fun x=>x ∈ S) ⟨h1,fun x x1 x2 x3=>h4 x (by omega) ?_ x3⟩
   unfold dZ
   rw [aJ,aY]
   omega
end
section
variable {L:List Ty} {M:Nat} {now:Int}
theorem JN (ok:TOk L M now) (hM:M ≤ 12) (n0:0 ≤ now) {w r:Nat} {f:Nat→Int} (hw:w < L.length) (hn:hk L w=none) (hr:r < M)
 (ef:cj [.list (L.map yD),.int (M:Int),.int now]=some (.list ((aG M).map fun s:Nat=>PyData.int (f s)))) (hf:∀ s,s < M→(∃ k,k < L.length∧hk L k=some s∧f s=ek L k)∨((∀ k,k < L.length→hk L k ≠ some s)∧f s=now)) (nf:now ≤ f r) :
 ∃ (l:List D) (x:Str),gG [.list (L.map yD),.int (M:Int),.int now,.int (w:Int),.int (r:Int)]=some (.tuple (.str x :: l))∧(x = "yes" ∨ x = "no")∧(x = "yes" ↔ Rc L M w (f r)):=by
 have W:=wd ok hw hn hr hf
 have g59:bk L w ≤ f r + 59:=by
  have h1:bk L w ≤ now + 59:=ok.nr _ (fG hw) hn
  omega
 have fB:0 ≤ f r:=by omega
 have ny:("no" : Str) ≠ "yes" := by decide
 by_cases hB:f r ≤ bk L w
 ·obtain ⟨S,eS,so,cl⟩:=vD ok hw fB hB
  have ri:=xG ok nf hB so cl
  cases kg:(dO S (bk L w)).isSome with
  | true =>
   obtain ⟨t,rr,em,_⟩:=MN ok hM hw hn hr ef hf hB fB eS so kg
   exact ⟨_,_,em,.inl rfl,fun _=>ri.mp kg,fun _=>rfl⟩
  | false =>
   have em:=M4 ok hw hn hr ef hB eS so.a (by have:=so.len hB g59;omega) kg
   refine ⟨_,_,em,.inr rfl,fun z=>absurd z ny,fun z=>?_⟩
   rw [← ri,kg] at z
   cases z
 ·have em:=MP ok hw hn hr ef (by omega)
  exact ⟨_,_,em,.inr rfl,fun z=>absurd z ny,fun z=>absurd z.1 hB⟩
noncomputable def rcB (L:List Ty) (M w:Nat) (B:Int):Bool:=@decide (Rc L M w B) (Classical.propDecidable _)
theorem uq {w:Nat} {B:Int}:rcB L M w B=true↔Rc L M w B:=by
 unfold rcB
 exact @decide_eq_true_iff _ (Classical.propDecidable _)
noncomputable def due (L:List Ty) (M w:Nat) (f:Nat→Int):List Nat:=(aG M).filter fun r=>rcB L M w (f r)
theorem JQ (ok:TOk L M now) (hM:M ≤ 12) (n0:0 ≤ now) {w:Nat} {f:Nat→Int} (hw:w < L.length) (hn:hk L w=none)
 (ef:cj [.list (L.map yD),.int (M:Int),.int now]=some (.list ((aG M).map fun s:Nat=>PyData.int (f s)))) (hf:∀ s,s < M→(∃ k,k < L.length∧hk L k=some s∧f s=ek L k)∨((∀ k,k < L.length→hk L k ≠ some s)∧f s=now)) (nf:∀ r,r < M→now ≤ f r) :
 k_ [.list (L.map yD),.int (M:Int),.int now,.int (w:Int)]=some (.list (nD (due L M w f))):=by
 have C:dW (gNl 0) (bB (dOp gEq (dOp gIx (dCall gG (aH (aF 1) (aH (aF 2) (aH (aF 3) (aH (aF 4) (aH (aF 0) (bh))))))) (dC (.int 0))) (dC (.str "yes")))) (cR (aF 0)) (jj 1 [0,1,2,3] [some (.d (.list (L.map yD))),some (.d (.int (M:Int))),some (.d (.int now)),some (.d (.int (w:Int)))]) (dZ 0 (M:Int))=some (nD (due L M w f)):=by
  rw [pZ,gQ]
  exact vg (fun k:Nat=>PyData.int (k:Int)) (fun r=>rcB L M w (f r)) (fun k:Nat=>PyData.int (k:Int)) (aG M) fun r hr=>⟨[some (.d (.int (r:Int))),some (.d (.list (L.map yD))),some (.d (.int (M:Int))),some (.d (.int now)),some (.d (.int (w:Int)))],rfl,by
   have hr:=aR.mp hr
   obtain ⟨l,x,em,hx,ri⟩:=JN ok hM n0 hw hn hr ef hf (nf r hr)
   rcases hx with rfl | rfl
   ·have q:gEq (.str "yes") (.str "yes")=some (.bool true):=Com.eq_self (Jj Rn (by decide))
    rw [uq.mpr (ri.mp rfl)]
    simp only [EV,reduceIte,au,aA,ao,aq,aB,aC,aD,em,at0,q]
   ·have q:gEq (.str "no") (.str "yes")=some (.bool false):=by
     unfold gEq
     rw [if_pos (by decide +kernel),show PyData.eqv (.str "no") (.str "yes")=false by decide +kernel]
    rw [Bool.eq_false_iff.mpr fun z=>absurd (ri.mpr (uq.mp z)) (by decide)]
    simp only [EV,reduceIte,au,aA,ao,aq,aB,aC,aD,em,at0,q],fun _=>by simp only [EV,reduceIte,au,aA,ao,aq,aB,aC,aD,fli]⟩
 have c1:=yL ok hw hn
 have rg:nQ (some [.int (M:Int)])=some (dZ 0 (M:Int)):=Mq _ (by omega)
 have l2:(dZ 0 (M:Int)).length ≤ 100000:=by rw [mW];omega
 unfold k_
 simp only [EV,reduceIte,au,aA,ao,aq,aB,aC,aD,c1,rg,l2,C]
theorem M8 (ok:TOk L M now) (hM:M ≤ 12) (n0:0 ≤ now) {w:Nat} {f:Nat→Int} (hw:w < L.length) (hn:hk L w=none)
 (ef:cj [.list (L.map yD),.int (M:Int),.int now]=some (.list ((aG M).map fun s:Nat=>PyData.int (f s)))) (hf:∀ s,s < M→(∃ k,k < L.length∧hk L k=some s∧f s=ek L k)∨((∀ k,k < L.length→hk L k ≠ some s)∧f s=now)) (nf:∀ r,r < M→now ≤ f r) :
 iH [.list (L.map yD),.int (M:Int),.int now,.int (w:Int),.list (nD (due L M w f))]=some (.bool true):=by
 have rf:=JQ ok hM n0 hw hn ef hf nf
 have dl:(due L M w f).length ≤ 12:=by
  have:=cI (fun r=>rcB L M w (f r)) (aG M)
  rw [aY] at this
  exact bT this hM
 generalize due L M w f=Q at *
 have C1:∀ δ0,dW (gNl 0) (D3.jM) (dCall eZ (aH (aF 0) (bh))) (jj 1 [] δ0) (nD Q)=some (Q.map fun _=>PyData.bool true):=fun δ0=>by
  exact yF (fun k:Nat=>PyData.int (k:Int)) (fun _=>PyData.bool true) Q fun k _=>⟨[some (.d (.int (k:Int)))],rfl,rfl,by
   have:=lwh (.int (k:Int))
   have:Com.eZ _=_:=this
   simp only [EV,reduceIte,au,aA,ao,aq,aB,aC,aD,this]
   rfl⟩
 have a1:Bj [.list (Q.map fun _=>PyData.bool true)]=some (.bool true):=by
  have:=allB (fun _:Nat=>true) Q
  rw [this,jW.mpr fun _ _=>rfl]
 have l1:(nD Q).length ≤ 100000:=by unfold nD;rw [aJ];omega
 have l2:(nD Q).length < 1000000:=by unfold nD;rw [aJ];omega
 have i2:D3.isT "list" (tyD (.list (nD Q)))=true:=rfl
 have fl:flats (nD Q)=true:=gC _ (fun _=>rfl) _
 have es:gNe (.list (nD Q)) (.list (nD Q))=some (.bool false):=ne_self (Jj (n:=2) (yH (uh _ (fun _=>vh) _)) (by decide))
 unfold iH
 simp only [EV,reduceIte,au,aA,ao,aq,aB,aC,aD,rf,jZ,fl,i2,l1,C1,a1,cg,es,l2]
end
theorem JR (ns:List Int) (h63:ns.length ≤ 63):Jw [.list (ns.map .int)]=some (.bool true):=by
 have p4:=dN (ns:=ns) (i:=0) (k:=4) (m:=4) (by decide) (by decide) (by decide) (by decide)
 obtain ⟨now,n0,n1,en⟩:=Jk ns
 obtain ⟨b4,hb4⟩:∃ b4,decide (iD ns 0 4 4=1)=b4:=⟨_,rfl⟩
 generalize iD ns 0 4 4=x4 at *
 have ix:pAt [.int 3,.int 8] (if b4=true then 1 else 0)=some (.int (if b4=true then 8 else 3)):=by cases b4 <;> rfl
 have iN:Bh [.bool b4]=some (.int (if b4=true then 1 else 0)):=rfl
 have mm:(0:Int) < (if b4=true then 8 else 3)∧(if b4=true then (8:Int) else 3) ≤ 8:=by cases b4 <;> decide
 have p3:=dN (ns:=ns) (i:=0) (k:=3) (m:=if b4=true then 8 else 3) (by decide) (by decide) (by decide) mm.1
 have r3:=dw ns 0 3 mm.1
 generalize iD ns 0 3 (if b4=true then 8 else 3)=x3 at *
 obtain ⟨M,eM⟩:∃ M:Nat,(M:Int)=1 + x3:=⟨(1 + x3).toNat,by omega⟩
 have hM:M ≤ 12:=by omega
 obtain ⟨L,ok,eS⟩:=Cm ns (M:=M) (now:=now) hM n0 n1
 obtain ⟨h,q0,v0,b0,z0⟩:=Gs ns (at':=40) ok hM (by decide)
 have l24:=ok.len
 obtain ⟨f,ef,hf⟩:=CJ (TO0.of ok) hM
 have nf:∀ r,r < M→now ≤ f r:=fun r hr=>by
  rcases hf r hr with ⟨k,k1,k2,k3⟩ | ⟨_,k3⟩
  ·have:=((ok.ok _ (fG k1)).2.1 r k2).2.2
   have:now < ek L k:=this
   omega
  ·omega
 have neS:gNe (.list (L.map yD)) (.list (L.map yD))=some (.bool false):=ne_self (Jj (n:=3) (yH (uh _ (fun s=>Ux s) _)) (by decide))
 have rg:nQ (some [.int (L.length:Int)])=some (dZ 0 (L.length:Int)):=Mq _ (by omega)
 have rgM:nQ (some [.int (M:Int)])=some (dZ 0 (M:Int)):=Mq _ (by omega)
 have ll:((L.map yD).length:Int)=(L.length:Int):=by rw [aJ]
 have rl:(dZ 0 (L.length:Int)).length ≤ 100000:=by rw [mW];omega
 have rlM:(dZ 0 (M:Int)).length ≤ 100000:=by rw [mW];omega
 let sm:=(aG L.length).filter fun k=>!(hk L k).isSome
 have hsm:sm=(aG L.length).filter fun k=>!(hk L k).isSome:=rfl
 have sl:sm.length ≤ 24:=by
  have:=cI (fun k=>!(hk L k).isSome) (aG L.length)
  rw [aY] at this
  rw [hsm]
  omega
 have ms:∀ k ∈ sm,k < L.length∧hk L k=none:=fun k hk'=>by
  obtain ⟨k1,k2⟩:=bF.mp hk'
  refine ⟨aR.mp k1,?_⟩
  cases z:hk L k with
  | none=>rfl
  | some s=>rw [z] at k2;cases k2
 have C:dW (gNl 0) (bB (dUn oE (dOp gIx (dOp gIx (aF 1) (aF 0)) (dC (.int 2))))) (cR (aF 0)) (jj 1 [3] [some (.d (.list (ns.map .int))),some (.d (.int (M:Int))),some (.d (.int now)),some (.d (.list (L.map yD))),some (.d (.list (plD L.length h))),none,none,none,none,none]) (dZ 0 (L.length:Int))=some (nD sm):=by
  rw [pZ,gQ]
  exact vg (fun k:Nat=>PyData.int (k:Int)) (fun k=>!(hk L k).isSome) (fun k:Nat=>PyData.int (k:Int)) (aG L.length) fun k hk'=>⟨[some (.d (.int (k:Int))),some (.d (.list (L.map yD)))],rfl,by
   have ak:=ay (aR.mp hk')
   have nn:=yJ (hk L k)
   simp only [EV,reduceIte,au,aA,ao,aq,aB,aC,aD,ak,at2,nn],fun _=>by simp only [EV,reduceIte,au,aA,ao,aq,aB,aC,aD,fli]⟩
 clear_value sm
 clear hsm
 have lsm:((nD sm).length:Int)=(sm.length:Int):=by unfold nD;rw [aJ]
 obtain ⟨N,eN,N0,N1⟩:∃ N:Int,(if (sm.length:Int) < 3 then (sm.length:Int) else 3)=N∧0 ≤ N∧N ≤ 3∧N ≤ (sm.length:Int):=by
  refine ⟨_,rfl,?_,?_,?_⟩ <;> split <;> omega
 have rgN:nQ (some [.int N])=some (dZ 0 N):=Cg (by omega) (by omega)
 obtain ⟨δ',e,u7,u8,u9,rfl⟩:=jo (g:=(gNl 7)) (b:=(b_ (bW 8 (dOp gIx (aF 5) (dCall bL (aH (aF 0) (aH (dC (.int 41)) (aH (aF 7) (aH (dCall jm (aH (aF 5) (bh))) (bh)))))))) (b_ (bW 9 (gD (kJ (aH (aF 1) (bh))) (gNl 0) (bB (dCall gH (aH (aF 1) (aH (aF 2) (aH (aF 3) (aH (aF 4) (aH (aF 0) (bh)))))))) (cR (aF 0)) 1 [3,1,2,8])) (b_ (sIf (D3.tOr (D3.n6 (bB (dCall iH (aH (aF 6) (aH (aF 1) (aH (aF 2) (aH (aF 8) (aH (aF 9) (bh))))))))) (bB (dOp nj (dOp gIx (aF 4) (aF 8)) (aF 9)))) (d8 (dC (.bool false))) (fO)) (sIf (D3.tOr (D3.n6 (bB (dCall iH (aH (aF 6) (aH (aF 1) (aH (aF 2) (aH (aF 8) (aH (aF 9) (bh))))))))) (bB (dOp gNe (aF 6) (aF 3)))) (d8 (dC (.bool false))) (fO)))))) (fun i δ=>∃ u7 u8 u9:Option U,δ=[some (.d (.list (ns.map .int))),some (.d (.int (M:Int))),some (.d (.int now)),some (.d (.list (L.map yD))),some (.d (.list (plD L.length h))),some (.d (.list (nD sm))),some (.d (.list (L.map yD))),u7,u8,u9]) (dZ 0 N)
  [some (.d (.list (ns.map .int))),some (.d (.int (M:Int))),some (.d (.int now)),some (.d (.list (L.map yD))),some (.d (.list (plD L.length h))),some (.d (.list (nD sm))),some (.d (.list (L.map yD))),none,none,none] ⟨none,none,none,rfl⟩ (by
   rintro i d δ hd ⟨u7,u8,u9,rfl⟩
   obtain ⟨hi,rfl⟩:=yG hd
   have sp:(0:Int) < (sm.length:Int):=by omega
   have pi:=dN (ns:=ns) (i:=41) (k:=(i:Int)) (m:=(sm.length:Int)) (by decide) (by omega) (by omega) sp
   have ri:=dw ns 41 (i:Int) sp
   generalize iD ns 41 (i:Int) (sm.length:Int)=y at *
   obtain ⟨j,ej⟩:∃ j:Nat,(j:Int)=y:=⟨y.toNat,by omega⟩
   have jl:j < sm.length:=by omega
   obtain ⟨hw,hn⟩:=ms (sm[j]) (jX jl)
   have aj:pAt (nD sm) y=some (.int ((sm[j]:Nat):Int)):=by
    rw [← ej,mV]
    unfold nD
    rw [aQ,aZ jl]
    rfl
   generalize sm[j]=w at *
   have C2:dW (gNl 0) (bB (dCall gH (aH (aF 1) (aH (aF 2) (aH (aF 3) (aH (aF 4) (aH (aF 0) (bh)))))))) (cR (aF 0)) (jj 1 [3,1,2,8] [some (.d (.list (ns.map .int))),some (.d (.int (M:Int))),some (.d (.int now)),some (.d (.list (L.map yD))),some (.d (.list (plD L.length h))),some (.d (.list (nD sm))),some (.d (.list (L.map yD))),some (.d (.int (i:Int))),some (.d (.int (w:Int))),u9]) (dZ 0 (M:Int))=some (nD (due L M w f)):=by
    rw [pZ,gQ]
    exact vg (fun k:Nat=>PyData.int (k:Int)) (fun r=>rcB L M w (f r)) (fun k:Nat=>PyData.int (k:Int)) (aG M) fun r hr=>⟨[some (.d (.int (r:Int))),some (.d (.list (L.map yD))),some (.d (.int (M:Int))),some (.d (.int now)),some (.d (.int (w:Int)))],rfl,by
     have hr:=aR.mp hr
     obtain ⟨b,eb,ib⟩:=CP ok n0 n1 hw hr hf (nf r hr)
     have:b=rcB L M w (f r):=by rw [oV,ib,uq]
     rw [this] at eb
     simp only [EV,reduceIte,au,aA,ao,aq,aB,aC,aD,eb],fun _=>by simp only [EV,reduceIte,au,aA,ao,aq,aB,aC,aD,fli]⟩
   have tk:=M8 ok hM n0 hw hn ef hf nf
   obtain ⟨r,er⟩:∃ r:Nat,(r:Int)=h w:=⟨(h w).toNat,by have:=(b0 w hw).1;omega⟩
   have hr:r < M:=by have:=(b0 w hw).2;omega
   have ap:pAt (plD L.length h) (w:Int)=some (.int (r:Int)):=by rw [er];exact vN (fun k=>PyData.int (h k)) hw
   have rin:r ∈ due L M w f:=by
    refine bF.mpr ⟨aR.mpr hr,uq.mpr ?_⟩
    obtain ⟨hB,key⟩:=JK ok hw hn hr hf v0 b0 z0 er.symm
    obtain ⟨S,eS',so,cl⟩:=vD ok hw (by have:=nf r hr;omega) hB
    exact (xG ok (nf r hr) hB so cl).mp (key S so cl)
   have nin:nj (.int (r:Int)) (.list (nD (due L M w f)))=some (.bool false):=by
    have:=Rp ((due L M w f).map fun k:Nat=>(k:Int)) (r:Int)
    rw [dR,dTr (cG.mpr ⟨r,rin,rfl⟩)] at this
    exact this
   refine ⟨_,[some (.d (.list (ns.map .int))),some (.d (.int (M:Int))),some (.d (.int now)),some (.d (.list (L.map yD))),some (.d (.list (plD L.length h))),some (.d (.list (nD sm))),some (.d (.list (L.map yD))),some (.d (.int (i:Int))),some (.d (.int (w:Int))),some (.d (.list (nD (due L M w f))))],rfl,.inl ?_,_,_,_,rfl⟩
   generalize nD (due L M w f)=DU at *
   generalize nD sm=SM at *
   simp only [EV,reduceIte,au,aA,ao,aq,aB,aC,aD,lsm,pi,aj,rgM,rlM,C2,tk,cg,ap,nin,neS])
 unfold Jw
 generalize hPL:plD L.length h=PL at *
 generalize nD sm=SM at *
 simp only [EV,reduceIte,au,aA,ao,aq,aB,aC,aD,p4,hb4,zl2,iN,ix,p3,← eM,en,eS,q0,ll,rg,rl,C,lsm,Ea,eN,rgN]
 rw [e]
 simp only [EV,reduceIte,au,aA,ao,aq,aB,aC,aD]
end K44
namespace K44
open PySem PySem.Spec PyProof.Rows L2 My D3 XS XK
def top (i:Nat):Stmt:=PySem.Challenge.pw_nightbook_k44_rooms_for.main.body.getD i (.Pass ⟨0,0,0,0⟩)
section
seal PE PT PW PA PS PSs PG PGs PI PO PTs
variable {P:Program} {w:World} {K:PySem.W.Frag} {mg:Str→Option Value} {base:Heap} {n:Nat}
theorem Al (D:Dg K mg "is_whole" (top 7) ["thing"]) (B:Bl mg):Has P w K mg base (n + 1) "is_whole" ["thing"] (spD K eX):=by
 have sc:FnScope ["thing"] ["thing"] (bx (top 7)):=fsc
 exact d9 (fl:=[.A]) D sc (by decide) (by decide) fun f cdv A outer s H E hr=>aX (cF (cJ (m8 (bK (qy (T := "int") (by decide) (vP 0) (by rfl) B.isinstance_ (by rfl) B.int_ PyProof.Rows.boot_int)) (sI (HB (bK (qy (T := "bool") (by decide) (vP 0) (by rfl) B.isinstance_ (by rfl) B.bool_ PyProof.Rows.boot_bool)))))))
theorem yP (D:Dg K mg "all_whole" (top 8) ["things"]) (B:Bl mg) (his_whole:Has P w K mg base n "is_whole" ["thing"] (spD K eX)):Has P w K mg base (n + 1) "all_whole" ["things"] (spD K kY):=by
 have sc:FnScope ["things"] ["things"] (bx (top 8)):=fsc
 exact d9 (fl:=[.A]) D sc (by decide) (by decide) fun f cdv A outer s H E hr=>aX (cF (cJ (eG (wQ rfl) Dr (by rfl) B.all_ (show bootBuiltins "all" = some (.builtin "all") by decide +kernel) (dq (bK (iV (L:=[]) (fl':=[.A]) rfl ["thing"] [] [] (PJ (vB 0)) (fun _ _ _ _ _=>gN' (i:=0) (show (["thing"]:List Str).Nodup by decide +kernel)) (fun _ _ _ _ _=>lG) (fun _ _ _ _ _=>bJ his_whole hr (dq (vP 0) dz)))) dz))))
theorem vG (D:Dg K mg "is_tuple_of" (top 9) ["thing", "many"]) (B:Bl mg) (hall_whole:Has P w K mg base n "all_whole" ["things"] (spD K kY)):Has P w K mg base (n + 1) "is_tuple_of" ["thing", "many"] (spD K kj):=by
 have sc:FnScope ["thing", "many"] ["thing", "many"] (bx (top 9)):=fsc
 exact d9 (fl:=[.A,.A]) D sc (by decide) (by decide) fun f cdv A outer s H E hr=>aX (cF (wL (m8 (bK (qy (T := "tuple") (by decide) (vP 0) (by rfl) B.isinstance_ (by rfl) B.tuple_ PyProof.Rows.boot_tuple)) (m8 (bK (oG (mZ hr.units) vJ (bK (eG cA ju (by rfl) B.len_ PySem.boot_len (dq (vP 0) dz))) (vP 1) (cZ _))) (sI (bJ hall_whole hr (dq (vP 0) dz)))))))
theorem CQ (D:Dg K mg "is_pair" (top 10) ["thing"]) (B:Bl mg) (his_tuple_of:Has P w K mg base n "is_tuple_of" ["thing", "many"] (spD K kj)):Has P w K mg base (n + 1) "is_pair" ["thing"] (spD K nR):=by
 have sc:FnScope ["thing"] ["thing"] (bx (top 10)):=fsc
 exact d9 (fl:=[.A]) D sc (by decide) (by decide) fun f cdv A outer s H E hr=>aX (cF (wL (bJ his_tuple_of hr (dq (vP 0) (dq iP dz)))))
theorem vO (D:Dg K mg "is_stretch" (top 13) ["thing"]) (B:Bl mg) (his_pair:Has P w K mg base n "is_pair" ["thing"] (spD K nR)) (gNIGHTS:∃ t,mg "NIGHTS" = some (.int 400 t)):Has P w K mg base (n + 1) "is_stretch" ["thing"] (spD K jR):=by
 have sc:FnScope ["thing"] ["thing"] (bx (top 13)):=fsc
 exact d9 (fl:=[.A]) D sc (by decide) (by decide) fun f cdv A outer s H E hr=>aX (cF (cJ (m8 (fU (bJ his_pair hr (dq (vP 0) dz))) (sI (Fj oW nC oW tV b_lt tV iP (cT (dx (vB 0) iP)) (cT (dx (vB 0) iP)) (bK (Kl gNIGHTS)))))))
theorem yQ (D:Dg K mg "nights_of" (top 14) ["stay"]) (B:Bl mg):Has P w K mg base (n + 1) "nights_of" ["stay"] (spD K cU):=by
 have sc:FnScope ["stay"] ["stay"] (bx (top 14)):=fsc
 exact d9 (fl:=[.A]) D sc (by decide) (by decide) fun f cdv A outer s H E hr=>aX (cF (m7 rfl (dq (cJ (eV (cT (dx (vB 0) iP)))) (dq (cJ (eV (cT (dx (vB 0) iP)))) dz))))
theorem JT (D:Dg K mg "holds" (top 15) ["stretch", "night"]) (B:Bl mg):Has P w K mg base (n + 1) "holds" ["stretch", "night"] (spD K jq):=by
 have sc:FnScope ["stretch", "night"] ["stretch", "night"] (bx (top 15)):=fsc
 exact d9 (fl:=[.A,.A]) D sc (by decide) (by decide) fun f cdv A outer s H E hr=>aX (cF (cJ (zQ oW nC tV b_lt (cT (dx (vB 0) iP)) (vP 1) (cT (dx (vB 0) iP)))))
theorem Am (D:Dg K mg "count_at" (top 16) ["stretches", "night"]) (B:Bl mg) (hholds:Has P w K mg base n "holds" ["stretch", "night"] (spD K jq)):Has P w K mg base (n + 1) "count_at" ["stretches", "night"] (spD K h_):=by
 have sc:FnScope ["stretches", "night"] ["stretches", "night"] (bx (top 16)):=fsc
 exact d9 (fl:=[.A,.A]) D sc (by decide) (by decide) fun f cdv A outer s H E hr=>aX (cF (cJ (eG cA ju (by rfl) B.len_ PySem.boot_len (dq (bK (iV (L:=[]) (fl':=[.A,.A]) rfl ["stretch"] ["night"] [1] (fV (vB 0)) (fun _ _ _ _ _=>gN' (i:=0) (show (["stretch", "night"]:List Str).Nodup by decide +kernel)) (fun _ _ _ _ _=>jz (lW (fU (bJ hholds hr (dq (vP 0) (dq (vP 1) dz)))))) (fun _ _ _ _ _=>g_ (eV (vP 0))))) dz))))
theorem Gv (D:Dg K mg "firsts" (top 17) ["stretches"]) (B:Bl mg):Has P w K mg base (n + 1) "firsts" ["stretches"] (spD K lZ):=by
 have sc:FnScope ["stretches"] ["stretches"] (bx (top 17)):=fsc
 exact d9 (fl:=[.A]) D sc (by decide) (by decide) fun f cdv A outer s H E hr=>aX (cF (cJ (iV (L:=[]) (fl':=[.A]) rfl ["stretch"] [] [] (fV (vB 0)) (fun _ _ _ _ _=>gN' (i:=0) (show (["stretch"]:List Str).Nodup by decide +kernel)) (fun _ _ _ _ _=>lG) (fun _ _ _ _ _=>g_ (eV (cT (dx (vB 0) iP)))))))
theorem Gw (D:Dg K mg "fuller" (top 18) ["stretches", "many", "since"]) (B:Bl mg) (hcount_at:Has P w K mg base n "count_at" ["stretches", "night"] (spD K h_)) (hfirsts:Has P w K mg base n "firsts" ["stretches"] (spD K lZ)):Has P w K mg base (n + 1) "fuller" ["stretches", "many", "since"] (spD K jQ):=by
 have sc:FnScope ["stretches", "many", "since", "later", "night"] ["stretches", "many", "since"] (bx (top 18)):=fsc
 exact d9 (fl:=[.A,.A,.A,.A,.A]) D sc (by decide) (by decide) fun f cdv A outer s H E hr=>aU (pB (i:=3) (L:=[]) (fl':=[.A,.A]) rfl sc.nd rfl rfl rfl ["first"] ["since"] [2] (fV (dY (jF (bJ hfirsts hr (dq (vP 0) dz))))) (fun _ _ _ _ _=>gN' (i:=0) (show (["first", "since"]:List Str).Nodup by decide +kernel)) (fun _ _ _ _ _=>jz (dD zB Hr (vP 0) (vP 1) (cZ _))) (fun _ _ _ _ _=>g_ (eV (vP 0))))
  (aU (jc (L:=[]) PassesOwn.never rfl (fV (dY (rB (xV (dY (rB (rF (dq (vA 2) dz)))) (dY (gh (sU (dq (vP 3) dz) (by rfl) B.sorted_))))))) (gN' (i:=4) sc.nd) (aX (gF (dD zB Hr (fU (bJ hcount_at hr (dq (vP 0) (dq (vP 4) dz)))) (vP 1) (cZ _)) (aX (cF (cJ (eV (vP 4))))) (cW))))
  (aX (cF (cJ (xQ)))))
theorem CT (D:Dg K mg "is_stay" (top 20) ["thing", "rooms", "now"]) (B:Bl mg) (his_whole:Has P w K mg base n "is_whole" ["thing"] (spD K eX)) (his_stretch:Has P w K mg base n "is_stretch" ["thing"] (spD K jR)) (hnights_of:Has P w K mg base n "nights_of" ["stay"] (spD K cU)) (hholds:Has P w K mg base n "holds" ["stretch", "night"] (spD K jq)):Has P w K mg base (n + 1) "is_stay" ["thing", "rooms", "now"] (spD K j8):=by
 have sc:FnScope ["thing", "rooms", "now", "room"] ["thing", "rooms", "now"] (bx (top 20)):=fsc
 exact d9 (fl:=[.A,.A,.A,.A]) D sc (by decide) (by decide) fun f cdv A outer s H E hr=>aU (gF (sJ (uN (m9 (lW (bK (qy (T := "tuple") (by decide) (vP 0) (by rfl) B.isinstance_ (by rfl) B.tuple_ PyProof.Rows.boot_tuple)))) (uN (dD (uD hr.units) Hs (bK (eG cA ju (by rfl) B.len_ PySem.boot_len (dq (vP 0) dz))) iP (cZ _)) (uM (m9 (lW (fU (bJ his_stretch hr (dq (fU (bJ hnights_of hr (dq (vP 0) dz))) dz))))))))) (aX (cF (cJ (wM)))) (cW))
  (aU (sA (i:=3) sc.nd (dx (vB 0) iP))
  (aU (gF (qz (vP 3)) (aX (cF (cJ (oG M9 Sy (cT (dx (vB 0) iP)) (vP 2) (cZ _))))) (cW))
  (aX (cF (wL (m8 (fU (bJ his_whole hr (dq (vP 3) dz))) (m8 (bK (zQ oW nC tV b_lt iP (vP 3) (vP 1))) (sI (bJ hholds hr (dq (fU (bJ hnights_of hr (dq (vP 0) dz))) (dq (vP 2) dz)))))))))))
theorem vH (D:Dg K mg "check_stays" (top 21) ["stays", "rooms", "now"]) (B:Bl mg) (his_stay:Has P w K mg base n "is_stay" ["thing", "rooms", "now"] (spD K j8)):Has P w K mg base (n + 1) "check_stays" ["stays", "rooms", "now"] (spD K jx):=by
 have sc:FnScope ["stays", "rooms", "now", "taken", "at", "stay"] ["stays", "rooms", "now"] (bx (top 21)):=fsc
 exact d9 (fl:=[.A,.A,.A,.N,.A,.A]) D sc (by decide) (by decide) fun f cdv A outer s H E hr=>aU (xY (i:=3) rfl sc.nd rfl (by first | exact Or.inl rfl | exact Or.inr rfl) (KC))
  (aX (jc (L:=[]) PassesOwn.never rfl (uc (vB 0) (by rfl) B.enumerate_) (qx rfl (fY (gN' (i:=4) sc.nd) (fY (gN' (i:=5) sc.nd) (oH)))) (aU (gF (m9 (lW (fU (bJ his_stay hr (dq (vP 5) (dq (vP 1) (dq (vP 2) dz))))))) (aX (pC)) (cW))
  (aU (gF (dD (XB.BZ hr.units) XB.Ij (cT (dx (vB 5) iP)) (ud 3 rfl) (by with_unfolding_all rfl)) (aX (pC)) (cW))
  (aX (gF (oM (cT (dx (vB 5) iP))) (aX (XB.DR (XK.hu1 hr.units) (i:=3) rfl CW (cT (dx (vB 5) iP)) rfl)) (cW)))))))
theorem vQ (D:Dg K mg "check_full" (top 22) ["stays", "rooms", "now"]) (B:Bl mg) (hnights_of:Has P w K mg base n "nights_of" ["stay"] (spD K cU)) (hfuller:Has P w K mg base n "fuller" ["stretches", "many", "since"] (spD K jQ)):Has P w K mg base (n + 1) "check_full" ["stays", "rooms", "now"] (spD K gU):=by
 have sc:FnScope ["stays", "rooms", "now", "night"] ["stays", "rooms", "now"] (bx (top 22)):=fsc
 exact d9 (fl:=[.A,.A,.A,.A]) D sc (by decide) (by decide) fun f cdv A outer s H E hr=>aU (sA (i:=3) sc.nd (jF (bJ hfuller hr (dq (bK (iV (L:=[]) (fl':=[.A]) rfl ["stay"] [] [] (fV (vB 0)) (fun _ _ _ _ _=>gN' (i:=0) (show (["stay"]:List Str).Nodup by decide +kernel)) (fun _ _ _ _ _=>lG) (fun _ _ _ _ _=>bJ hnights_of hr (dq (vP 0) dz)))) (dq (vP 1) (dq (vP 2) dz))))))
  (aX (gF (oM (vP 3)) (aX (pC)) (cW)))
theorem sY {Pt:Addr} (D:XL.DgT K mg "still_to_come" (top 23) ["stays"] Pt "still_to_come.<locals>.<lambda>" ⟨70,30,70,59⟩) (B:Bl mg):Has P w K mg base (n + 1) "still_to_come" ["stays"] (spD K iR):=by
 have sc:FnScope ["stays", "places"] ["stays"] (bx (top 23)):=fsc
 exact XL.Qk (fl:=[.A,.A]) D sc (by decide) (by decide) fun f c A outer s H E hcd hr=>aU (pB (i:=1) (L:=[]) (fl':=[.A,.A]) rfl sc.nd rfl rfl rfl ["place", "stay"] [] [] (uc (vB 0) (by rfl) B.enumerate_) (fun _ _ _ _ _=>qx rfl (fY (gN' (i:=0) (show (["place", "stay"]:List Str).Nodup by decide +kernel)) (fY (gN' (i:=1) (show (["place", "stay"]:List Str).Nodup by decide +kernel)) (oH)))) (fun _ _ _ _ _=>jz (qz (cT (dx (vB 1) iP)))) (fun _ _ _ _ _=>g_ (eV (vP 0))))
  (aX (cF (cJ (XL.Ce (i:=0) ⟨⟨_,rfl,hcd⟩,rfl,D.tb⟩ hr (dq (vP 1) Hz) (by rfl) B.sorted_ rfl rfl rfl rfl (fun _ h=>XL.Iv rfl h) (fun _ _ _ _ _=>rfl) rfl rfl rfl (by decide +kernel) rfl rfl (by decide) (by decide) (by decide) rfl rfl))))
theorem vR (D:Dg K mg "beginnings" (top 24) ["stays", "rooms", "now"]) (B:Bl mg):Has P w K mg base (n + 1) "beginnings" ["stays", "rooms", "now"] (spD K cj):=by
 have sc:FnScope ["stays", "rooms", "now", "nights", "stay"] ["stays", "rooms", "now"] (bx (top 24)):=fsc
 exact d9 (fl:=[.A,.A,.A,.O,.A]) D sc (by decide) (by decide) fun f cdv A outer s H E hr=>aU (j_ (i:=3) rfl sc.nd rfl (by first | exact Or.inl rfl | exact Or.inr rfl) (Pj (rF (dq (vA 2) dz)) (vP 1)))
  (aU (jc (L:=[]) PassesOwn.never rfl (fV (vB 0)) (gN' (i:=4) sc.nd) (aX (gF (oM (cT (dx (vB 4) iP))) (aX (sH (i:=3) rfl (dx (vB 4) iP) (cT (dx (vB 4) iP)) rfl)) (cW))))
  (aX (cF (mQ 3 (by decide)))))
theorem vU (D:Dg K mg "first_free" (top 25) ["begin", "night"]) (B:Bl mg):Has P w K mg base (n + 1) "first_free" ["begin", "night"] (spD K gj):=by
 have sc:FnScope ["begin", "night"] ["begin", "night"] (bx (top 25)):=fsc
 exact d9 (fl:=[.A,.A]) D sc (by decide) (by decide) fun f cdv A outer s H E hr=>aX (cF (cJ (eV (cT (dx (dY (gh (iV (L:=[]) (fl':=[.A,.A,.A]) rfl ["room", "since"] ["night"] [1] (uc (vB 0) (by rfl) B.enumerate_) (fun _ _ _ _ _=>qx rfl (fY (gN' (i:=0) (show (["room", "since", "night"]:List Str).Nodup by decide +kernel)) (fY (gN' (i:=1) (show (["room", "since", "night"]:List Str).Nodup by decide +kernel)) (oH)))) (fun _ _ _ _ _=>jz (dD oW tV (vP 1) (vP 2) (cZ _))) (fun _ _ _ _ _=>g_ (eV (vP 0)))))) iP)))))
theorem Gx (D:Dg K mg "filled" (top 26) ["stays", "plan", "begin"]) (B:Bl mg) (hstill_to_come:Has P w K mg base n "still_to_come" ["stays"] (spD K iR)) (hfirst_free:Has P w K mg base n "first_free" ["begin", "night"] (spD K gj)):Has P w K mg base (n + 1) "filled" ["stays", "plan", "begin"] (spD K pI):=by
 have sc:FnScope ["stays", "plan", "begin", "seats", "free_since", "place", "room"] ["stays", "plan", "begin"] (bx (top 26)):=fsc
 exact d9 (fl:=[.A,.A,.A,.O,.O,.A,.A]) D sc (by decide) (by decide) fun f cdv A outer s H E hr=>aU (j_ (i:=3) rfl sc.nd rfl (by first | exact Or.inl rfl | exact Or.inr rfl) (xW (vB 1) (by rfl) B.list_))
  (aU (j_ (i:=4) rfl sc.nd rfl (by first | exact Or.inl rfl | exact Or.inr rfl) (xW (vB 2) (by rfl) B.list_))
  (aU (jc (L:=[]) PassesOwn.never rfl (fV (dY (jF (bJ hstill_to_come hr (dq (vP 0) dz))))) (gN' (i:=5) sc.nd) (aX (gF (qz (cT (dx (jO 3) (vP 5)))) (aU (sA (i:=6) sc.nd (jF (bJ hfirst_free hr (dq (pq (jO 4)) (dq (cT (dx (dY (dx (vB 0) (vP 5))) iP)) dz)))))
  (aU (sH (i:=3) rfl (vA 6) (vP 5) rfl)
  (aX (sH (i:=4) rfl (dx (dY (dx (vB 0) (vP 5))) iP) (vP 6) rfl)))) (cW))))
  (aX (cF (mQ 3 (by decide))))))
theorem yR (D:Dg K mg "check_who" (top 28) ["stays", "rooms", "now", "who"]) (B:Bl mg) (hcheck_stays:Has P w K mg base n "check_stays" ["stays", "rooms", "now"] (spD K jx)) (hcheck_full:Has P w K mg base n "check_full" ["stays", "rooms", "now"] (spD K gU)):Has P w K mg base (n + 1) "check_who" ["stays", "rooms", "now", "who"] (spD K je):=by
 have sc:FnScope ["stays", "rooms", "now", "who"] ["stays", "rooms", "now", "who"] (bx (top 28)):=fsc
 exact d9 (fl:=[.A,.A,.A,.A]) D sc (by decide) (by decide) fun f cdv A outer s H E hr=>aU (rE (fU (bJ hcheck_stays hr (dq (vP 0) (dq (vP 1) (dq (vP 2) dz))))))
  (aU (rE (fU (bJ hcheck_full hr (dq (vP 0) (dq (vP 1) (dq (vP 2) dz))))))
  (aX (gF (sJ (uN (m9 (zW oW nC tV b_lt iP (vP 3) (bK (eG cA ju (by rfl) B.len_ PySem.boot_len (dq (vP 0) dz))))) (uM (oM (cT (dx (dY (dx (vB 0) (vP 3))) iP)))))) (aX (pC)) (cW))))
theorem vV (D:Dg K mg "check_room" (top 29) ["rooms", "room"]) (B:Bl mg):Has P w K mg base (n + 1) "check_room" ["rooms", "room"] (spD K d_):=by
 have sc:FnScope ["rooms", "room"] ["rooms", "room"] (bx (top 29)):=fsc
 exact d9 (fl:=[.A,.A]) D sc (by decide) (by decide) fun f cdv A outer s H E hr=>aX (gF (m9 (zW oW nC tV b_lt iP (vP 1) (vP 0))) (aX (pC)) (cW))
theorem Ao (D:Dg K mg "is_tight" (top 30) ["stays", "rooms", "night"]) (B:Bl mg) (hnights_of:Has P w K mg base n "nights_of" ["stay"] (spD K cU)) (hcount_at:Has P w K mg base n "count_at" ["stretches", "night"] (spD K h_)):Has P w K mg base (n + 1) "is_tight" ["stays", "rooms", "night"] (spD K iM):=by
 have sc:FnScope ["stays", "rooms", "night"] ["stays", "rooms", "night"] (bx (top 30)):=fsc
 exact d9 (fl:=[.A,.A,.A]) D sc (by decide) (by decide) fun f cdv A outer s H E hr=>aX (cF (cJ (oG (mZ hr.units) vJ (fU (bJ hcount_at hr (dq (bK (iV (L:=[]) (fl':=[.A]) rfl ["stay"] [] [] (fV (vB 0)) (fun _ _ _ _ _=>gN' (i:=0) (show (["stay"]:List Str).Nodup by decide +kernel)) (fun _ _ _ _ _=>lG) (fun _ _ _ _ _=>bJ hnights_of hr (dq (vP 0) dz)))) (dq (vP 2) dz)))) (vP 1) (cZ _))))
theorem vW (D:Dg K mg "goes_ahead" (top 31) ["stays", "who", "place", "night"]) (B:Bl mg):Has P w K mg base (n + 1) "goes_ahead" ["stays", "who", "place", "night"] (spD K fj):=by
 have sc:FnScope ["stays", "who", "place", "night", "stay"] ["stays", "who", "place", "night"] (bx (top 31)):=fsc
 exact d9 (fl:=[.A,.A,.A,.A,.A]) D sc (by decide) (by decide) fun f cdv A outer s H E hr=>aU (sA (i:=4) sc.nd (dx (vB 0) (vP 2)))
  (aX (cF (cJ (m8 (bK (oG (uD hr.units) Hs (vP 2) (vP 1) (cZ _))) (m8 (bK (Ph (cT (dx (vB 4) iP)))) (m8 (bK (oG (mZ hr.units) vJ (cT (dx (vB 4) iP)) (vP 3) (cZ _))) (sI (oG oW tV (cT (dx (vB 4) iP)) (cT (dx (dY (dx (vB 0) (vP 1))) iP)) (cZ _)))))))))
theorem vX (D:Dg K mg "steps_from" (top 32) ["stays", "rooms", "who", "night"]) (B:Bl mg) (his_tight:Has P w K mg base n "is_tight" ["stays", "rooms", "night"] (spD K iM)) (hgoes_ahead:Has P w K mg base n "goes_ahead" ["stays", "who", "place", "night"] (spD K fj)):Has P w K mg base (n + 1) "steps_from" ["stays", "rooms", "who", "night"] (spD K fu):=by
 have sc:FnScope ["stays", "rooms", "who", "night", "steps"] ["stays", "rooms", "who", "night"] (bx (top 32)):=fsc
 exact d9 (fl:=[.A,.A,.A,.A,.O]) D sc (by decide) (by decide) fun f cdv A outer s H E hr=>aU (zR (i:=4) (L:=[]) (fl':=[.A,.A,.A,.A,.A]) rfl sc.nd rfl rfl rfl ["place", "stay"] ["stays", "who", "night"] [0,2,3] (uc (vB 0) (by rfl) B.enumerate_) (fun _ _ _ _ _=>qx rfl (fY (gN' (i:=0) (show (["place", "stay", "stays", "who", "night"]:List Str).Nodup by decide +kernel)) (fY (gN' (i:=1) (show (["place", "stay", "stays", "who", "night"]:List Str).Nodup by decide +kernel)) (oH)))) (fun _ _ _ _ _=>jz (lW (fU (bJ hgoes_ahead hr (dq (vP 2) (dq (vP 3) (dq (vP 0) (dq (vP 4) dz)))))))) (fun _ _ _ _ _=>g_ (eV (cT (m7 rfl (dq (dx (vB 1) iP) (dq (vA 0) dz)))))))
  (aU (gF (m9 (lW (fU (bJ his_tight hr (dq (vP 0) (dq (vP 1) (dq (vP 3) dz))))))) (aX (pL (i:=4) rfl (jF (m7 rfl (dq (g_ (dM gJ jt (vP 3) iP)) (dq (g_ (xQ)) dz)))) rfl)) (cW))
  (aX (cF (mQ 4 (by decide)))))
theorem rT (D:Dg K mg "nights_reached" (top 33) ["stays", "rooms", "who", "begin"]) (B:Bl mg) (hsteps_from:Has P w K mg base n "steps_from" ["stays", "rooms", "who", "night"] (spD K fu)):Has P w K mg base (n + 1) "nights_reached" ["stays", "rooms", "who", "begin"] (spD K eY):=by
 have sc:FnScope ["stays", "rooms", "who", "begin", "reached", "night", "step"] ["stays", "rooms", "who", "begin"] (bx (top 33)):=fsc
 exact d9 (fl:=[.A,.A,.A,.A,.N,.A,.A]) D sc (by decide) (by decide) fun f cdv A outer s H E hr=>aU (xY (i:=4) rfl sc.nd rfl (by first | exact Or.inl rfl | exact Or.inr rfl) (XD.Im (vP 3)))
  (aU (jc (L:=[]) PassesOwn.never rfl (wO (by rfl) B.range_ (nM (dq (vP 3) (dq (cT (dx (dY (dx (vB 0) (vP 2))) iP)) dz)))) (gN' (i:=5) sc.nd) (aX (gF (dD (XK.Qa hr.units) XD.Qd (vP 5) (ud 4 rfl) (by with_unfolding_all rfl)) (aX (jc (L:=[]) PassesOwn.never rfl (fV (dY (jF (bJ hsteps_from hr (dq (vP 0) (dq (vP 1) (dq (vP 2) (dq (vP 5) dz)))))))) (gN' (i:=6) sc.nd) (aX (XD.Qh (i:=4) rfl (cT (dx (vB 6) iP)) (cT (m7 rfl (dq (vA 5) (dq (dx (vB 6) iP) dz)))) rfl ⟨rfl,rfl,rfl,rfl⟩)))) (cW))))
  (aX (cF (HW 4 rfl))))
theorem Aq (D:Dg K mg "chain_to" (top 34) ["reached", "last"]) (B:Bl mg):Has P w K mg base (n + 1) "chain_to" ["reached", "last"] (spD K mj):=by
 have sc:FnScope ["reached", "last", "chain", "night", "place"] ["reached", "last"] (bx (top 34)):=fsc
 exact d9 (fl:=[.A,.A,.O,.A,.A]) D sc (by decide) (by decide) fun f cdv A outer s H E hr=>aU (j_ (i:=2) rfl sc.nd rfl (by first | exact Or.inl rfl | exact Or.inr rfl) (o_ (jP dz)))
  (aU (sA (i:=3) sc.nd (vA 1))
  (aU (Hv PassesOwn.never (oM (bK (XD.vd (XK.hu1 hr.units) (vP 0) (vP 3) (fun _ _=>rfl)))) (aU (sA (i:=4) sc.nd (dx (dY (gh (XD.vd (XK.hu1 hr.units) (vP 0) (vP 3) (fun _ _=>rfl)))) iP))
  (aU (gF (oM (vP 4)) (aX (BK (i:=2) rfl iP (vA 4) rfl)) (cW))
  (aX (sA (i:=3) sc.nd (dx (dY (gh (XD.vd (XK.hu1 hr.units) (vP 0) (vP 3) (fun _ _=>rfl)))) iP))))))
  (aX (cF (mQ 2 (by decide))))))
theorem yS (D:Dg K mg "plan_with" (top 35) ["stays", "rooms", "now", "who", "room", "chain"]) (B:Bl mg) (hbeginnings:Has P w K mg base n "beginnings" ["stays", "rooms", "now"] (spD K cj)) (hfilled:Has P w K mg base n "filled" ["stays", "plan", "begin"] (spD K pI)):Has P w K mg base (n + 1) "plan_with" ["stays", "rooms", "now", "who", "room", "chain"] (spD K kZ):=by
 have sc:FnScope ["stays", "rooms", "now", "who", "room", "chain", "plan", "place", "begin"] ["stays", "rooms", "now", "who", "room", "chain"] (bx (top 35)):=fsc
 exact d9 (fl:=[.A,.A,.A,.A,.A,.A,.O,.A,.O]) D sc (by decide) (by decide) fun f cdv A outer s H E hr=>aU (zR (i:=6) (L:=[]) (fl':=[.A]) rfl sc.nd rfl rfl rfl ["stay"] [] [] (fV (vB 0)) (fun _ _ _ _ _=>gN' (i:=0) (show (["stay"]:List Str).Nodup by decide +kernel)) (fun _ _ _ _ _=>lG) (fun _ _ _ _ _=>g_ (eV (cT (dx (vB 0) iP)))))
  (aU (jc (L:=[]) PassesOwn.never rfl (fV (dY (rB (xV (vB 5) (dY (rB (rF (dq (vA 3) dz)))))))) (gN' (i:=7) sc.nd) (aX (sH (i:=6) rfl (vA 4) (vP 7) rfl)))
  (aU (j_ (i:=8) rfl sc.nd rfl (by first | exact Or.inl rfl | exact Or.inr rfl) (o_ (Bo (bJ hbeginnings hr (dq (vP 0) (dq (vP 1) (dq (vP 2) dz)))))))
  (aU (sH (i:=8) rfl (dx (dY (dx (vB 0) (vP 3))) iP) (vP 4) rfl)
  (aX (cF (wL (bJ hfilled hr (dq (vP 0) (dq (pq (jO 6)) (dq (pq (jO 8)) dz))))))))))
theorem Ar (D:Dg K mg "may_have" (top 36) ["stays", "rooms", "now", "who", "room"]) (B:Bl mg) (hbeginnings:Has P w K mg base n "beginnings" ["stays", "rooms", "now"] (spD K cj)) (hcheck_who:Has P w K mg base n "check_who" ["stays", "rooms", "now", "who"] (spD K je)) (hcheck_room:Has P w K mg base n "check_room" ["rooms", "room"] (spD K d_)) (hnights_reached:Has P w K mg base n "nights_reached" ["stays", "rooms", "who", "begin"] (spD K eY)) (hchain_to:Has P w K mg base n "chain_to" ["reached", "last"] (spD K mj)) (hplan_with:Has P w K mg base n "plan_with" ["stays", "rooms", "now", "who", "room", "chain"] (spD K kZ)):Has P w K mg base (n + 1) "may_have" ["stays", "rooms", "now", "who", "room"] (spD K gG):=by
 have sc:FnScope ["stays", "rooms", "now", "who", "room", "begin", "first", "reached", "chain"] ["stays", "rooms", "now", "who", "room"] (bx (top 36)):=fsc
 exact d9 (fl:=[.A,.A,.A,.A,.A,.A,.A,.A,.O]) D sc (by decide) (by decide) fun f cdv A outer s H E hr=>aU (rE (fU (bJ hcheck_who hr (dq (vP 0) (dq (vP 1) (dq (vP 2) (dq (vP 3) dz)))))))
  (aU (rE (fU (bJ hcheck_room hr (dq (vP 1) (dq (vP 4) dz)))))
  (aU (sA (i:=5) sc.nd (dx (dY (jF (bJ hbeginnings hr (dq (vP 0) (dq (vP 1) (dq (vP 2) dz)))))) (vP 4)))
  (aU (sA (i:=6) sc.nd (dx (dY (dx (vB 0) (vP 3))) iP))
  (aU (gF (dD zB Hr (vP 5) (vP 6) (cZ _)) (aX (cF (m7 rfl (dq (cJ (xR)) (dq (cJ (jP dz)) dz))))) (cW))
  (aU (sA (i:=7) sc.nd (jF (bJ hnights_reached hr (dq (vP 0) (dq (vP 1) (dq (vP 3) (dq (vP 5) dz)))))))
  (aU (gF (dD (XK.Fy hr.units) XD.FN (vP 6) (vP 7) (by with_unfolding_all rfl)) (aX (cF (m7 rfl (dq (cJ (xR)) (dq (cJ (XD.FP rfl (dq (vP 7) dz) (by rfl) B.sorted_)) dz))))) (cW))
  (aU (j_ (i:=8) rfl sc.nd rfl (by first | exact Or.inl rfl | exact Or.inr rfl) (o_ (Bo (bJ hchain_to hr (dq (vP 7) (dq (vP 6) dz))))))
  (aX (cF (m7 rfl (dq (cJ (xR)) (dq (mQ 8 (by decide)) (dq (wL (bJ hplan_with hr (dq (vP 0) (dq (vP 1) (dq (vP 2) (dq (vP 3) (dq (vP 4) (dq (pq (jO 8)) dz)))))))) dz)))))))))))))
theorem yU (D:Dg K mg "rooms_for" (top 37) ["stays", "rooms", "now", "who"]) (B:Bl mg) (hcheck_who:Has P w K mg base n "check_who" ["stays", "rooms", "now", "who"] (spD K je)) (hmay_have:Has P w K mg base n "may_have" ["stays", "rooms", "now", "who", "room"] (spD K gG)):Has P w K mg base (n + 1) "rooms_for" ["stays", "rooms", "now", "who"] (spD K k_):=by
 have sc:FnScope ["stays", "rooms", "now", "who"] ["stays", "rooms", "now", "who"] (bx (top 37)):=fsc
 exact d9 (fl:=[.A,.A,.A,.A]) D sc (by decide) (by decide) fun f cdv A outer s H E hr=>aU (rE (fU (bJ hcheck_who hr (dq (vP 0) (dq (vP 1) (dq (vP 2) (dq (vP 3) dz)))))))
  (aX (cF (cJ (iV (L:=[]) (fl':=[.A,.A,.A,.A,.A]) rfl ["room"] ["stays", "rooms", "now", "who"] [0,1,2,3] (iB (by rfl) B.range_ (nM (dq (vP 1) dz))) (fun _ _ _ _ _=>gN' (i:=0) (show (["room", "stays", "rooms", "now", "who"]:List Str).Nodup by decide +kernel)) (fun _ _ _ _ _=>jz (dD (mZ hr.units) vJ (cT (dx (dY (jF (bJ hmay_have hr (dq (vP 1) (dq (vP 2) (dq (vP 3) (dq (vP 4) (dq (vP 0) dz)))))))) iP)) (bK (xR)) (cZ _))) (fun _ _ _ _ _=>g_ (eV (vP 0)))))))
theorem yV (D:Dg K mg "_law_cell" (top 39) ["_law_script", "_law_at"]) (B:Bl mg):Has P w K mg base (n + 1) "_law_cell" ["_law_script", "_law_at"] (spD K iG):=by
 have sc:FnScope ["_law_script", "_law_at"] ["_law_script", "_law_at"] (bx (top 39)):=fsc
 exact d9 (fl:=[.A,.A]) D sc (by decide) (by decide) fun f cdv A outer s H E hr=>aU (gF (dD nC b_lt (vP 1) (bK (eG cA ju (by rfl) B.len_ PySem.boot_len (dq (vP 0) dz))) (cZ _)) (aX (cF (cJ (dM lC rD (cT (dx (vB 0) (vP 1))) iP)))) (cW))
  (aU (gF (dD (mZ hr.units) vJ (vP 0) (bK (jP dz)) (cZ _)) (aX (cF (cJ (dM gJ jt (bK (dM lE rC iP (vP 1))) iP)))) (cW))
  (aX (cF (cJ (dM gJ jt (bK (dM lC rD (cT (dx (vB 0) (bK (dM lC rD (bK (dM lE rC (vP 1) iP)) (bK (eG cA ju (by rfl) B.len_ PySem.boot_len (dq (vP 0) dz))))))) iP)) (bK (dM lE rC iP (vP 1))))))))
theorem yW (D:Dg K mg "_law_part" (top 40) ["_law_script", "_law_at", "_law_k", "_law_many"]) (B:Bl mg) (h_law_cell:Has P w K mg base n "_law_cell" ["_law_script", "_law_at"] (spD K iG)):Has P w K mg base (n + 1) "_law_part" ["_law_script", "_law_at", "_law_k", "_law_many"] (spD K bL):=by
 have sc:FnScope ["_law_script", "_law_at", "_law_k", "_law_many", "_law_number", "_law_j"] ["_law_script", "_law_at", "_law_k", "_law_many"] (bx (top 40)):=fsc
 exact d9 (fl:=[.A,.A,.A,.A,.A,.A]) D sc (by decide) (by decide) fun f cdv A outer s H E hr=>aU (gF (sJ (m_ (dD nC b_lt (vP 1) (bK (eG cA ju (by rfl) B.len_ PySem.boot_len (dq (vP 0) dz))) (cZ _)) (mR (dD M9 Sy (cT (dx (vB 0) (vP 1))) (bK (dM OJ Sx iP iP)) (cZ _))))) (aU (sA (i:=4) sc.nd (dx (vB 0) (vP 1)))
  (aU (jc (L:=[]) PassesOwn.never rfl (iB (by rfl) B.range_ (nM (dq (vP 2) dz))) (gN' (i:=5) sc.nd) (aX (sA (i:=4) sc.nd (gh (dM Dj Nj (vP 4) iP)))))
  (aX (gF (dD zB Hr (vP 4) iP (cZ _)) (aX (cF (cJ (dM lC rD (bK (dM lC rD (vP 4) iP)) (vP 3))))) (cW))))) (cW))
  (aU (sA (i:=4) sc.nd (gh (dM lC rD (bK (dM lE rC (bK (dM gJ jt (bK (dM gJ jt (fU (bJ h_law_cell hr (dq (vP 0) (dq (vP 1) dz)))) (bK (dM lE rC iP (vP 1))))) iP)) (bK (dM gJ jt iP (bK (dM lE rC iP (vP 2))))))) iP)))
  (aU (sA (i:=4) sc.nd (gh (dM gJ jt (bK (dM lC rD (bK (dM lE rC (vP 4) (vP 4))) iP)) iP)))
  (aX (cF (cJ (dM lC rD (bK (dM Dj Nj (bK (dM lC rD (bK (dM lE rC (vP 4) (vP 4))) iP)) iP)) (vP 3)))))))
theorem vY (D:Dg K mg "_law_whole" (top 41) ["_law_found"]) (B:Bl mg):Has P w K mg base (n + 1) "_law_whole" ["_law_found"] (spD K eZ):=by
 have sc:FnScope ["_law_found"] ["_law_found"] (bx (top 41)):=fsc
 exact d9 (fl:=[.A]) D sc (by decide) (by decide) fun f cdv A outer s H E hr=>aX (cF (cJ (m8 (bK (qy (T := "int") (by decide) (vP 0) (by rfl) B.isinstance_ (by rfl) B.int_ PyProof.Rows.boot_int)) (sI (HB (bK (qy (T := "bool") (by decide) (vP 0) (by rfl) B.isinstance_ (by rfl) B.bool_ PyProof.Rows.boot_bool)))))))
theorem yX (D:Dg K mg "_law_stay" (top 42) ["_law_script", "_law_at", "_law_turn", "_law_mode", "_law_now_here"]) (B:Bl mg) (h_law_part:Has P w K mg base n "_law_part" ["_law_script", "_law_at", "_law_k", "_law_many"] (spD K bL)):Has P w K mg base (n + 1) "_law_stay" ["_law_script", "_law_at", "_law_turn", "_law_mode", "_law_now_here"] (spD K fL):=by
 have sc:FnScope ["_law_script", "_law_at", "_law_turn", "_law_mode", "_law_now_here", "_law_first", "_law_long"] ["_law_script", "_law_at", "_law_turn", "_law_mode", "_law_now_here"] (bx (top 42)):=fsc
 exact d9 (fl:=[.A,.A,.A,.A,.A,.A,.A]) D sc (by decide) (by decide) fun f cdv A outer s H E hr=>aU (sA (i:=5) sc.nd (gh (eG (pJ rfl) xU (by rfl) B.min_ PyProof.Rows.boot_min (dq iP (dq (bK (dM gJ jt (vP 4) (fU (bJ h_law_part hr (dq (vP 0) (dq (vP 1) (dq (vP 2) (dq (cT (dx (dY (gh (jP (dq iC (dq iC (dq iC (dq iC dz))))))) (vP 3))) dz)))))))) dz)))))
  (aU (sA (i:=6) sc.nd (gh (dM gJ jt iP (fU (bJ h_law_part hr (dq (vP 0) (dq (vP 1) (dq (bK (dM gJ jt (vP 2) iP)) (dq (cT (dx (dY (gh (jP (dq iC (dq iC (dq iC (dq iC dz))))))) (fU (bJ h_law_part hr (dq (vP 0) (dq (vP 1) (dq (bK (dM gJ jt (vP 2) iP)) (dq iP dz)))))))) dz)))))))))
  (aX (cF (m7 rfl (dq (cJ (eV (vP 5))) (dq (cJ (eG (pJ rfl) xU (by rfl) B.min_ PyProof.Rows.boot_min (dq iP (dq (bK (dM gJ jt (vP 5) (vP 6))) dz)))) (dq (cJ (xQ)) dz)))))))
theorem vZ (D:Dg K mg "_law_guest" (top 43) ["_law_script", "_law_at", "_law_turn", "_law_now_here", "_law_room"]) (B:Bl mg) (h_law_part:Has P w K mg base n "_law_part" ["_law_script", "_law_at", "_law_k", "_law_many"] (spD K bL)):Has P w K mg base (n + 1) "_law_guest" ["_law_script", "_law_at", "_law_turn", "_law_now_here", "_law_room"] (spD K gq):=by
 have sc:FnScope ["_law_script", "_law_at", "_law_turn", "_law_now_here", "_law_room", "_law_first", "_law_more"] ["_law_script", "_law_at", "_law_turn", "_law_now_here", "_law_room"] (bx (top 43)):=fsc
 exact d9 (fl:=[.A,.A,.A,.A,.A,.A,.A]) D sc (by decide) (by decide) fun f cdv A outer s H E hr=>aU (sA (i:=5) sc.nd (gh (eG (wu rfl) HD (by rfl) B.max_ PyProof.Rows.boot_max (dq iP (dq (bK (dM OD Sw (vP 3) (fU (bJ h_law_part hr (dq (vP 0) (dq (vP 1) (dq (vP 2) (dq iP dz)))))))) dz)))))
  (aU (sA (i:=6) sc.nd (jF (bJ h_law_part hr (dq (vP 0) (dq (vP 1) (dq (bK (dM gJ jt (vP 2) iP)) (dq (cT (dx (dY (gh (jP (dq iC (dq iC (dq iC dz)))))) (fU (bJ h_law_part hr (dq (vP 0) (dq (vP 1) (dq (bK (dM gJ jt (vP 2) iP)) (dq iP dz)))))))) dz)))))))
  (aX (cF (m7 rfl (dq (cJ (eV (vP 5))) (dq (cJ (eG (pJ rfl) xU (by rfl) B.min_ PyProof.Rows.boot_min (dq iP (dq (bK (dM gJ jt (bK (dM gJ jt (vP 3) iP)) (vP 6))) dz)))) (dq (cJ (eV (vP 4))) dz)))))))
theorem yZ (D:Dg K mg "_law_full" (top 44) ["_law_stays_here", "_law_rooms", "_law_now_here"]) (B:Bl mg):Has P w K mg base (n + 1) "_law_full" ["_law_stays_here", "_law_rooms", "_law_now_here"] (spD K fM):=by
 have sc:FnScope ["_law_stays_here", "_law_rooms", "_law_now_here", "_law_night"] ["_law_stays_here", "_law_rooms", "_law_now_here"] (bx (top 44)):=fsc
 exact d9 (fl:=[.A,.A,.A,.A]) D sc (by decide) (by decide) fun f cdv A outer s H E hr=>aU (jc (L:=[]) PassesOwn.never rfl (fV (dY (gh (sU (dq (Ni (xV (dY (rB (rF (dq (vA 2) dz)))) (dY (gh (iV (L:=[]) (fl':=[.A,.A]) rfl ["_law_one"] ["_law_now_here"] [2] (fV (vB 0)) (fun _ _ _ _ _=>gN' (i:=0) (show (["_law_one", "_law_now_here"]:List Str).Nodup by decide +kernel)) (fun _ _ _ _ _=>lG) (fun _ _ _ _ _=>g_ (eG (wu rfl) HD (by rfl) B.max_ PyProof.Rows.boot_max (dq (vP 1) (dq (cT (dx (vB 0) iP)) dz))))))))) dz) (by rfl) B.sorted_)))) (gN' (i:=3) sc.nd) (aX (gF (dD zB Hr (bK (eG cA ju (by rfl) B.len_ PySem.boot_len (dq (bK (iV (L:=[]) (fl':=[.A,.A]) rfl ["_law_one"] ["_law_night"] [3] (fV (vB 0)) (fun _ _ _ _ _=>gN' (i:=0) (show (["_law_one", "_law_night"]:List Str).Nodup by decide +kernel)) (fun _ _ _ _ _=>jz (sJ (m_ (dD oW tV (cT (dx (vB 0) iP)) (vP 1) (cZ _)) (mR (dD nC b_lt (vP 1) (cT (dx (vB 0) iP)) (cZ _)))))) (fun _ _ _ _ _=>g_ (eV (vP 0))))) dz))) (vP 1) (cZ _)) (aX (cF (cJ (eV (vP 3))))) (cW))))
  (aX (cF (cJ (xQ))))
theorem Av (D:Dg K mg "_law_now" (top 45) ["_law_script"]) (B:Bl mg) (h_law_part:Has P w K mg base n "_law_part" ["_law_script", "_law_at", "_law_k", "_law_many"] (spD K bL)):Has P w K mg base (n + 1) "_law_now" ["_law_script"] (spD K jC):=by
 have sc:FnScope ["_law_script"] ["_law_script"] (bx (top 45)):=fsc
 exact d9 (fl:=[.A]) D sc (by decide) (by decide) fun f cdv A outer s H E hr=>aX (cF (cJ (eV (cT (dx (dY (gh (jP (dq iC (dq (bJ h_law_part hr (dq (vP 0) (dq iP (dq iP (dq iP dz))))) (dq (bJ h_law_part hr (dq (vP 0) (dq iP (dq iP (dq iP dz))))) (dq iC dz))))))) (fU (bJ h_law_part hr (dq (vP 0) (dq iP (dq iP (dq iP dz)))))))))))
theorem v5 (D:Dg K mg "_law_stays" (top 46) ["_law_script", "_law_rooms", "_law_now_here", "_law_most"]) (B:Bl mg) (h_law_part:Has P w K mg base n "_law_part" ["_law_script", "_law_at", "_law_k", "_law_many"] (spD K bL)) (h_law_stay:Has P w K mg base n "_law_stay" ["_law_script", "_law_at", "_law_turn", "_law_mode", "_law_now_here"] (spD K fL)) (h_law_guest:Has P w K mg base n "_law_guest" ["_law_script", "_law_at", "_law_turn", "_law_now_here", "_law_room"] (spD K gq)) (h_law_full:Has P w K mg base n "_law_full" ["_law_stays_here", "_law_rooms", "_law_now_here"] (spD K fM)):Has P w K mg base (n + 1) "_law_stays" ["_law_script", "_law_rooms", "_law_now_here", "_law_most"] (spD K gW):=by
 have sc:FnScope ["_law_script", "_law_rooms", "_law_now_here", "_law_most", "_law_mode", "_law_stays_here", "_law_room", "_law_at", "_law_wide", "_law_k", "_law_new"] ["_law_script", "_law_rooms", "_law_now_here", "_law_most"] (bx (top 46)):=fsc
 exact d9 (fl:=[.A,.A,.A,.A,.A,.O,.A,.A,.A,.A,.A]) D sc (by decide) (by decide) fun f cdv A outer s H E hr=>aU (sA (i:=4) sc.nd (jF (bJ h_law_part hr (dq (vP 0) (dq iP (dq iP (dq iP dz)))))))
  (aU (j_ (i:=5) rfl sc.nd rfl (by first | exact Or.inl rfl | exact Or.inr rfl) (o_ (jP dz)))
  (aU (jc (L:=[]) PassesOwn.never rfl (iB (by rfl) B.range_ (nM (dq (vP 1) dz))) (gN' (i:=6) sc.nd) (aX (gF (sJ (m_ (dD (mZ hr.units) vJ (fU (bJ h_law_part hr (dq (vP 0) (dq iP (dq (vP 6) (dq iP dz)))))) iP (cZ _)) (mR (dD nC b_lt (bK (eG cA ju (by rfl) B.len_ PySem.boot_len (dq (pq (jO 5)) dz))) (vP 3) (cZ _))))) (aU (sA (i:=7) sc.nd (jF (bJ h_law_part hr (dq (vP 0) (dq iP (dq (bK (dM gJ jt iP (vP 6))) (dq (bK (dM gJ jt (bK (eG cA ju (by rfl) B.len_ PySem.boot_len (dq (pq (jO 5)) dz))) iP)) dz)))))))
  (aX (BK (i:=5) rfl (vP 7) (jF (bJ h_law_guest hr (dq (vP 0) (dq iP (dq (bK (dM lE rC iP (vP 6))) (dq (vP 2) (dq (vP 6) dz))))))) rfl))) (cW))))
  (aU (sA (i:=8) sc.nd (gh (oG (mZ hr.units) vJ (fU (bJ h_law_part hr (dq (vP 0) (dq iP (dq iP (dq iP dz)))))) iP (cZ _))))
  (aU (jc (L:=[]) PassesOwn.never rfl (iB (by rfl) B.range_ (nM (dq (cT (dx (dY (gh (jP (dq iC (dq iC dz))))) (bK (Dq (dq (vP 8) dz) (by rfl) B.int_)))) dz))) (gN' (i:=9) sc.nd) (aU (sA (i:=10) sc.nd (jF (bJ h_law_stay hr (dq (vP 0) (dq (bK (dM gJ jt iP (vP 9))) (dq iP (dq (vP 4) (dq (vP 2) dz))))))))
  (aU (sA (i:=7) sc.nd (jF (bJ h_law_part hr (dq (vP 0) (dq iP (dq (vP 9) (dq (bK (dM gJ jt (bK (eG cA ju (by rfl) B.len_ PySem.boot_len (dq (pq (jO 5)) dz))) iP)) dz)))))))
  (aX (gF (sJ (m_ (dD nC b_lt (bK (eG cA ju (by rfl) B.len_ PySem.boot_len (dq (pq (jO 5)) dz))) (vP 3) (cZ _)) (mR (qz (fU (bJ h_law_full hr (dq (Ni (xV (jO 5) (dY (rB (rF (dq (vA 10) dz)))))) (dq (vP 1) (dq (vP 2) dz))))))))) (aX (BK (i:=5) rfl (vP 7) (vA 10) rfl)) (cW))))))
  (aX (cF (mQ 5 (by decide))))))))
theorem zc (D:Dg K mg "_law_plan" (top 47) ["_law_script", "_law_at", "_law_stays_here", "_law_rooms"]) (B:Bl mg) (h_law_part:Has P w K mg base n "_law_part" ["_law_script", "_law_at", "_law_k", "_law_many"] (spD K bL)):Has P w K mg base (n + 1) "_law_plan" ["_law_script", "_law_at", "_law_stays_here", "_law_rooms"] (spD K lg):=by
 have sc:FnScope ["_law_script", "_law_at", "_law_stays_here", "_law_rooms", "_law_plan_here", "_law_first", "_law_who", "_law_busy", "_law_free"] ["_law_script", "_law_at", "_law_stays_here", "_law_rooms"] (bx (top 47)):=fsc
 exact d9 (fl:=[.A,.A,.A,.A,.O,.A,.A,.A,.A]) D sc (by decide) (by decide) fun f cdv A outer s H E hr=>aU (j_ (i:=4) rfl sc.nd rfl (by first | exact Or.inl rfl | exact Or.inr rfl) (o_ (iV (L:=[]) (fl':=[.A]) rfl ["_law_stay_here"] [] [] (fV (vB 2)) (fun _ _ _ _ _=>gN' (i:=0) (show (["_law_stay_here"]:List Str).Nodup by decide +kernel)) (fun _ _ _ _ _=>lG) (fun _ _ _ _ _=>g_ (eV (cT (dx (vB 0) iP)))))))
  (aU (jc (L:=[]) PassesOwn.never rfl (fV (dY (gh (H_ (dq (bK (iV (L:=[]) (fl':=[.A,.A]) rfl ["_law_k"] ["_law_stays_here"] [2] (iB (by rfl) B.range_ (nM (dq (bK (eG cA ju (by rfl) B.len_ PySem.boot_len (dq (vP 2) dz))) dz))) (fun _ _ _ _ _=>gN' (i:=0) (show (["_law_k", "_law_stays_here"]:List Str).Nodup by decide +kernel)) (fun _ _ _ _ _=>lG) (fun _ _ _ _ _=>g_ (eV (cT (m7 rfl (dq (dx (dY (dx (vB 1) (vP 0))) iP) (dq (vA 0) dz)))))))) dz) (by rfl) B.sorted_)))) (qx rfl (fY (gN' (i:=5) sc.nd) (fY (gN' (i:=6) sc.nd) (oH)))) (aU (sA (i:=7) sc.nd (gh (iV (L:=[]) (fl':=[.A,.A,.A,.A]) rfl ["_law_k"] ["_law_plan_here", "_law_first", "_law_stays_here"] [4,5,2] (iB (by rfl) B.range_ (nM (dq (bK (eG cA ju (by rfl) B.len_ PySem.boot_len (dq (vP 2) dz))) dz))) (fun _ _ _ _ _=>gN' (i:=0) (show (["_law_k", "_law_plan_here", "_law_first", "_law_stays_here"]:List Str).Nodup by decide +kernel)) (fun _ _ _ _ _=>jz (sJ (m_ (dD oW tV (cT (dx (dY (dx (vB 3) (vP 0))) iP)) (vP 2) (cZ _)) (mR (dD nC b_lt (vP 2) (cT (dx (dY (dx (vB 3) (vP 0))) iP)) (cZ _)))))) (fun _ _ _ _ _=>g_ (eV (cT (dx (vB 1) (vP 0))))))))
  (aU (pB (i:=8) (L:=[]) (fl':=[.A,.A]) rfl sc.nd rfl rfl rfl ["_law_room"] ["_law_busy"] [7] (iB (by rfl) B.range_ (nM (dq (vP 3) dz))) (fun _ _ _ _ _=>gN' (i:=0) (show (["_law_room", "_law_busy"]:List Str).Nodup by decide +kernel)) (fun _ _ _ _ _=>jz (dD (wU hr.units) Du (vP 0) (vP 1) (by with_unfolding_all rfl))) (fun _ _ _ _ _=>g_ (eV (vP 0))))
  (aX (gF (qz (cT (dx (jO 4) (vP 6)))) (aX (sH (i:=4) rfl (dx (vB 8) (fU (bJ h_law_part hr (dq (vP 0) (dq (vP 1) (dq (vP 6) (dq (bK (eG cA ju (by rfl) B.len_ PySem.boot_len (dq (vP 8) dz))) dz))))))) (vP 6) rfl)) (cW))))))
  (aX (cF (mQ 4 (by decide)))))
theorem wg (D:Dg K mg "_law_begin" (top 48) ["_law_stays_here", "_law_now_here", "_law_room"]) (B:Bl mg):Has P w K mg base (n + 1) "_law_begin" ["_law_stays_here", "_law_now_here", "_law_room"] (spD K fD):=by
 have sc:FnScope ["_law_stays_here", "_law_now_here", "_law_room", "_law_first", "_law_behind", "_law_held"] ["_law_stays_here", "_law_now_here", "_law_room"] (bx (top 48)):=fsc
 exact d9 (fl:=[.A,.A,.A,.A,.A,.A]) D sc (by decide) (by decide) fun f cdv A outer s H E hr=>aU (jc (L:=[]) PassesOwn.never rfl (fV (vB 0)) (qx rfl (fY (gN' (i:=3) sc.nd) (fY (gN' (i:=4) sc.nd) (fY (gN' (i:=5) sc.nd) (oH))))) (aX (gF (sJ (m_ (oM (vP 5)) (mR (dD (mZ hr.units) vJ (vP 5) (vP 2) (cZ _))))) (aX (cF (cJ (eV (vP 4))))) (cW))))
  (aX (cF (cJ (eV (vP 1)))))
theorem zf (D:Dg K mg "_law_next" (top 49) ["_law_stays_here", "_law_rooms", "_law_who", "_law_night"]) (B:Bl mg):Has P w K mg base (n + 1) "_law_next" ["_law_stays_here", "_law_rooms", "_law_who", "_law_night"] (spD K jf):=by
 have sc:FnScope ["_law_stays_here", "_law_rooms", "_law_who", "_law_night", "_law_found", "_law_k", "_law_first", "_law_behind", "_law_held"] ["_law_stays_here", "_law_rooms", "_law_who", "_law_night"] (bx (top 49)):=fsc
 exact d9 (fl:=[.A,.A,.A,.A,.O,.A,.A,.A,.A]) D sc (by decide) (by decide) fun f cdv A outer s H E hr=>aU (j_ (i:=4) rfl sc.nd rfl (by first | exact Or.inl rfl | exact Or.inr rfl) (o_ (jP dz)))
  (aU (gF (dD nC b_lt (bK (eG cA ju (by rfl) B.len_ PySem.boot_len (dq (bK (iV (L:=[]) (fl':=[.A,.A]) rfl ["_law_one"] ["_law_night"] [3] (fV (vB 0)) (fun _ _ _ _ _=>gN' (i:=0) (show (["_law_one", "_law_night"]:List Str).Nodup by decide +kernel)) (fun _ _ _ _ _=>jz (sJ (m_ (dD oW tV (cT (dx (vB 0) iP)) (vP 1) (cZ _)) (mR (dD nC b_lt (vP 1) (cT (dx (vB 0) iP)) (cZ _)))))) (fun _ _ _ _ _=>g_ (eV (vP 0))))) dz))) (vP 1) (cZ _)) (aX (pL (i:=4) rfl (gh (dM gJ jt (vP 3) iP)) rfl)) (cW))
  (aU (jc (L:=[]) PassesOwn.never rfl (iB (by rfl) B.range_ (nM (dq (bK (eG cA ju (by rfl) B.len_ PySem.boot_len (dq (vP 0) dz))) dz))) (gN' (i:=5) sc.nd) (aU (Pb (dx (vB 0) (vP 5)) (qx rfl (fY (gN' (i:=6) sc.nd) (fY (gN' (i:=7) sc.nd) (fY (gN' (i:=8) sc.nd) (oH))))))
  (aX (gF (sJ (m_ (dD (uD hr.units) Hs (vP 5) (vP 2) (cZ _)) (m_ (qz (vP 8)) (m_ (dD (mZ hr.units) vJ (vP 6) (vP 3) (cZ _)) (mR (dD oW tV (vP 7) (cT (dx (dY (dx (vB 0) (vP 2))) iP)) (cZ _))))))) (aX (pL (i:=4) rfl (vA 7) rfl)) (cW)))))
  (aX (cF (mQ 4 (by decide))))))
theorem tX (D:Dg K mg "_law_reaches" (top 50) ["_law_stays_here", "_law_rooms", "_law_now_here", "_law_who", "_law_room"]) (B:Bl mg) (h_law_begin:Has P w K mg base n "_law_begin" ["_law_stays_here", "_law_now_here", "_law_room"] (spD K fD)) (h_law_next:Has P w K mg base n "_law_next" ["_law_stays_here", "_law_rooms", "_law_who", "_law_night"] (spD K jf)):Has P w K mg base (n + 1) "_law_reaches" ["_law_stays_here", "_law_rooms", "_law_now_here", "_law_who", "_law_room"] (spD K gH):=by
 have sc:FnScope ["_law_stays_here", "_law_rooms", "_law_now_here", "_law_who", "_law_room", "_law_goal", "_law_found", "_law_night", "_law_there"] ["_law_stays_here", "_law_rooms", "_law_now_here", "_law_who", "_law_room"] (bx (top 50)):=fsc
 exact d9 (fl:=[.A,.A,.A,.A,.A,.A,.N,.A,.A]) D sc (by decide) (by decide) fun f cdv A outer s H E hr=>aU (sA (i:=5) sc.nd (dx (dY (dx (vB 0) (vP 3))) iP))
  (aU (xY (i:=6) rfl sc.nd rfl (by first | exact Or.inl rfl | exact Or.inr rfl) (XB.K4 (fU (bJ h_law_begin hr (dq (vP 0) (dq (vP 2) (dq (vP 4) dz)))))))
  (aU (jc (L:=[]) PassesOwn.never rfl (wO (by rfl) B.range_ (nM (dq (vP 2) (dq (vP 5) dz)))) (gN' (i:=7) sc.nd) (aX (gF (dD (XB.BZ hr.units) XB.Ij (vP 7) (ud 6 rfl) (by with_unfolding_all rfl)) (aX (jc (L:=[]) PassesOwn.never rfl (fV (dY (jF (bJ h_law_next hr (dq (vP 0) (dq (vP 1) (dq (vP 3) (dq (vP 7) dz)))))))) (gN' (i:=8) sc.nd) (aX (XB.DR (XK.hu1 hr.units) (i:=6) rfl CW (vP 8) rfl)))) (cW))))
  (aX (cF (cJ (oG (XB.BZ hr.units) XB.Ij (vP 5) (ud 6 rfl) (by with_unfolding_all rfl)))))))
theorem zj (D:Dg K mg "_law_told" (top 51) ["_law_stays_here", "_law_rooms", "_law_now_here", "_law_who", "_law_due"]) (B:Bl mg) (hrooms_for:Has P w K mg base n "rooms_for" ["stays", "rooms", "now", "who"] (spD K k_)) (h_law_whole:Has P w K mg base n "_law_whole" ["_law_found"] (spD K eZ)):Has P w K mg base (n + 1) "_law_told" ["_law_stays_here", "_law_rooms", "_law_now_here", "_law_who", "_law_due"] (spD K iH):=by
 have sc:FnScope ["_law_stays_here", "_law_rooms", "_law_now_here", "_law_who", "_law_due", "_law_found"] ["_law_stays_here", "_law_rooms", "_law_now_here", "_law_who", "_law_due"] (bx (top 51)):=fsc
 exact d9 (fl:=[.A,.A,.A,.A,.A,.O]) D sc (by decide) (by decide) fun f cdv A outer s H E hr=>aU (j_ (i:=5) rfl sc.nd rfl (by first | exact Or.inl rfl | exact Or.inr rfl) (o_ (Bo (bJ hrooms_for hr (dq (vP 0) (dq (vP 1) (dq (vP 2) (dq (vP 3) dz))))))))
  (aU (gF (sJ (uN (m9 (lW (bK (qy (T := "list") (by decide) (pq (jO 5)) (by rfl) B.isinstance_ (by rfl) B.list_ PyProof.Rows.boot_list)))) (uN (m9 (lW (bK (eG (wQ rfl) Dr (by rfl) B.all_ (show bootBuiltins "all" = some (.builtin "all") by decide +kernel) (dq (bK (iV (L:=[5]) (fl':=[.A]) rfl ["_law_one"] [] [] (fV (jO 5)) (fun _ _ _ _ _=>gN' (i:=0) (show (["_law_one"]:List Str).Nodup by decide +kernel)) (fun _ _ _ _ _=>lG) (fun _ _ _ _ _=>bJ h_law_whole hr (dq (vP 0) dz)))) dz))))) (uM (dD (uD hr.units) Hs (pq (jO 5)) (vP 4) (cZ _)))))) (aX (cF (cJ (wM)))) (cW))
  (aU (pL (i:=5) rfl (vA 1) rfl)
  (aX (cF (cJ (wM))))))
theorem Rt {f:Addr} {fd:FuncData} (Fn:FunD K "law" (top 52) f fd) (B:Bl mg) (h_law_part:Has P w K mg base n "_law_part" ["_law_script", "_law_at", "_law_k", "_law_many"] (spD K bL)) (h_law_now:Has P w K mg base n "_law_now" ["_law_script"] (spD K jC)) (h_law_stays:Has P w K mg base n "_law_stays" ["_law_script", "_law_rooms", "_law_now_here", "_law_most"] (spD K gW)) (h_law_plan:Has P w K mg base n "_law_plan" ["_law_script", "_law_at", "_law_stays_here", "_law_rooms"] (spD K lg)) (h_law_reaches:Has P w K mg base n "_law_reaches" ["_law_stays_here", "_law_rooms", "_law_now_here", "_law_who", "_law_room"] (spD K gH)) (h_law_told:Has P w K mg base n "_law_told" ["_law_stays_here", "_law_rooms", "_law_now_here", "_law_who", "_law_due"] (spD K iH)):FnOk P w K mg base CX0 (n + 1) f fd ["_law_script"] (spD K Jw):=by
 have sc:FnScope ["_law_script", "_law_rooms", "_law_now_here", "_law_stays_here", "_law_plan_here", "_law_some", "_law_handed", "_law_turn", "_law_who", "_law_due"] ["_law_script"] (bx (top 52)):=fsc
 exact HN (fl:=[.A,.A,.A,.A,.A,.A,.A,.A,.A,.A]) Fn sc (by decide) (by decide) fun f cdv A outer s H E hr=>aU (sA (i:=1) sc.nd (gh (dM gJ jt iP (fU (bJ h_law_part hr (dq (vP 0) (dq iP (dq iP (dq (cT (dx (dY (gh (jP (dq iC (dq iC dz))))) (bK (Dq (dq (bK (oG (mZ hr.units) vJ (fU (bJ h_law_part hr (dq (vP 0) (dq iP (dq iP (dq iP dz)))))) iP (cZ _))) dz) (by rfl) B.int_)))) dz)))))))))
  (aU (sA (i:=2) sc.nd (jF (bJ h_law_now hr (dq (vP 0) dz))))
  (aU (sA (i:=3) sc.nd (jF (bJ h_law_stays hr (dq (vP 0) (dq (vP 1) (dq (vP 2) (dq iP dz)))))))
  (aU (sA (i:=4) sc.nd (jF (bJ h_law_plan hr (dq (vP 0) (dq iP (dq (vP 3) (dq (vP 1) dz)))))))
  (aU (pB (i:=5) (L:=[]) (fl':=[.A,.A]) rfl sc.nd rfl rfl rfl ["_law_k"] ["_law_stays_here"] [3] (iB (by rfl) B.range_ (nM (dq (bK (eG cA ju (by rfl) B.len_ PySem.boot_len (dq (vP 3) dz))) dz))) (fun _ _ _ _ _=>gN' (i:=0) (show (["_law_k", "_law_stays_here"]:List Str).Nodup by decide +kernel)) (fun _ _ _ _ _=>jz (qz (cT (dx (dY (dx (vB 1) (vP 0))) iP)))) (fun _ _ _ _ _=>g_ (eV (vP 0))))
  (aU (sA (i:=6) sc.nd (rB (xW (vB 3) (by rfl) B.list_)))
  (aU (jc (L:=[]) PassesOwn.never rfl (iB (by rfl) B.range_ (nM (dq (bK (eG (pJ rfl) xU (by rfl) B.min_ PyProof.Rows.boot_min (dq iP (dq (bK (eG cA ju (by rfl) B.len_ PySem.boot_len (dq (vP 5) dz))) dz)))) dz))) (gN' (i:=7) sc.nd) (aU (sA (i:=8) sc.nd (dx (vB 5) (fU (bJ h_law_part hr (dq (vP 0) (dq iP (dq (vP 7) (dq (bK (eG cA ju (by rfl) B.len_ PySem.boot_len (dq (vP 5) dz))) dz))))))))
  (aU (pB (i:=9) (L:=[]) (fl':=[.A,.A,.A,.A,.A]) rfl sc.nd rfl rfl rfl ["_law_room"] ["_law_stays_here", "_law_rooms", "_law_now_here", "_law_who"] [3,1,2,8] (iB (by rfl) B.range_ (nM (dq (vP 1) dz))) (fun _ _ _ _ _=>gN' (i:=0) (show (["_law_room", "_law_stays_here", "_law_rooms", "_law_now_here", "_law_who"]:List Str).Nodup by decide +kernel)) (fun _ _ _ _ _=>jz (lW (fU (bJ h_law_reaches hr (dq (vP 1) (dq (vP 2) (dq (vP 3) (dq (vP 4) (dq (vP 0) dz))))))))) (fun _ _ _ _ _=>g_ (eV (vP 0))))
  (aU (gF (sJ (uN (m9 (lW (fU (bJ h_law_told hr (dq (vP 6) (dq (vP 1) (dq (vP 2) (dq (vP 8) (dq (vP 9) dz))))))))) (uM (dD (wU hr.units) Du (cT (dx (vB 4) (vP 8))) (vP 9) (by with_unfolding_all rfl))))) (aX (cF (cJ (wM)))) (cW))
  (aX (gF (sJ (uN (m9 (lW (fU (bJ h_law_told hr (dq (vP 6) (dq (vP 1) (dq (vP 2) (dq (vP 8) (dq (vP 9) dz))))))))) (uM (dD (uD hr.units) Hs (vP 6) (vP 3) (cZ _))))) (aX (cF (cJ (wM)))) (cW)))))))
  (aX (cF (cJ (wM))))))))))
end
end K44
namespace D3
theorem len0 {p:List PySem.Value→Prop} (h:p []):∀ us,us.length=0→p us:=fun us hl=>by
 cases us with
 | nil=>exact h
 | cons _ _=>cases hl
theorem bY {n:Nat} {p:List PySem.Value→Prop} (h:∀ a us,us.length=n→p (a :: us)):∀ us,us.length=n + 1→p us:=fun us hl=>by
 cases us with
 | nil=>cases hl
 | cons a r=>exact h a r (Nat.succ.inj hl)
end D3
namespace K44
open PySem L2 My D3
structure Txt (K:PySem.W.Frag) (mg:Str→Option Value):Prop where
 d_is_whole:Dg K mg "is_whole" (top 7) ["thing"]
 d_all_whole:Dg K mg "all_whole" (top 8) ["things"]
 d_is_tuple_of:Dg K mg "is_tuple_of" (top 9) ["thing", "many"]
 d_is_pair:Dg K mg "is_pair" (top 10) ["thing"]
 d_is_stretch:Dg K mg "is_stretch" (top 13) ["thing"]
 d_nights_of:Dg K mg "nights_of" (top 14) ["stay"]
 d_holds:Dg K mg "holds" (top 15) ["stretch", "night"]
 d_count_at:Dg K mg "count_at" (top 16) ["stretches", "night"]
 d_firsts:Dg K mg "firsts" (top 17) ["stretches"]
 d_fuller:Dg K mg "fuller" (top 18) ["stretches", "many", "since"]
 d_is_stay:Dg K mg "is_stay" (top 20) ["thing", "rooms", "now"]
 d_check_stays:Dg K mg "check_stays" (top 21) ["stays", "rooms", "now"]
 d_check_full:Dg K mg "check_full" (top 22) ["stays", "rooms", "now"]
 d_still_to_come:XL.DgT K mg "still_to_come" (top 23) ["stays"] 187 "still_to_come.<locals>.<lambda>" ⟨70,30,70,59⟩
 d_beginnings:Dg K mg "beginnings" (top 24) ["stays", "rooms", "now"]
 d_first_free:Dg K mg "first_free" (top 25) ["begin", "night"]
 d_filled:Dg K mg "filled" (top 26) ["stays", "plan", "begin"]
 d_check_who:Dg K mg "check_who" (top 28) ["stays", "rooms", "now", "who"]
 d_check_room:Dg K mg "check_room" (top 29) ["rooms", "room"]
 d_is_tight:Dg K mg "is_tight" (top 30) ["stays", "rooms", "night"]
 d_goes_ahead:Dg K mg "goes_ahead" (top 31) ["stays", "who", "place", "night"]
 d_steps_from:Dg K mg "steps_from" (top 32) ["stays", "rooms", "who", "night"]
 d_nights_reached:Dg K mg "nights_reached" (top 33) ["stays", "rooms", "who", "begin"]
 d_chain_to:Dg K mg "chain_to" (top 34) ["reached", "last"]
 d_plan_with:Dg K mg "plan_with" (top 35) ["stays", "rooms", "now", "who", "room", "chain"]
 d_may_have:Dg K mg "may_have" (top 36) ["stays", "rooms", "now", "who", "room"]
 d_rooms_for:Dg K mg "rooms_for" (top 37) ["stays", "rooms", "now", "who"]
 d__law_cell:Dg K mg "_law_cell" (top 39) ["_law_script", "_law_at"]
 d__law_part:Dg K mg "_law_part" (top 40) ["_law_script", "_law_at", "_law_k", "_law_many"]
 d__law_whole:Dg K mg "_law_whole" (top 41) ["_law_found"]
 d__law_stay:Dg K mg "_law_stay" (top 42) ["_law_script", "_law_at", "_law_turn", "_law_mode", "_law_now_here"]
 d__law_guest:Dg K mg "_law_guest" (top 43) ["_law_script", "_law_at", "_law_turn", "_law_now_here", "_law_room"]
 d__law_full:Dg K mg "_law_full" (top 44) ["_law_stays_here", "_law_rooms", "_law_now_here"]
 d__law_now:Dg K mg "_law_now" (top 45) ["_law_script"]
 d__law_stays:Dg K mg "_law_stays" (top 46) ["_law_script", "_law_rooms", "_law_now_here", "_law_most"]
 d__law_plan:Dg K mg "_law_plan" (top 47) ["_law_script", "_law_at", "_law_stays_here", "_law_rooms"]
 d__law_begin:Dg K mg "_law_begin" (top 48) ["_law_stays_here", "_law_now_here", "_law_room"]
 d__law_next:Dg K mg "_law_next" (top 49) ["_law_stays_here", "_law_rooms", "_law_who", "_law_night"]
 d__law_reaches:Dg K mg "_law_reaches" (top 50) ["_law_stays_here", "_law_rooms", "_law_now_here", "_law_who", "_law_room"]
 d__law_told:Dg K mg "_law_told" (top 51) ["_law_stays_here", "_law_rooms", "_law_now_here", "_law_who", "_law_due"]
 d_law:Dl K mg "law" "_law_script" (top 52)
 blt:Bl mg
 c_NIGHTS:∃ t,mg "NIGHTS" = some (.int 400 t)
theorem Ru {P:Program} {w:World} {K:PySem.W.Frag} {mg:Str→Option Value} {base:Heap} (T:Txt K mg) {f:Addr} {fd:FuncData} (F:FunD K "law" (top 52) f fd):FnOk P w K mg base CX0 65 f fd ["_law_script"] (HS K):=by
 have h_is_whole:=Al (P:=P) (w:=w) (base:=base) (n:=0) T.d_is_whole T.blt
 have h_nights_of:=yQ (P:=P) (w:=w) (base:=base) (n:=0) T.d_nights_of T.blt
 have h_holds:=JT (P:=P) (w:=w) (base:=base) (n:=0) T.d_holds T.blt
 have h_firsts:=Gv (P:=P) (w:=w) (base:=base) (n:=0) T.d_firsts T.blt
 have h_still_to_come:=sY (P:=P) (w:=w) (base:=base) (n:=0) T.d_still_to_come T.blt
 have h_beginnings:=vR (P:=P) (w:=w) (base:=base) (n:=0) T.d_beginnings T.blt
 have h_first_free:=vU (P:=P) (w:=w) (base:=base) (n:=0) T.d_first_free T.blt
 have h_check_room:=vV (P:=P) (w:=w) (base:=base) (n:=0) T.d_check_room T.blt
 have h_goes_ahead:=vW (P:=P) (w:=w) (base:=base) (n:=0) T.d_goes_ahead T.blt
 have h_chain_to:=Aq (P:=P) (w:=w) (base:=base) (n:=0) T.d_chain_to T.blt
 have h__law_cell:=yV (P:=P) (w:=w) (base:=base) (n:=0) T.d__law_cell T.blt
 have h__law_whole:=vY (P:=P) (w:=w) (base:=base) (n:=0) T.d__law_whole T.blt
 have h__law_full:=yZ (P:=P) (w:=w) (base:=base) (n:=0) T.d__law_full T.blt
 have h__law_begin:=wg (P:=P) (w:=w) (base:=base) (n:=0) T.d__law_begin T.blt
 have h__law_next:=zf (P:=P) (w:=w) (base:=base) (n:=0) T.d__law_next T.blt
 have h_all_whole:=yP (P:=P) (w:=w) (base:=base) (n:=1) T.d_all_whole T.blt (h_is_whole.mono (by decide))
 have h_count_at:=Am (P:=P) (w:=w) (base:=base) (n:=1) T.d_count_at T.blt (h_holds.mono (by decide))
 have h_filled:=Gx (P:=P) (w:=w) (base:=base) (n:=1) T.d_filled T.blt (h_still_to_come.mono (by decide)) (h_first_free.mono (by decide))
 have h__law_part:=yW (P:=P) (w:=w) (base:=base) (n:=1) T.d__law_part T.blt (h__law_cell.mono (by decide))
 have h__law_reaches:=tX (P:=P) (w:=w) (base:=base) (n:=1) T.d__law_reaches T.blt (h__law_begin.mono (by decide)) (h__law_next.mono (by decide))
 have h_is_tuple_of:=vG (P:=P) (w:=w) (base:=base) (n:=2) T.d_is_tuple_of T.blt (h_all_whole.mono (by decide))
 have h_fuller:=Gw (P:=P) (w:=w) (base:=base) (n:=2) T.d_fuller T.blt (h_count_at.mono (by decide)) (h_firsts.mono (by decide))
 have h_is_tight:=Ao (P:=P) (w:=w) (base:=base) (n:=2) T.d_is_tight T.blt (h_nights_of.mono (by decide)) (h_count_at.mono (by decide))
 have h_plan_with:=yS (P:=P) (w:=w) (base:=base) (n:=2) T.d_plan_with T.blt (h_beginnings.mono (by decide)) (h_filled.mono (by decide))
 have h__law_stay:=yX (P:=P) (w:=w) (base:=base) (n:=2) T.d__law_stay T.blt (h__law_part.mono (by decide))
 have h__law_guest:=vZ (P:=P) (w:=w) (base:=base) (n:=2) T.d__law_guest T.blt (h__law_part.mono (by decide))
 have h__law_now:=Av (P:=P) (w:=w) (base:=base) (n:=2) T.d__law_now T.blt (h__law_part.mono (by decide))
 have h__law_plan:=zc (P:=P) (w:=w) (base:=base) (n:=2) T.d__law_plan T.blt (h__law_part.mono (by decide))
 have h_is_pair:=CQ (P:=P) (w:=w) (base:=base) (n:=3) T.d_is_pair T.blt (h_is_tuple_of.mono (by decide))
 have h_check_full:=vQ (P:=P) (w:=w) (base:=base) (n:=3) T.d_check_full T.blt (h_nights_of.mono (by decide)) (h_fuller.mono (by decide))
 have h_steps_from:=vX (P:=P) (w:=w) (base:=base) (n:=3) T.d_steps_from T.blt (h_is_tight.mono (by decide)) (h_goes_ahead.mono (by decide))
 have h__law_stays:=v5 (P:=P) (w:=w) (base:=base) (n:=3) T.d__law_stays T.blt (h__law_part.mono (by decide)) (h__law_stay.mono (by decide)) (h__law_guest.mono (by decide)) (h__law_full.mono (by decide))
 have h_is_stretch:=vO (P:=P) (w:=w) (base:=base) (n:=4) T.d_is_stretch T.blt (h_is_pair.mono (by decide)) T.c_NIGHTS
 have h_nights_reached:=rT (P:=P) (w:=w) (base:=base) (n:=4) T.d_nights_reached T.blt (h_steps_from.mono (by decide))
 have h_is_stay:=CT (P:=P) (w:=w) (base:=base) (n:=5) T.d_is_stay T.blt (h_is_whole.mono (by decide)) (h_is_stretch.mono (by decide)) (h_nights_of.mono (by decide)) (h_holds.mono (by decide))
 have h_check_stays:=vH (P:=P) (w:=w) (base:=base) (n:=6) T.d_check_stays T.blt (h_is_stay.mono (by decide))
 have h_check_who:=yR (P:=P) (w:=w) (base:=base) (n:=7) T.d_check_who T.blt (h_check_stays.mono (by decide)) (h_check_full.mono (by decide))
 have h_may_have:=Ar (P:=P) (w:=w) (base:=base) (n:=8) T.d_may_have T.blt (h_beginnings.mono (by decide)) (h_check_who.mono (by decide)) (h_check_room.mono (by decide)) (h_nights_reached.mono (by decide)) (h_chain_to.mono (by decide)) (h_plan_with.mono (by decide))
 have h_rooms_for:=yU (P:=P) (w:=w) (base:=base) (n:=9) T.d_rooms_for T.blt (h_check_who.mono (by decide)) (h_may_have.mono (by decide))
 have h__law_told:=zj (P:=P) (w:=w) (base:=base) (n:=10) T.d__law_told T.blt (h_rooms_for.mono (by decide)) (h__law_whole.mono (by decide))
 exact ((Rt (P:=P) (w:=w) (base:=base) (n:=11) F T.blt (h__law_part.mono (by decide)) (h__law_now.mono (by decide)) (h__law_stays.mono (by decide)) (h__law_plan.mono (by decide)) (h__law_reaches.mono (by decide)) (h__law_told.mono (by decide))).mono (by decide)).imp (Kz K44.JR)
end K44
def PySem.W.Fast.tw4548390130642043019:=0
def PySem.W.Fast.tw11368319736567391821:=0
def PySem.W.Fast.tw8919741477517337734:=0
def PySem.W.Fast.tw11177774407927918419:=0
def PySem.W.Fast.tw3756289168598247359:=0
def PySem.W.Fast.tw2051592328339928527:=0
def PySem.W.Fast.tw10695956742883870808:=0
def PySem.W.Fast.tw6810576281368529037:=0
def PySem.W.Fast.tw957962287109558824:=0
def PySem.W.Fast.tw1894772981193408961:=0
def PySem.W.Fast.tw9319958747135162694:=0
def PySem.W.Fast.tw4751404634832838099:=0
def PySem.W.Fast.tw14525591003356091083:=0
def PySem.W.Fast.tw10856771060025132697:=0
def PySem.W.Fast.tw11768933213806294032:=0
def PySem.W.Fast.tw8072344922028530559:=0
def PySem.W.Fast.tw944434432658593241:=0
open PySem PySem.W PyProof.Rows
set_option maxRecDepth 100000 in
set_option maxHeartbeats 0 in
theorem PySem.Challenge.cw_nightbook_k44_rooms_for_holds : PySem.Challenge.rw_nightbook_k44_rooms_for.Holds := by
 w_on;o_law;k_head;(case hw=>w_witness2)
 k_fill
 refine L2.Hf (l:=PySem.Challenge.rw_nightbook_k44_rooms_for) (n:=63) (k:=65) (x := "_law_script") (CX:=L2.CX0) (sp:=D3.HS) rfl (by decide) rfl ⟨rfl,by decide,by decide⟩ (fun w h Y=>PySem.W.km_in_of Y) ?F D3.tabs (fun w h Y=>XL.Lb (c:=189) (PySem.W.km_in_of Y) (PySem.W.km_tabs_of Y _ (aN)) (by kernel_rfl) (by kernel_rfl)) XL.Iu ?S ?C
 case F =>
  intro w mg fa h KX G hmg
  have T:K44.Txt (L2.KOf KX) mg:=by
   dsimp only [L2.KOf]
   have d_is_whole:D3.Dg (L2.KOf KX) mg "is_whole" (K44.top 7) ["thing"]:=by
    dsimp only [L2.KOf]
    refine' D3.eF KX G ?b ?a ?l ?c ?k
    (case a=>k_is);(case l=>k_is);(case c=>k_is);(case k=>k_is)
    (case b=>exact fun _ _ _ _ _ _=>D3.bY fun _=>D3.len0 rfl)
   have d_all_whole:D3.Dg (L2.KOf KX) mg "all_whole" (K44.top 8) ["things"]:=by
    dsimp only [L2.KOf]
    refine' D3.eF KX G ?b ?a ?l ?c ?k
    (case a=>k_is);(case l=>k_is);(case c=>k_is);(case k=>k_is)
    (case b=>exact fun _ _ _ _ _ _=>D3.bY fun _=>D3.len0 rfl)
   have d_is_tuple_of:D3.Dg (L2.KOf KX) mg "is_tuple_of" (K44.top 9) ["thing", "many"]:=by
    dsimp only [L2.KOf]
    refine' D3.eF KX G ?b ?a ?l ?c ?k
    (case a=>k_is);(case l=>k_is);(case c=>k_is);(case k=>k_is)
    (case b=>exact fun _ _ _ _ _ _=>D3.bY fun _=>D3.bY fun _=>D3.len0 rfl)
   have d_is_pair:D3.Dg (L2.KOf KX) mg "is_pair" (K44.top 10) ["thing"]:=by
    dsimp only [L2.KOf]
    refine' D3.eF KX G ?b ?a ?l ?c ?k
    (case a=>k_is);(case l=>k_is);(case c=>k_is);(case k=>k_is)
    (case b=>exact fun _ _ _ _ _ _=>D3.bY fun _=>D3.len0 rfl)
   have d_is_stretch:D3.Dg (L2.KOf KX) mg "is_stretch" (K44.top 13) ["thing"]:=by
    dsimp only [L2.KOf]
    refine' D3.eF KX G ?b ?a ?l ?c ?k
    (case a=>k_is);(case l=>k_is);(case c=>k_is);(case k=>k_is)
    (case b=>exact fun _ _ _ _ _ _=>D3.bY fun _=>D3.len0 rfl)
   have d_nights_of:D3.Dg (L2.KOf KX) mg "nights_of" (K44.top 14) ["stay"]:=by
    dsimp only [L2.KOf]
    refine' D3.eF KX G ?b ?a ?l ?c ?k
    (case a=>k_is);(case l=>k_is);(case c=>k_is);(case k=>k_is)
    (case b=>exact fun _ _ _ _ _ _=>D3.bY fun _=>D3.len0 rfl)
   have d_holds:D3.Dg (L2.KOf KX) mg "holds" (K44.top 15) ["stretch", "night"]:=by
    dsimp only [L2.KOf]
    refine' D3.eF KX G ?b ?a ?l ?c ?k
    (case a=>k_is);(case l=>k_is);(case c=>k_is);(case k=>k_is)
    (case b=>exact fun _ _ _ _ _ _=>D3.bY fun _=>D3.bY fun _=>D3.len0 rfl)
   have d_count_at:D3.Dg (L2.KOf KX) mg "count_at" (K44.top 16) ["stretches", "night"]:=by
    dsimp only [L2.KOf]
    refine' D3.eF KX G ?b ?a ?l ?c ?k
    (case a=>k_is);(case l=>k_is);(case c=>k_is);(case k=>k_is)
    (case b=>exact fun _ _ _ _ _ _=>D3.bY fun _=>D3.bY fun _=>D3.len0 rfl)
   have d_firsts:D3.Dg (L2.KOf KX) mg "firsts" (K44.top 17) ["stretches"]:=by
    dsimp only [L2.KOf]
    refine' D3.eF KX G ?b ?a ?l ?c ?k
    (case a=>k_is);(case l=>k_is);(case c=>k_is);(case k=>k_is)
    (case b=>exact fun _ _ _ _ _ _=>D3.bY fun _=>D3.len0 rfl)
   have d_fuller:D3.Dg (L2.KOf KX) mg "fuller" (K44.top 18) ["stretches", "many", "since"]:=by
    dsimp only [L2.KOf]
    refine' D3.Pq KX G ?b ?a ?l ?c ?k ?t ?s
    (case a=>k_is);(case l=>k_is);(case c=>k_is);(case k=>k_is);(case t=>k_is);(case s=>rfl)
    (case b=>exact fun _ _ _ _ _ _=>D3.bY fun _=>D3.bY fun _=>D3.bY fun _=>D3.len0 ⟨_,rfl,rfl⟩)
   have d_is_stay:D3.Dg (L2.KOf KX) mg "is_stay" (K44.top 20) ["thing", "rooms", "now"]:=by
    dsimp only [L2.KOf]
    refine' D3.eF KX G ?b ?a ?l ?c ?k
    (case a=>k_is);(case l=>k_is);(case c=>k_is);(case k=>k_is)
    (case b=>exact fun _ _ _ _ _ _=>D3.bY fun _=>D3.bY fun _=>D3.bY fun _=>D3.len0 rfl)
   have d_check_stays:D3.Dg (L2.KOf KX) mg "check_stays" (K44.top 21) ["stays", "rooms", "now"]:=by
    dsimp only [L2.KOf]
    refine' D3.eF KX G ?b ?a ?l ?c ?k
    (case a=>k_is);(case l=>k_is);(case c=>k_is);(case k=>k_is)
    (case b=>exact fun _ _ _ _ _ _=>D3.bY fun _=>D3.bY fun _=>D3.bY fun _=>D3.len0 rfl)
   have d_check_full:D3.Dg (L2.KOf KX) mg "check_full" (K44.top 22) ["stays", "rooms", "now"]:=by
    dsimp only [L2.KOf]
    refine' D3.eF KX G ?b ?a ?l ?c ?k
    (case a=>k_is);(case l=>k_is);(case c=>k_is);(case k=>k_is)
    (case b=>exact fun _ _ _ _ _ _=>D3.bY fun _=>D3.bY fun _=>D3.bY fun _=>D3.len0 rfl)
   have d_still_to_come:XL.DgT (L2.KOf KX) mg "still_to_come" (K44.top 23) ["stays"] 187 "still_to_come.<locals>.<lambda>" ⟨70,30,70,59⟩:=by
    dsimp only [L2.KOf]
    refine' XL.Qj KX G ?b ?a ?l ?c ?k ?h ?t
    (case a=>k_is);(case l=>k_is);(case c=>k_is);(case k=>k_is);(case h=>kernel_rfl);(case t=>exact aN)
    (case b=>exact fun _ _ _ _ _ _=>D3.bY fun _=>D3.len0 rfl)
   have d_beginnings:D3.Dg (L2.KOf KX) mg "beginnings" (K44.top 24) ["stays", "rooms", "now"]:=by
    dsimp only [L2.KOf]
    refine' D3.eF KX G ?b ?a ?l ?c ?k
    (case a=>k_is);(case l=>k_is);(case c=>k_is);(case k=>k_is)
    (case b=>exact fun _ _ _ _ _ _=>D3.bY fun _=>D3.bY fun _=>D3.bY fun _=>D3.len0 rfl)
   have d_first_free:D3.Dg (L2.KOf KX) mg "first_free" (K44.top 25) ["begin", "night"]:=by
    dsimp only [L2.KOf]
    refine' D3.eF KX G ?b ?a ?l ?c ?k
    (case a=>k_is);(case l=>k_is);(case c=>k_is);(case k=>k_is)
    (case b=>exact fun _ _ _ _ _ _=>D3.bY fun _=>D3.bY fun _=>D3.len0 rfl)
   have d_filled:D3.Dg (L2.KOf KX) mg "filled" (K44.top 26) ["stays", "plan", "begin"]:=by
    dsimp only [L2.KOf]
    refine' D3.eF KX G ?b ?a ?l ?c ?k
    (case a=>k_is);(case l=>k_is);(case c=>k_is);(case k=>k_is)
    (case b=>exact fun _ _ _ _ _ _=>D3.bY fun _=>D3.bY fun _=>D3.bY fun _=>D3.len0 rfl)
   have d_check_who:D3.Dg (L2.KOf KX) mg "check_who" (K44.top 28) ["stays", "rooms", "now", "who"]:=by
    dsimp only [L2.KOf]
    refine' D3.eF KX G ?b ?a ?l ?c ?k
    (case a=>k_is);(case l=>k_is);(case c=>k_is);(case k=>k_is)
    (case b=>exact fun _ _ _ _ _ _=>D3.bY fun _=>D3.bY fun _=>D3.bY fun _=>D3.bY fun _=>D3.len0 rfl)
   have d_check_room:D3.Dg (L2.KOf KX) mg "check_room" (K44.top 29) ["rooms", "room"]:=by
    dsimp only [L2.KOf]
    refine' D3.eF KX G ?b ?a ?l ?c ?k
    (case a=>k_is);(case l=>k_is);(case c=>k_is);(case k=>k_is)
    (case b=>exact fun _ _ _ _ _ _=>D3.bY fun _=>D3.bY fun _=>D3.len0 rfl)
   have d_is_tight:D3.Dg (L2.KOf KX) mg "is_tight" (K44.top 30) ["stays", "rooms", "night"]:=by
    dsimp only [L2.KOf]
    refine' D3.eF KX G ?b ?a ?l ?c ?k
    (case a=>k_is);(case l=>k_is);(case c=>k_is);(case k=>k_is)
    (case b=>exact fun _ _ _ _ _ _=>D3.bY fun _=>D3.bY fun _=>D3.bY fun _=>D3.len0 rfl)
   have d_goes_ahead:D3.Dg (L2.KOf KX) mg "goes_ahead" (K44.top 31) ["stays", "who", "place", "night"]:=by
    dsimp only [L2.KOf]
    refine' D3.eF KX G ?b ?a ?l ?c ?k
    (case a=>k_is);(case l=>k_is);(case c=>k_is);(case k=>k_is)
    (case b=>exact fun _ _ _ _ _ _=>D3.bY fun _=>D3.bY fun _=>D3.bY fun _=>D3.bY fun _=>D3.len0 rfl)
   have d_steps_from:D3.Dg (L2.KOf KX) mg "steps_from" (K44.top 32) ["stays", "rooms", "who", "night"]:=by
    dsimp only [L2.KOf]
    refine' D3.eF KX G ?b ?a ?l ?c ?k
    (case a=>k_is);(case l=>k_is);(case c=>k_is);(case k=>k_is)
    (case b=>exact fun _ _ _ _ _ _=>D3.bY fun _=>D3.bY fun _=>D3.bY fun _=>D3.bY fun _=>D3.len0 rfl)
   have d_nights_reached:D3.Dg (L2.KOf KX) mg "nights_reached" (K44.top 33) ["stays", "rooms", "who", "begin"]:=by
    dsimp only [L2.KOf]
    refine' D3.eF KX G ?b ?a ?l ?c ?k
    (case a=>k_is);(case l=>k_is);(case c=>k_is);(case k=>k_is)
    (case b=>exact fun _ _ _ _ _ _=>D3.bY fun _=>D3.bY fun _=>D3.bY fun _=>D3.bY fun _=>D3.len0 rfl)
   have d_chain_to:D3.Dg (L2.KOf KX) mg "chain_to" (K44.top 34) ["reached", "last"]:=by
    dsimp only [L2.KOf]
    refine' D3.eF KX G ?b ?a ?l ?c ?k
    (case a=>k_is);(case l=>k_is);(case c=>k_is);(case k=>k_is)
    (case b=>exact fun _ _ _ _ _ _=>D3.bY fun _=>D3.bY fun _=>D3.len0 rfl)
   have d_plan_with:D3.Dg (L2.KOf KX) mg "plan_with" (K44.top 35) ["stays", "rooms", "now", "who", "room", "chain"]:=by
    dsimp only [L2.KOf]
    refine' D3.eF KX G ?b ?a ?l ?c ?k
    (case a=>k_is);(case l=>k_is);(case c=>k_is);(case k=>k_is)
    (case b=>exact fun _ _ _ _ _ _=>D3.bY fun _=>D3.bY fun _=>D3.bY fun _=>D3.bY fun _=>D3.bY fun _=>D3.bY fun _=>D3.len0 rfl)
   have d_may_have:D3.Dg (L2.KOf KX) mg "may_have" (K44.top 36) ["stays", "rooms", "now", "who", "room"]:=by
    dsimp only [L2.KOf]
    refine' D3.eF KX G ?b ?a ?l ?c ?k
    (case a=>k_is);(case l=>k_is);(case c=>k_is);(case k=>k_is)
    (case b=>exact fun _ _ _ _ _ _=>D3.bY fun _=>D3.bY fun _=>D3.bY fun _=>D3.bY fun _=>D3.bY fun _=>D3.len0 rfl)
   have d_rooms_for:D3.Dg (L2.KOf KX) mg "rooms_for" (K44.top 37) ["stays", "rooms", "now", "who"]:=by
    dsimp only [L2.KOf]
    refine' D3.eF KX G ?b ?a ?l ?c ?k
    (case a=>k_is);(case l=>k_is);(case c=>k_is);(case k=>k_is)
    (case b=>exact fun _ _ _ _ _ _=>D3.bY fun _=>D3.bY fun _=>D3.bY fun _=>D3.bY fun _=>D3.len0 rfl)
   have d__law_cell:D3.Dg (L2.KOf KX) mg "_law_cell" (K44.top 39) ["_law_script", "_law_at"]:=by
    dsimp only [L2.KOf]
    refine' D3.eF KX G ?b ?a ?l ?c ?k
    (case a=>k_is);(case l=>k_is);(case c=>k_is);(case k=>k_is)
    (case b=>exact fun _ _ _ _ _ _=>D3.bY fun _=>D3.bY fun _=>D3.len0 rfl)
   have d__law_part:D3.Dg (L2.KOf KX) mg "_law_part" (K44.top 40) ["_law_script", "_law_at", "_law_k", "_law_many"]:=by
    dsimp only [L2.KOf]
    refine' D3.eF KX G ?b ?a ?l ?c ?k
    (case a=>k_is);(case l=>k_is);(case c=>k_is);(case k=>k_is)
    (case b=>exact fun _ _ _ _ _ _=>D3.bY fun _=>D3.bY fun _=>D3.bY fun _=>D3.bY fun _=>D3.len0 rfl)
   have d__law_whole:D3.Dg (L2.KOf KX) mg "_law_whole" (K44.top 41) ["_law_found"]:=by
    dsimp only [L2.KOf]
    refine' D3.eF KX G ?b ?a ?l ?c ?k
    (case a=>k_is);(case l=>k_is);(case c=>k_is);(case k=>k_is)
    (case b=>exact fun _ _ _ _ _ _=>D3.bY fun _=>D3.len0 rfl)
   have d__law_stay:D3.Dg (L2.KOf KX) mg "_law_stay" (K44.top 42) ["_law_script", "_law_at", "_law_turn", "_law_mode", "_law_now_here"]:=by
    dsimp only [L2.KOf]
    refine' D3.eF KX G ?b ?a ?l ?c ?k
    (case a=>k_is);(case l=>k_is);(case c=>k_is);(case k=>k_is)
    (case b=>exact fun _ _ _ _ _ _=>D3.bY fun _=>D3.bY fun _=>D3.bY fun _=>D3.bY fun _=>D3.bY fun _=>D3.len0 rfl)
   have d__law_guest:D3.Dg (L2.KOf KX) mg "_law_guest" (K44.top 43) ["_law_script", "_law_at", "_law_turn", "_law_now_here", "_law_room"]:=by
    dsimp only [L2.KOf]
    refine' D3.eF KX G ?b ?a ?l ?c ?k
    (case a=>k_is);(case l=>k_is);(case c=>k_is);(case k=>k_is)
    (case b=>exact fun _ _ _ _ _ _=>D3.bY fun _=>D3.bY fun _=>D3.bY fun _=>D3.bY fun _=>D3.bY fun _=>D3.len0 rfl)
   have d__law_full:D3.Dg (L2.KOf KX) mg "_law_full" (K44.top 44) ["_law_stays_here", "_law_rooms", "_law_now_here"]:=by
    dsimp only [L2.KOf]
    refine' D3.eF KX G ?b ?a ?l ?c ?k
    (case a=>k_is);(case l=>k_is);(case c=>k_is);(case k=>k_is)
    (case b=>exact fun _ _ _ _ _ _=>D3.bY fun _=>D3.bY fun _=>D3.bY fun _=>D3.len0 rfl)
   have d__law_now:D3.Dg (L2.KOf KX) mg "_law_now" (K44.top 45) ["_law_script"]:=by
    dsimp only [L2.KOf]
    refine' D3.eF KX G ?b ?a ?l ?c ?k
    (case a=>k_is);(case l=>k_is);(case c=>k_is);(case k=>k_is)
    (case b=>exact fun _ _ _ _ _ _=>D3.bY fun _=>D3.len0 rfl)
   have d__law_stays:D3.Dg (L2.KOf KX) mg "_law_stays" (K44.top 46) ["_law_script", "_law_rooms", "_law_now_here", "_law_most"]:=by
    dsimp only [L2.KOf]
    refine' D3.eF KX G ?b ?a ?l ?c ?k
    (case a=>k_is);(case l=>k_is);(case c=>k_is);(case k=>k_is)
    (case b=>exact fun _ _ _ _ _ _=>D3.bY fun _=>D3.bY fun _=>D3.bY fun _=>D3.bY fun _=>D3.len0 rfl)
   have d__law_plan:D3.Dg (L2.KOf KX) mg "_law_plan" (K44.top 47) ["_law_script", "_law_at", "_law_stays_here", "_law_rooms"]:=by
    dsimp only [L2.KOf]
    refine' D3.eF KX G ?b ?a ?l ?c ?k
    (case a=>k_is);(case l=>k_is);(case c=>k_is);(case k=>k_is)
    (case b=>exact fun _ _ _ _ _ _=>D3.bY fun _=>D3.bY fun _=>D3.bY fun _=>D3.bY fun _=>D3.len0 rfl)
   have d__law_begin:D3.Dg (L2.KOf KX) mg "_law_begin" (K44.top 48) ["_law_stays_here", "_law_now_here", "_law_room"]:=by
    dsimp only [L2.KOf]
    refine' D3.eF KX G ?b ?a ?l ?c ?k
    (case a=>k_is);(case l=>k_is);(case c=>k_is);(case k=>k_is)
    (case b=>exact fun _ _ _ _ _ _=>D3.bY fun _=>D3.bY fun _=>D3.bY fun _=>D3.len0 rfl)
   have d__law_next:D3.Dg (L2.KOf KX) mg "_law_next" (K44.top 49) ["_law_stays_here", "_law_rooms", "_law_who", "_law_night"]:=by
    dsimp only [L2.KOf]
    refine' D3.eF KX G ?b ?a ?l ?c ?k
    (case a=>k_is);(case l=>k_is);(case c=>k_is);(case k=>k_is)
    (case b=>exact fun _ _ _ _ _ _=>D3.bY fun _=>D3.bY fun _=>D3.bY fun _=>D3.bY fun _=>D3.len0 rfl)
   have d__law_reaches:D3.Dg (L2.KOf KX) mg "_law_reaches" (K44.top 50) ["_law_stays_here", "_law_rooms", "_law_now_here", "_law_who", "_law_room"]:=by
    dsimp only [L2.KOf]
    refine' D3.eF KX G ?b ?a ?l ?c ?k
    (case a=>k_is);(case l=>k_is);(case c=>k_is);(case k=>k_is)
    (case b=>exact fun _ _ _ _ _ _=>D3.bY fun _=>D3.bY fun _=>D3.bY fun _=>D3.bY fun _=>D3.bY fun _=>D3.len0 rfl)
   have d__law_told:D3.Dg (L2.KOf KX) mg "_law_told" (K44.top 51) ["_law_stays_here", "_law_rooms", "_law_now_here", "_law_who", "_law_due"]:=by
    dsimp only [L2.KOf]
    refine' D3.eF KX G ?b ?a ?l ?c ?k
    (case a=>k_is);(case l=>k_is);(case c=>k_is);(case k=>k_is)
    (case b=>exact fun _ _ _ _ _ _=>D3.bY fun _=>D3.bY fun _=>D3.bY fun _=>D3.bY fun _=>D3.bY fun _=>D3.len0 rfl)
   have d_law:D3.Dl (L2.KOf KX) mg "law" "_law_script" (K44.top 52):=by
    dsimp only [L2.KOf]
    refine' D3.S5 KX G ?b ?a ?l ?c ?k
    (case a=>k_is);(case l=>k_is);(case c=>k_is);(case k=>k_is)
    (case b=>exact fun _ _ _ _ _ _ u=>rfl)
   have ju:mg "len" = none:=by
    refine' PySem.W.mg_none_of KX G ?z
    (case z=>k_is)
   have b_range:mg "range" = none:=by
    refine' PySem.W.mg_none_of KX G ?z
    (case z=>k_is)
   have b_abs:mg "abs" = none:=by
    refine' PySem.W.mg_none_of KX G ?z
    (case z=>k_is)
   have b_isinstance:mg "isinstance" = none:=by
    refine' PySem.W.mg_none_of KX G ?z
    (case z=>k_is)
   have b_int:mg "int" = none:=by
    refine' PySem.W.mg_none_of KX G ?z
    (case z=>k_is)
   have b_bool:mg "bool" = none:=by
    refine' PySem.W.mg_none_of KX G ?z
    (case z=>k_is)
   have b_tuple:mg "tuple" = none:=by
    refine' PySem.W.mg_none_of KX G ?z
    (case z=>k_is)
   have b_list:mg "list" = none:=by
    refine' PySem.W.mg_none_of KX G ?z
    (case z=>k_is)
   have b_str:mg "str" = none:=by
    refine' PySem.W.mg_none_of KX G ?z
    (case z=>k_is)
   have b_max:mg "max" = none:=by
    refine' PySem.W.mg_none_of KX G ?z
    (case z=>k_is)
   have b_min:mg "min" = none:=by
    refine' PySem.W.mg_none_of KX G ?z
    (case z=>k_is)
   have b_sorted:mg "sorted" = none:=by
    refine' PySem.W.mg_none_of KX G ?z
    (case z=>k_is)
   have Nm:mg "sum" = none:=by
    refine' PySem.W.mg_none_of KX G ?z
    (case z=>k_is)
   have b_reversed:mg "reversed" = none:=by
    refine' PySem.W.mg_none_of KX G ?z
    (case z=>k_is)
   have b_enumerate:mg "enumerate" = none:=by
    refine' PySem.W.mg_none_of KX G ?z
    (case z=>k_is)
   have b_zip:mg "zip" = none:=by
    refine' PySem.W.mg_none_of KX G ?z
    (case z=>k_is)
   have b_set:mg "set" = none:=by
    refine' PySem.W.mg_none_of KX G ?z
    (case z=>k_is)
   have b_any:mg "any" = none:=by
    refine' PySem.W.mg_none_of KX G ?z
    (case z=>k_is)
   have Dr:mg "all" = none:=by
    refine' PySem.W.mg_none_of KX G ?z
    (case z=>k_is)
   have b_dict:mg "dict" = none:=by
    refine' PySem.W.mg_none_of KX G ?z
    (case z=>k_is)
   have c_NIGHTS:∃ t,mg "NIGHTS" = some (.int 400 t):=by
    refine' ⟨?t_NIGHTS,PySem.W.mg_of KX G ?z⟩
    (case z=>rfl)
   exact ⟨d_is_whole,d_all_whole,d_is_tuple_of,d_is_pair,d_is_stretch,d_nights_of,d_holds,d_count_at,d_firsts,d_fuller,d_is_stay,d_check_stays,d_check_full,d_still_to_come,d_beginnings,d_first_free,d_filled,d_check_who,d_check_room,d_is_tight,d_goes_ahead,d_steps_from,d_nights_reached,d_chain_to,d_plan_with,d_may_have,d_rooms_for,d__law_cell,d__law_part,d__law_whole,d__law_stay,d__law_guest,d__law_full,d__law_now,d__law_stays,d__law_plan,d__law_begin,d__law_next,d__law_reaches,d__law_told,d_law,⟨ju,b_range,b_abs,b_isinstance,b_int,b_bool,b_tuple,b_list,b_str,b_max,b_min,b_sorted,Nm,b_reversed,b_enumerate,b_zip,b_set,b_any,Dr,b_dict⟩,c_NIGHTS⟩
  obtain ⟨f,fd,F,b,m⟩:=T.d_law.ex
  have e0:=hmg.symm.trans m
  cases e0
  exact ⟨fd,b,fun base kb nb=>K44.Ru T F⟩
 case S=>exact fun K H a ns hl hO hS=>⟨a,ns,hO,rfl,hS,hl,fun _=>rfl⟩
 case C=>exact fun _ _ _ _ z=>z
