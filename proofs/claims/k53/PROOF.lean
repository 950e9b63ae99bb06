import PyProof.Rows.All
import Wide.All
import OpenK.AllK
import Wide.FinOn
import Lean
import PyProof.EqAt
import PyProof.EqKinds
import PyProof.TupleCall
import PyProof.EqLayable
import PySem.Challenge.RW_nightbook_k53_whole_best_by_its_paper
set_option Elab.async false
set_option linter.all false
set_option maxRecDepth 100000
set_option maxHeartbeats 4000000
set_option exponentiation.threshold 40000
open List renaming getD_eq_getElem?_getD→aG,mem_cons_of_mem→aJ,replicate→aK,getElem?_set_ne→aL,mem_cons_self→aN,getElem?_eq_getElem→aO,length_replicate→aQ,length_map→aU,range→aZ,getElem?_map→bf,map_cons→bx,mem_append_right→bB,size_toArray→bD,getElem?_set_self→bH,mem_range→bI,getElem?_eq_none→bK,length_set→bM,mem_cons→bQ,mem_singleton→bW,all_eq_true→bY,map_map→bZ,getElem?_eq_some_iff→cg,getElem?_append_left→cj,replicate_succ→cA,sum_cons→cC,nodup_cons→cG,length_range→cH,length_append→cI,mem_map→cN,getElem?_append_right→cR,getElem?_replicate→cT,mem_append→cV,lookup_cons→dw,mem_append_left→dX,length_cons→dY,getElem_mem→dZ,flatten_cons→eH,getElem?_range→eY,map_append→fQ,mem_filter→gG,mem_of_getElem?→gM,getElem?_mapIdx→gO,nodup_append→gP,length_reverse→iz,filter_cons_of_pos→iB,filter_cons_of_neg→iD,getElem?_drop→iV,append_nil→i_,foldl_cons→jc,ext_getElem?→ju,map_congr_left→jG,filterMap_cons_none→jK,filterMap_cons_some→jL,length_nil→jO,reverse_cons→jZ,getElem?_set→j4,eraseIdx_eq_take_drop_succ→kI,not_mem_nil→kW,filterMap_cons→lF,mem_filterMap→lW,set_cons_succ→lX,map_replicate→lY,drop_eq_getElem_cons→mJ,getElem?_zip_eq_some→mK,getElem?_take_of_lt→mZ,eq_of_mem_replicate→m7,length_take→nH,filter_cons→nJ,drop_eq_nil_of_le→nW,take_of_length_le→nY,drop_of_length_le→nZ,pairwise_lt_range→n6,of_mem_zip→oJ,nil_append→oK,length_singleton→oO,length_filter_le→oR,getElem?_of_mem→oW,mem_iff_getElem→oX,set_cons_zero→pW,append_assoc→ql,map_nil→qm,map_set→qw,map_id'→qx,foldl→ug
open Nat renaming reduceLeDiff→aj,reduceEqDiff→ak,reduceAdd→aq,reduceLT→aA,le_refl→bG,lt_of_lt_of_le→bN,ne_of_lt→cL,le_trans→dB,zero_add→gQ,zero_le→iJ,lt_irrefl→jJ,lt_succ_self→kO,le_of_lt→qj,lt_or_ge→qp
open Int renaming reduceEq→aB,reduceLT→aC,reduceLE→aD,toNat_natCast→bJ,toNat_of_nonneg→dO,emod_lt_of_pos→gk,le_refl→iK,emod_nonneg→je,zero_add→j5,mul_zero→lH,reduceAdd→pK,sub_zero→qt,zero_mul→qu
open Option renaming bind_some→aH,some→dH,map_some→gH
open Bool renaming and_eq_true→aR,false_ne_true→bC,and_eq_true_iff→cF,not_true→iu,or_eq_true→jd,not_false→jA,eq_iff_iff→lB,false_and→lU,true_and→pL
open Array renaming length_toList→pJ
theorem dTr {p:Prop} [Decidable p] (h:p):decide p=true:=decide_eq_true h
theorem dFa {p:Prop} [Decidable p] (h:¬ p):decide p=false:=decide_eq_false h
theorem lMp {α β:Type} {f:α→β} {l:List α}:(l.map f).length=l.length:=aU f

namespace L2
open PySem PySem.Spec PyProof.Rows
noncomputable abbrev Key:=Sum Int Str
noncomputable def Lg:Key→Value→Bool
 | .inl k,v=>Value.isInt k v
 | .inr x,v=>Value.isStrOf x v
noncomputable def Sx (w:World):Key→Int
 | .inl k=>hashInt k
 | .inr x=>hashStr w x
theorem gR:∀ {k:Key} {v:Value},Lg k v=true→(∃ i t,k=Sum.inl i∧v=Value.int i t)∨(∃ x t,k=Sum.inr x∧v=Value.str x t)
 | .inl i,v,h=>by
  obtain ⟨t,e⟩:=Value.isInt_shape (k:=i) (v:=v) h
  exact .inl ⟨i,t,rfl,e⟩
 | .inr x,v,h=>by
  obtain ⟨t,e⟩:=Value.isStrOf_shape (x:=x) (v:=v) h
  exact .inr ⟨x,t,rfl,e⟩
theorem Ma (a b:Int):decide ((Sum.inl a:Key)=Sum.inl b)=(a == b):=by
 by_cases e:a=b
 ·subst e;simp
 ·have h:¬ (Sum.inl a:Key)=Sum.inl b:=fun q=>e (Sum.inl.inj q)
  rw [dFa h]
  exact (beq_eq_false_iff_ne.mpr e).symm
theorem Mf (a b:Str):decide ((Sum.inr a:Key)=Sum.inr b)=decide (a=b):=by
 by_cases e:a=b
 ·subst e;simp
 ·have h:¬ (Sum.inr a:Key)=Sum.inr b:=fun q=>e (Sum.inr.inj q)
  rw [dFa h,dFa e]
theorem Mg (a:Int) (b:Str):decide ((Sum.inl a:Key)=Sum.inr b)=false:=dFa (fun q=>nomatch q)
theorem Mh (a:Str) (b:Int):decide ((Sum.inr a:Key)=Sum.inl b)=false:=dFa (fun q=>nomatch q)
noncomputable def BW (prog:Program) (w:World):PySem.KeyKind prog w Key where
 is:=Lg
 hash:=Sx w
 inj:=fun v a b ha hb=>by
  rcases gR ha with ⟨i,t,rfl,rfl⟩ | ⟨x,t,rfl,rfl⟩
  ·rcases gR hb with ⟨j,u,rfl,e⟩ | ⟨y,u,rfl,e⟩
   ·injection e with e1 _;rw [e1]
   ·exact nomatch e
  ·rcases gR hb with ⟨j,u,rfl,e⟩ | ⟨y,u,rfl,e⟩
   ·exact nomatch e
   ·injection e with e1 _;rw [e1]
 byValue:=fun k v h=>by
  rcases gR h with ⟨i,t,rfl,rfl⟩ | ⟨x,t,rfl,rfl⟩ <;> rfl
 pyHash:=fun hv h=>by
  rcases gR hv with ⟨i,t,rfl,rfl⟩ | ⟨x,t,rfl,rfl⟩
  ·exact wpAny_pyHash_int h
  ·exact wpAny_pyHash_str h
 eqBool:=fun hu hv h=>by
  rcases gR hu with ⟨i,t,rfl,rfl⟩ | ⟨x,t,rfl,rfl⟩
  ·rcases gR hv with ⟨j,u,rfl,rfl⟩ | ⟨y,u,rfl,rfl⟩
   ·rw [Ma] at h;exact wpAny_eqBool_int h
   ·rw [Mg] at h;exact SeqAt.EqAt.int_str i t y u _ _ _ _ h
  ·rcases gR hv with ⟨j,u,rfl,rfl⟩ | ⟨y,u,rfl,rfl⟩
   ·rw [Mh] at h;exact SeqAt.EqAt.str_int x t j u _ _ _ _ h
   ·rw [Mf] at h;exact wpAny_eqBool_str h
 «strs»:=fun k x t v h=>by
  rcases gR h with ⟨i,u,rfl,e⟩ | ⟨y,u,rfl,e⟩
  ·exact nomatch e
  ·injection e with e1 _
   subst e1
   cases v <;> rfl
end L2
namespace L2
open PySem PySem.Spec PyProof.Rows
inductive V where
 | non | bl (b:Bool) | int (i:Int) | str (x:Str) | byt (b:Array UInt8) | flt (b:UInt64) | ref (a:Addr) | ty (n:String)
 deriving DecidableEq
noncomputable def RelV:V→Value→Prop
 | .non,u=>u=Value.none
 | .bl b,u=>u=Value.bool b
 | .int i,u=>∃ t,u=Value.int i t
 | .str x,u=>∃ t,u=Value.str x t
 | .byt b,u=>∃ t,u=Value.bytes b t
 | .flt b,u=>∃ t,u=Value.float b t
 | .ref a,u=>u=Value.ref a
 | .ty n,u=>u=Value.type n
noncomputable abbrev Vals:List V→List Value→Prop:=Paired RelV
theorem Vals.length {xs:List V} {us:List Value} (r:Vals xs us):xs.length=us.length:=Paired.length r
theorem Vals.get:∀ {xs:List V} {us:List Value} {i:Nat} {x:V},Vals xs us→xs[i]? = some x→∃ u,us[i]? = some u∧RelV x u
 | _,_,_,_,.nil,e=>by simp at e
 | _,_,0,_,.cons r _,e=>by simp at e;subst e;exact ⟨_,rfl,r⟩
 | _,_,i + 1,x,.cons _ t,e=>by
  obtain ⟨u,h1,h2⟩:=Vals.get (i:=i) (x:=x) t (by simpa using e)
  exact ⟨u,by simpa using h1,h2⟩
theorem Vals.set {x:V} {u:Value} (r:RelV x u):∀ {xs:List V} {us:List Value} (i:Nat),Vals xs us→Vals (xs.set i x) (us.set i u)
 | _,_,_,.nil=>.nil
 | _,_,0,.cons _ t=>.cons r t
 | _,_,i + 1,.cons q t=>.cons q (Vals.set r i t)
theorem Vals.append:∀ {xs ys:List V} {us ws:List Value},Vals xs us→Vals ys ws→Vals (xs++ys) (us++ws)
 | _,_,_,_,.nil,s=>s
 | _,_,_,_,.cons r t,s=>.cons r (Vals.append t s)
theorem Vals.take:∀ {xs:List V} {us:List Value} (n:Nat),Vals xs us→Vals (xs.take n) (us.take n)
 | _,_,0,_=>.nil
 | _,_,_ + 1,.nil=>.nil
 | _,_,n + 1,.cons r t=>.cons r (Vals.take n t)
theorem Vals.drop:∀ {xs:List V} {us:List Value} (n:Nat),Vals xs us→Vals (xs.drop n) (us.drop n)
 | _,_,0,r=>r
 | _,_,_ + 1,.nil=>.nil
 | _,_,n + 1,.cons _ t=>Vals.drop n t
noncomputable def Mi:Option V→Option Value→Prop
 | some v,some u=>RelV v u
 | none,none=>True
 | _,_=>False
noncomputable def KV {κ:Type}:List (κ × V)→List (κ × Value)→Prop:=Paired fun (p:κ × V) (q:κ × Value)=>p.1=q.1∧RelV p.2 q.2
noncomputable def kV:Key→V
 | .inl i=>.int i
 | .inr x=>.str x
inductive HO where
 /-- a list -/
 | lst (xs:List V)
 /-- a tuple (never changes) -/
 | tup (xs:List V)
 /-- a dict whose keys are ints and texts;one whose keys are tuples of ints and texts (the empty one is both) -/
 | dK (kvs:List (Key × V)) | dT (kvs:List (List Key × V))
 /-- a set of ints: its members,its size -/
 | set (S:Int→Bool) (n:Nat)
 /-- an instance of the class at C,its dict at dx,its attributes -/
 | ins (C dx:Addr) (fs:List (Str × V))
 /-- the dict of the instance at x -/
 | own (x:Addr)
 /-- the dict of an exception -/
 | xd (fs:List (Str × V))
 /-- a bound method,f of x -/
 | met (f x:Addr)
 /-- a range object lo,lo + 1,.. below hi -/
 | rng (lo hi:Int)
 /-- a thing that is known to the object (the script;a dict while a loop walks it): read,never written while it is so -/
 | frz (o:Obj) (u:HO)
 /-- a code object's table -/
 | tbl (q:Str) (p:Pos)
 /-- any other thing,by what is true of its one object (a def of one's own: SetO a S n:=HO.ext fun h=>..) -/
 | ext (φ:Heap→Prop)
noncomputable abbrev Hp:=Addr→Option HO
noncomputable def upd (H:Hp) (a:Addr) (o:HO):Hp:=fun b=>if b=a then some o else H b
theorem fH {H:Hp} {a:Addr} {o:HO}:upd H a o a=some o:=by unfold upd;rw [if_pos rfl]
theorem dG {H:Hp} {a b:Addr} {o:HO} (h:b ≠ a):upd H a o b=H b:=by unfold upd;rw [if_neg h]
theorem Fq {H:Hp} {a b:Addr} {o u:HO} (h:H a=some o) (h':H b=some u) (d:o ≠ u):a ≠ b:=by
 intro e;subst e;rw [h] at h';exact d (dH.inj h')
theorem kY {H:Hp} {a b:Addr} {o:HO} (h:H a=some o) (h':H b=none):a ≠ b:=by
 intro e;subst e;rw [h] at h';cases h'
section
variable (P:Program) (w:World)
noncomputable def jV (H:Hp) (h:Heap) (a:Addr):HO→Prop
 | .lst xs=>xs.length ≤ sizeLine∧∃ (its:List Value) (n:Nat),Vals xs its∧h.get? a=some { cls:=.type "list", data:=.seq its.toArray n }
 | .tup xs=>xs.length ≤ sizeLine∧∃ its:List Value,Vals xs its∧IsTup h a its.toArray
 | .dK kvs=>kvs.length ≤ sizeLine∧(a == sysModules)=false∧∃ vs,KV kvs vs∧h.DictOf (BW P w) a vs
 | .dT kvs=>kvs.length ≤ sizeLine∧(a == sysModules)=false∧∃ xs:List (List Key × Addr × Value),
  Paired (fun (p:List Key × V) (q:List Key × Addr × Value)=>p.1=q.1∧H q.2.1=some (.tup (p.1.map kV))∧RelV p.2 q.2.2) kvs xs ∧
  ∃ o es ep,h.get? a=some o∧o.ExactDict∧o.data = .dict es ep∧es.toList=xs.map (entryOfKey (tupleKind (BW P w)))∧(xs.map (·.1)).Nodup
 | .set S n=>h.SetOf (intKind P w) a S n
 | .ins C dx fs=>H dx=some (.own a)∧fs.length ≤ 1000∧dx ≠ a∧h.get? a=some (PySem.W.instObj C dx) ∧
  ∃ mA,h.Ns1 dx mA∧(∀ f,Mi (fs.lookup f) (mA f))∧PySem.Within mA (fs.map (·.1))
 | .own _=>∃ o,h.get? a=some o
 | .xd fs=>∃ mA,h.Ns1 a mA∧∀ f,Mi (fs.lookup f) (mA f)
 | .rng lo hi=>∃ t u v,h.get? a=some { cls:=.type "range", data:=.fields #[.int lo t,.int hi u,.int 1 v] }
 | .frz o u=>h.get? a=some o∧jV H h a u
 | .tbl q p=>∃ ps,h.get? a=some { cls:=.none,data:=.fields ps }∧(ps = #[]∨∃ c',ps = #[rawInt p.line,rawInt p.col,.ref c']∧H c'=some (.own a)∧h.CodeRec (.ref c') q)
 | .met f x=>h.get? a=some (PySem.W.methodObj (.ref f) (.ref x))
 | .ext φ=>φ h∧(∃ o,h.get? a=some o)∧∀ h1 h2:Heap,φ h1→(∀ o,h1.get? a=some o→h2.get? a=some o)→φ h2
noncomputable def HOk (H:Hp) (h:Heap):Prop:=∀ a o,H a=some o→jV P w H h a o
end
section
variable {P:Program} {w:World} {H H':Hp} {h h':Heap} {a:Addr} {o:HO}
theorem jV.lt (x:jV P w H h a o):a < h.objs.size:=by
 cases o with
 | lst xs=>obtain ⟨_,_,_,_,e⟩:=x;exact Heap.lt_size e
 | tup xs=>obtain ⟨_,_,_,p⟩:=x;exact p.lt
 | dK kvs=>obtain ⟨_,_,_,_,o,_,_,e,_⟩:=x;exact Heap.lt_size e
 | dT kvs=>obtain ⟨_,_,_,_,o,_,_,e,_⟩:=x;exact Heap.lt_size e
 | set S n=>obtain ⟨o,_,_,_,e,_⟩:=x;exact Heap.lt_size e
 | ins C dx fs=>obtain ⟨_,_,_,e,_⟩:=x;exact Heap.lt_size e
 | own y=>obtain ⟨_,e⟩:=x;exact Heap.lt_size e
 | xd fs=>obtain ⟨_,⟨_,_,_,e,_⟩,_⟩:=x;exact Heap.lt_size e
 | rng lo hi=>obtain ⟨_,_,_,e⟩:=x;exact Heap.lt_size e
 | frz ob u=>obtain ⟨e,_⟩:=x;exact Heap.lt_size e
 | tbl q p=>obtain ⟨_,e,_⟩:=x;exact Heap.lt_size e
 | met f y=>exact Heap.lt_size (show h.get? a=some _ from x)
 | ext φ=>obtain ⟨_,⟨_,e⟩,_⟩:=x;exact Heap.lt_size e
theorem Paired.mapP {α β:Type} {F G:α→β→Prop}:∀ {l₁:List α} {l₂:List β},Paired F l₁ l₂→(∀ a b,F a b→G a b)→Paired G l₁ l₂
 | _,_,.nil,_=>.nil
 | _,_,.cons r t,f=>.cons (f _ _ r) (Paired.mapP t f)
theorem jV.stay (x:jV P w H h a o) (k:∀ b u,(b=a∨H b=some (.own a))→h.get? b=some u→h'.get? b=some u)
 (ho:∀ b,H b=some (.own a)→H' b=some (.own a)) (ht:∀ b xs,H b=some (.tup xs)→H' b=some (.tup xs)):jV P w H' h' a o:=by
 induction o with
 | lst xs=>obtain ⟨z,its,n,r,e⟩:=x;exact ⟨z,its,n,r,k _ _ (.inl rfl) e⟩
 | tup xs=>obtain ⟨z,its,r,ob,e,c⟩:=x;exact ⟨z,its,r,ob,k _ _ (.inl rfl) e,c⟩
 | dK kvs=>obtain ⟨z,y,vs,r,ob,es,ep,e,c⟩:=x;exact ⟨z,y,vs,r,ob,es,ep,k _ _ (.inl rfl) e,c⟩
 | dT kvs =>
  obtain ⟨z,y,xs,r,ob,es,ep,e,c⟩:=x
  exact ⟨z,y,xs,Paired.mapP r fun p q z=>⟨z.1,ht _ _ z.2.1,z.2.2⟩,ob,es,ep,k _ _ (.inl rfl) e,c⟩
 | set S n=>obtain ⟨ob,es,ep,t,e,c⟩:=x;exact ⟨ob,es,ep,t,k _ _ (.inl rfl) e,c⟩
 | ins C dx fs =>
  obtain ⟨d,z,ne,e,mA,⟨od,es,ep,e2,c⟩,r⟩:=x
  exact ⟨ho _ d,z,ne,k _ _ (.inl rfl) e,mA,⟨od,es,ep,k _ _ (.inr d) e2,c⟩,r⟩
 | own y=>obtain ⟨ob,e⟩:=x;exact ⟨ob,k _ _ (.inl rfl) e⟩
 | xd fs=>obtain ⟨mA,⟨od,es,ep,e,c⟩,r⟩:=x;exact ⟨mA,⟨od,es,ep,k _ _ (.inl rfl) e,c⟩,r⟩
 | rng lo hi=>obtain ⟨t,u,v,e⟩:=x;exact ⟨t,u,v,k _ _ (.inl rfl) e⟩
 | frz ob u ih=>obtain ⟨e,q⟩:=x;exact ⟨k _ _ (.inl rfl) e,ih q⟩
 | tbl q p =>
  obtain ⟨ps,e,z⟩:=x
  refine ⟨ps,k a _ (.inl rfl) e,?_⟩
  rcases z with z | ⟨c',z1,z2,z3⟩
  ·exact .inl z
  ·obtain ⟨c,oc,vs,tq,hc,hoc,hdc,hq⟩:=z3
   have hc':c'=c:=by injection hc
   exact .inr ⟨c',z1,ho _ z2,c,oc,vs,tq,hc,k _ _ (.inr (hc' ▸ z2)) hoc,hdc,hq⟩
 | met f y =>
  have e:h.get? a=some (PySem.W.methodObj (.ref f) (.ref y)):=x
  show h'.get? a=some (PySem.W.methodObj (.ref f) (.ref y))
  exact k a _ (.inl rfl) e
 | ext φ=>obtain ⟨p,⟨o,e⟩,st⟩:=x;exact ⟨st _ _ p fun o q=>k _ _ (.inl rfl) q,⟨o,k _ _ (.inl rfl) e⟩,st⟩
theorem HOk.lt (x:HOk P w H h) (e:H a=some o):a < h.objs.size:=(x a o e).lt
theorem HOk.fresh (x:HOk P w H h) (e:h.objs.size ≤ a):H a=none:=by
 cases q:H a with
 | none=>rfl
 | some u=>exact absurd (bN (x.lt q) e) (jJ _)
theorem HOk.kept (x:HOk P w H h) (k:∀ b u,h.get? b=some u→h'.get? b=some u):HOk P w H h':=fun a o e =>
 (x a o e).stay (fun b u _ q=>k b u q) (fun _ q=>q) fun _ _ q=>q
theorem HOk.laid (x:HOk P w H h) (k:∀ b u,h.get? b=some u→h'.get? b=some u) (hp:h.objs.size ≤ a) (new:jV P w (upd H a o) h' a o):HOk P w (upd H a o) h':=fun b u e=>by
 have hn:=x.fresh hp
 by_cases hb:b=a
 ·subst hb;rw [fH] at e;cases e;exact new
 ·rw [dG hb] at e
  exact (x b u e).stay (fun c v _ q=>k c v q) (fun c q=>by rw [dG (kY q hn)];exact q) fun c xs q=>by rw [dG (kY q hn)];exact q
end
noncomputable def Rd (H:Hp) (a:Addr) (u:HO):Prop:=H a=some u∨∃ o,H a=some (.frz o u)
theorem Rd.ok {P:Program} {w:World} {H:Hp} {h:Heap} {a:Addr} {u:HO} (r:Rd H a u) (x:HOk P w H h):jV P w H h a u:=by
 rcases r with r | ⟨o,r⟩
 ·exact x a u r
 ·obtain ⟨_,q⟩:=x a _ r
  exact q
noncomputable def Mut:Option HO→Prop
 | some (.lst _)=>True
 | some (.dK _)=>True
 | some (.dT _)=>True
 | some (.set _ _)=>True
 | some (.ins _ _ _)=>True
 | some (.ext _)=>True
 | _=>False
section
variable {P:Program} {w:World} {H:Hp} {h h':Heap} {x e:Addr} {o':HO}
theorem HOk.write (ok:HOk P w H h) (mu:Mut (H x)) (he:e=x∨H e=some (.own x)) (k:∀ b u,b ≠ e→h.get? b=some u→h'.get? b=some u) (heo:∃ u,h'.get? e=some u)
 (new:jV P w (upd H x o') h' x o'):HOk P w (upd H x o') h':=fun b u q=>by
 have nown:∀ c y,H c=some (.own y)→c ≠ x:=fun c y r z=>by subst z;rw [r] at mu;exact mu
 have ntup:∀ c xs,H c=some (.tup xs)→c ≠ x:=fun c xs r z=>by subst z;rw [r] at mu;exact mu
 by_cases hb:b=x
 ·subst hb;rw [fH] at q;cases q;exact new
 ·rw [dG hb] at q
  by_cases hbe:b=e
  ·have q':H b=some (.own x):=by
    rcases he with z | z
    ·exact absurd (hbe.trans z) hb
    ·rw [hbe];exact z
   rw [q] at q';cases q'
   obtain ⟨v,hv⟩:=heo
   exact ⟨v,by rw [hbe];exact hv⟩
  ·refine (ok b u q).stay (fun c v hc r=>k c v ?_ r) (fun c r=>by rw [dG (nown c b r)];exact r) fun c xs r=>by rw [dG (ntup c xs r)];exact r
   rcases hc with rfl | hc
   ·exact hbe
   ·rintro rfl
    rcases he with z | z
    ·exact nown c b hc z
    ·rw [hc] at z;cases z;exact hb rfl
end
structure Un (fs ex:List Addr) (H H':Hp) (h h':Heap):Prop where
 keep:∀ b o,h.get? b=some o→H b=none→b ∉ fs→b ∉ ex→h'.get? b=some o
 slot:∀ b o,h.get? b=some o→H b=none→b ∈ fs→b ∉ ex→∃ sl,h'.get? b=some { o with slots:=sl }
 free:∀ b o,h.get? b=some o→H b=none→b ∉ ex→H' b=none
 there:∀ b o,h.get? b=some o→b ∉ ex→∃ o',h'.get? b=some o'
 tups:∀ b xs,H b=some (.tup xs)→H' b=some (.tup xs)
 frzs:∀ b o u,H b=some (.frz o u)→H' b=some (.frz o u)
 tbls:∀ b q p,H b=some (.tbl q p)→H' b=some (.tbl q p)
section
variable {fs fs' ex ex':List Addr} {H H1 H2:Hp} {h h1 h2 h':Heap} {a x e:Addr} {o:HO}
theorem Un.any (u:Un fs ex H H1 h h1) {b:Addr} {ob:Obj} (q:h.get? b=some ob) (n:H b=none) (hx:b ∉ ex):∃ sl,h1.get? b=some { ob with slots:=sl }:=by
 by_cases hb:b ∈ fs
 ·exact u.slot b ob q n hb hx
 ·exact ⟨ob.slots,u.keep b ob q n hb hx⟩
theorem Un.kept (k:∀ b u,h.get? b=some u→h'.get? b=some u):Un fs ex H H h h' :=
 ⟨fun b ob q _ _ _=>k b ob q,fun b ob q _ _ _=>⟨ob.slots,k b ob q⟩,fun _ _ _ n _=>n,fun b ob q _=>⟨ob,k b ob q⟩,fun _ _ q=>q,fun _ _ _ q=>q,fun _ _ _ q=>q⟩
theorem Un.refl:Un fs ex H H h h:=Un.kept fun _ _ q=>q
theorem Un.laid (k:∀ b u,h.get? b=some u→h'.get? b=some u) (hp:h.objs.size ≤ a) (hn:H a=none):Un fs ex H (upd H a o) h h' where
 keep:=fun b u q _ _ _=>k b u q
 slot:=fun b u q _ _ _=>⟨u.slots,k b u q⟩
 free:=fun b u q n _=>by rw [dG (cL (bN (Heap.lt_size q) hp))];exact n
 there:=fun b u q _=>⟨u,k b u q⟩
 tups:=fun b xs q=>by rw [dG (kY q hn)];exact q
 frzs:=fun b u xs q=>by rw [dG (kY q hn)];exact q
 tbls:=fun b q p e=>by rw [dG (kY e hn)];exact e
theorem Un.write (mu:Mut (H x)) (he:e=x∨H e=some (.own x)) (k:∀ b u,b ≠ e→h.get? b=some u→h'.get? b=some u) (heo:∃ u,h'.get? e=some u):Un fs ex H (upd H x o) h h':=by
 have hx:∀ b,H b=none→b ≠ x:=fun b n z=>by subst z;rw [n] at mu;exact mu
 have hb:∀ b,H b=none→b ≠ e:=fun b n z=>by
  subst z
  rcases he with r | r
  ·exact hx b n r
  ·rw [n] at r;cases r
 have hm:∀ b u,H b=some u→¬ Mut (some u)→b ≠ x:=fun b u q nm z=>by subst z;rw [q] at mu;exact nm mu
 refine ⟨fun b u q n _ _=>k b u (hb b n) q,fun b u q n _ _=>⟨u.slots,k b u (hb b n) q⟩,fun b u q n _=>by rw [dG (hx b n)];exact n,fun b u q _=>?_,
  fun b xs q=>by rw [dG (hm b _ q fun z=>z)];exact q,fun b u xs q=>by rw [dG (hm b _ q fun z=>z)];exact q,fun b q p e=>by rw [dG (hm b _ e fun z=>z)];exact e⟩
 by_cases hbe:b=e
 ·subst hbe;exact heo
 ·exact ⟨u,k b u hbe q⟩
end
noncomputable def trk (h:Heap) (H:Hp):List Addr:=(aZ h.objs.size).filter fun a=>(H a).isSome
noncomputable def wR (h:Heap) (H:Hp):Heap:=PySem.W.hideAll h (trk h H)
theorem Dv (h:Heap) (H:Hp):(wR h H).objs.size=h.objs.size:=PySem.W.hideAll_size _ _
theorem Fv {h:Heap} {H:Hp} {b:Addr} {o:Obj} (e:h.get? b=some o) (n:H b=none):(wR h H).get? b=some o :=
 PySem.W.hideAll_get _ e fun hm=>by
  have q:(H b).isSome=true:=(gG.mp hm).2
  rw [n] at q;simp at q
theorem IV {h:Heap} {H:Hp} {b:Addr} {o:Obj} (e:(wR h H).get? b=some o):h.get? b=some o∧H b=none:=by
 have e':h.get? b=some o:=PySem.W.of_hideAll (trk h H) e
 refine ⟨e',?_⟩
 cases q:H b with
 | none=>rfl
 | some x =>
  have hm:b ∈ trk h H:=gG.mpr ⟨bI.mpr (Heap.lt_size e'),by simp [q]⟩
  have z:(wR h H).get? b=none:=PySem.W.hideAll_none (trk h H) hm
  rw [z] at e;cases e
end L2
namespace L2
open PySem PySem.Spec PyProof.Rows
structure Mod (K:PySem.W.Frag) (mg:Str→Option Value) (base:Heap):Prop where
 kin:K.In base
 glob:base.Ns mainGlobals mg
 blt:∃ mb,base.Ns builtinsNs mb∧∀ x:Str,x ≠ "__name__" → mb x=bootBuiltins x
 nolimit:base.NoLimit
 bm:∃ bm ob,mg "__builtins__" = some (.ref bm)∧bm ≠ builtinsNs∧base.get? bm=some ob∧ob.cls = .type "module" ∧ ob.dict=some builtinsNs∧ob.data = .plain
structure Cx where
 prog:Program
 w:World
 K:PySem.W.Frag
 mg:Str→Option Value
 base:Heap
 A:Around
 N:List Str
 s₀:Shared
 H₀:Hp
 env:Env
 outer:List Env
 stack:List Env
 ex:List Addr
 fn:Str→Bool
 calm:Bool
 pn:List (Addr × Obj)
 xe:Value→Shared→Prop
noncomputable def frs (l:List Env):List Addr:=l.filterMap (·.frame)
noncomputable abbrev Cx.fs (X:Cx):List Addr:=frs X.outer
noncomputable def Vis (sc:Scope) (x:Str):Prop:=sc.names.lookup x=some .local∨sc.names.lookup x=some .cell∨sc.names.lookup x=some .free
noncomputable def Loc (sc:Scope) (x:Str):Prop:=sc.names.lookup x=some .local∨sc.names.lookup x=some .cell
noncomputable def Look (env:Env) (h:Heap) (m:Str→Option Value) (x:Str) (u:Value):Prop :=
 (env.kindOf x=some .local∧m x=some u)∨((env.kindOf x=some .cell∨env.kindOf x=some .free)∧∃ c,env.cells.lookup x=some c∧h.IsCell c (some u))
structure Cx.Ok (X:Cx):Prop where
 mod:Mod X.K X.mg X.base
 kind:X.env.scope.kind = .function
 glob:X.env.globals=mainGlobals
 blt:X.env.builtins=builtinsNs
 above:X.s₀.heap.objs.size ≤ X.env.locals
 inj:∀ x y c,X.env.cells.lookup x=some c→X.env.cells.lookup y=some c→x=y
 has:∀ x,(X.env.kindOf x=some .cell∨X.env.kindOf x=some .free)→∃ c,X.env.cells.lookup x=some c
 cab:∀ x c,X.fn x=true→X.env.cells.lookup x=some c→X.s₀.heap.objs.size ≤ c
 hd:X.calm=true→X.A.handled=none
 frames:X.A.frames=some X.stack
 stk:X.stack=X.outer∨(X.stack=X.env :: X.outer∧X.env.frame=some X.env.locals)
 exf:∀ b ∈ X.ex,b ≠ X.env.locals∧∀ x c,X.env.cells.lookup x=some c→c ≠ b
 bs:∀ b o,X.base.get? b=some o→X.s₀.heap.get? b=some o∧X.H₀ b=none
 bsz:X.base.objs.size ≤ X.s₀.heap.objs.size
 noex:∀ b o,X.base.get? b=some o→b ∉ X.ex
 exfs:∀ b ∈ X.ex,b ∉ X.fs
 funs:X.s₀.heap.FunFrames X.base X.outer
 frf:∀ b ∈ X.fs,X.H₀ b=none
structure Inv (X:Cx) (pins:List (Addr × Obj)) (σ:List (Option V)) (H:Hp) (s:Shared):Prop where
 ok:X.Ok
 os:s.os=X.s₀.os
 bare:AllBare s.gens
 base:Un X.fs X.ex X.H₀ H X.s₀.heap s.heap
 loc:∃ m,s.heap.Ns X.env.locals m∧∀ (i:Nat) (x:Str) (v:V),X.N[i]? = some x→σ[i]? = some (some v)→Vis X.env.scope x→∃ u,RelV v u∧Look X.env s.heap m x u
 cell:∀ x c,X.env.cells.lookup x=some c→∃ v,s.heap.IsCell c v
 free:H X.env.locals=none
 freeC:∀ x c,X.env.cells.lookup x=some c→H c=none
 pin:∀ p ∈ X.pn++pins,s.heap.get? p.1=some p.2∧H p.1=none∧p.1 ≠ X.env.locals∧p.1 ∉ X.fs∧∀ v,p.2.data ≠ .cell v
 hok:HOk X.prog X.w H s.heap
 len:σ.length=X.N.length
section
variable {X:Cx} {pins:List (Addr × Obj)} {σ:List (Option V)} {H H':Hp} {s:Shared} {h':Heap}
theorem Cx.Ok.nofr (ok:X.Ok) {b:Addr} {o:Obj} (e:X.base.get? b=some o):b ∉ X.fs:=fun hb=>by
 have:=(ok.funs.mem hb).1
 rw [e] at this;cases this
theorem Inv.bs (I:Inv X pins σ H s):∀ b o,X.base.get? b=some o→s.heap.get? b=some o∧H b=none:=fun b o e =>
 ⟨I.base.keep b o (I.ok.bs b o e).1 (I.ok.bs b o e).2 (I.ok.nofr e) (I.ok.noex b o e),I.base.free b o (I.ok.bs b o e).1 (I.ok.bs b o e).2 (I.ok.noex b o e)⟩
theorem Inv.bk (I:Inv X pins σ H s):∀ b o,X.base.get? b=some o→s.heap.get? b=some o:=fun b o e=>(I.bs b o e).1
theorem Inv.mod (I:Inv X pins σ H s):Mod X.K X.mg X.base:=I.ok.mod
theorem Inv.kIn (I:Inv X pins σ H s):X.K.In s.heap:=I.ok.mod.kin.keeps I.bk
theorem Inv.lt (I:Inv X pins σ H s):X.env.locals < s.heap.objs.size:=let ⟨_,hn,_⟩:=I.loc;hn.lt
theorem Inv.sz (I:Inv X pins σ H s):X.s₀.heap.objs.size ≤ s.heap.objs.size:=dB I.ok.above (qj I.lt)
theorem Inv.nofs (I:Inv X pins σ H s) {a:Addr} (h:s.heap.objs.size ≤ a):a ∉ X.fs:=fun hb=>by
 obtain ⟨_,o,ho,_⟩:=I.ok.funs.mem hb
 exact absurd (bN (Heap.lt_size ho) (dB I.sz h)) (jJ _)
theorem Inv.cne (I:Inv X pins σ H s):∀ x c,X.env.cells.lookup x=some c→c ≠ X.env.locals:=fun x c e z=>by
 obtain ⟨v,o,ho,hd⟩:=I.cell x c e
 obtain ⟨m,⟨o',es,ep,ho',hd',_⟩,_⟩:=I.loc
 rw [z,ho'] at ho;cases ho;rw [hd'] at hd;cases hd
theorem Inv.funs (I:Inv X pins σ H s):s.heap.FunFrames X.base X.outer:=by
 have all:∀ (l:List Env),(∀ b ∈ frs l,b ∈ X.fs)→X.s₀.heap.FunFrames X.base l→s.heap.FunFrames X.base l:=by
  intro l
  induction l with
  | nil=>intro _ _;trivial
  | cons env r ih =>
   intro hs hl
   obtain ⟨hk,⟨L,o,hf,hn,ho,hd⟩,hr⟩:=hl
   have hL:L ∈ X.fs:=hs L (by unfold frs;rw [lF,hf];exact aN)
   obtain ⟨sl,e⟩:=I.base.slot L o ho (I.ok.frf L hL) hL fun z=>I.ok.exfs L z hL
   exact ⟨hk,⟨L,_,hf,hn,e,hd⟩,ih (fun b hb=>hs b (by unfold frs;rw [lF,hf];exact aJ _ hb)) hr⟩
 exact all X.outer (fun _ hb=>hb) I.ok.funs
theorem Inv.stack (I:Inv X pins σ H s):s.heap.FunFrames X.base X.stack:=by
 rcases I.ok.stk with e | ⟨e,hf⟩
 ·rw [e];exact I.funs
 ·rw [e]
  obtain ⟨m,hn,_⟩:=I.loc
  refine .cons (by rw [I.ok.kind];decide) hf hn ?_ I.funs
  exact Heap.get?_none_of_le (dB I.ok.bsz I.ok.above)
theorem Inv.stkSub (I:Inv X pins σ H s):∀ b ∈ frs X.stack,b ∈ X.env.locals :: X.fs:=fun b hb=>by
 rcases I.ok.stk with e | ⟨e,hf⟩
 ·rw [e] at hb;exact aJ _ hb
 ·rw [e] at hb
  unfold frs at hb
  rw [lF,hf] at hb
  exact hb
theorem Inv.stkFree (I:Inv X pins σ H s):∀ b ∈ frs X.stack,H b=none:=fun b hb=>by
 rcases bQ.mp (I.stkSub b hb) with e | hb
 ·rw [e];exact I.free
 ·obtain ⟨_,o,ho,_⟩:=I.ok.funs.mem hb
  exact I.base.free b o ho (I.ok.frf b hb) fun z=>I.ok.exfs b z hb
theorem Inv.step {g':Array GenState} {t':Nat} {d':Drawn} {ch:List Addr} (I:Inv X pins σ H s)
 (hch:∀ b ∈ ch,(b ∈ X.ex∨X.s₀.heap.objs.size ≤ b)∧b ≠ X.env.locals∧(∀ x c,X.env.cells.lookup x=some c→c ≠ b)∧∀ p ∈ X.pn++pins,p.1 ≠ b)
 (keep:∀ b o,b ≠ X.env.locals→b ∉ X.fs→b ∉ ch→s.heap.get? b=some o→H b=none→h'.get? b=some o)
 (slot:∀ b o,b ≠ X.env.locals→b ∈ X.fs→b ∉ ch→s.heap.get? b=some o→H b=none→∃ sl,h'.get? b=some { o with slots:=sl }) (free:∀ b o,b ∉ ch→s.heap.get? b=some o→H b=none→H' b=none)
 (there:∀ b o,b ∉ ch→s.heap.get? b=some o→∃ o',h'.get? b=some o')
 (tups:∀ b xs,H b=some (.tup xs)→H' b=some (.tup xs)) (frzs:∀ b o u,H b=some (.frz o u)→H' b=some (.frz o u)) (tbls:∀ b q p,H b=some (.tbl q p)→H' b=some (.tbl q p))
 (ns:∀ m,s.heap.Ns X.env.locals m→h'.Ns X.env.locals m) (hok:HOk X.prog X.w H' h') (hg:AllBare g') :
 Inv X pins σ H' { s with heap:=h',gens:=g',drawn:=d',toks:=t' }:=by
 have neL:∀ b o,X.s₀.heap.get? b=some o→b ≠ X.env.locals:=fun b o e=>cL (bN (Heap.lt_size e) I.ok.above)
 have neC:∀ b o,X.s₀.heap.get? b=some o→b ∉ X.ex→b ∉ ch:=fun b o e hx hb=>by
  rcases (hch b hb).1 with z | z
  ·exact hx z
  ·exact absurd (bN (Heap.lt_size e) z) (jJ _)
 have cellK:∀ x c,X.env.cells.lookup x=some c→∀ v,s.heap.IsCell c v→h'.IsCell c v:=fun x c e v ⟨o,ho,hd⟩=>by
  have nch:c ∉ ch:=fun z=>(hch c z).2.2.1 x c e rfl
  by_cases hc:c ∈ X.fs
  ·obtain ⟨sl,q⟩:=slot c o (I.cne x c e) hc nch ho (I.freeC x c e)
   exact ⟨_,q,hd⟩
  ·exact ⟨o,keep c o (I.cne x c e) hc nch ho (I.freeC x c e),hd⟩
 refine ⟨I.ok,I.os,hg,⟨fun b o e n hb hx=>?_,fun b o e n hb hx=>?_,fun b o e n hx=>?_,fun b o e hx=>?_,fun b xs e=>tups b xs (I.base.tups b xs e),fun b o xs e=>frzs b o xs (I.base.frzs b o xs e),fun b q p e=>tbls b q p (I.base.tbls b q p e)⟩,?_,fun x c e=>?_,?_,fun x c e=>?_,fun p hp=>?_,hok,I.len⟩
 ·exact keep b o (neL b o e) hb (neC b o e hx) (I.base.keep b o e n hb hx) (I.base.free b o e n hx)
 ·obtain ⟨sl,e1⟩:=I.base.slot b o e n hb hx
  obtain ⟨sl',e2⟩:=slot b _ (neL b o e) hb (neC b o e hx) e1 (I.base.free b o e n hx)
  exact ⟨sl',e2⟩
 ·obtain ⟨o',e1⟩:=I.base.there b o e hx
  exact free b o' (neC b o e hx) e1 (I.base.free b o e n hx)
 ·obtain ⟨o',e1⟩:=I.base.there b o e hx
  exact there b o' (neC b o e hx) e1
 ·obtain ⟨m,hn,hl⟩:=I.loc
  refine ⟨m,ns m hn,fun i x v e1 e2 e3=>?_⟩
  obtain ⟨u,r,l⟩:=hl i x v e1 e2 e3
  refine ⟨u,r,?_⟩
  rcases l with l | ⟨k,c,e,z⟩
  ·exact .inl l
  ·exact .inr ⟨k,c,e,cellK x c e _ z⟩
 ·obtain ⟨v,z⟩:=I.cell x c e
  exact ⟨v,cellK x c e v z⟩
 ·obtain ⟨m,⟨o,_,_,ho,_⟩,_⟩:=I.loc
  exact free _ o (fun z=>(hch _ z).2.1 rfl) ho I.free
 ·obtain ⟨v,o,ho,hd⟩:=I.cell x c e
  exact free c o (fun z=>(hch c z).2.2.1 x c e rfl) ho (I.freeC x c e)
 ·obtain ⟨e,n,ne,nf,d⟩:=I.pin p hp
  have nch:p.1 ∉ ch:=fun z=>(hch p.1 z).2.2.2 p hp rfl
  exact ⟨keep p.1 p.2 ne nf nch e n,free p.1 p.2 nch e n,ne,nf,d⟩
theorem Inv.un {t':Nat} (I:Inv X pins σ H s) (u:Un X.fs [] H H' s.heap h') (hok:HOk X.prog X.w H' h'):Inv X pins σ H' { s with heap:=h',toks:=t' }:=by
 obtain ⟨m,⟨o,es,ep,ho,r⟩,_⟩:=id I.loc
 obtain ⟨sl,hL⟩:=u.any ho I.free (by simp)
 exact I.step (g':=s.gens) (d':=s.drawn) (ch:=[]) (fun _ z=>nomatch z) (fun b o _ hb _ e n=>u.keep b o e n hb (by simp)) (fun b o _ hb _ e n=>u.slot b o e n hb (by simp)) (fun b o _ e n=>u.free b o e n (by simp)) (fun b o _ e=>u.there b o e (by simp)) u.tups u.frzs u.tbls (fun m' hm=>by
  obtain ⟨o',es',ep',ho',r'⟩:=hm
  rw [ho] at ho';cases ho'
  exact ⟨_,es',ep',hL,r'⟩) hok I.bare
theorem Inv.call {g':Array GenState} {t':Nat} {d':Drawn} {ch:List Addr} (I:Inv X pins σ H s) (u:Un (frs X.stack) ch H H' s.heap h') (hok:HOk X.prog X.w H' h') (hg:AllBare g')
 (hch:∀ b ∈ ch,(b ∈ X.ex∨X.s₀.heap.objs.size ≤ b)∧b ≠ X.env.locals∧(∀ x c,X.env.cells.lookup x=some c→c ≠ b)∧∀ p ∈ X.pn++pins,p.1 ≠ b) :
 Inv X pins σ H' { s with heap:=h',gens:=g',drawn:=d',toks:=t' }:=by
 obtain ⟨m,⟨o,es,ep,ho,r⟩,_⟩:=id I.loc
 obtain ⟨sl,hL⟩:=u.any ho I.free fun z=>(hch _ z).2.1 rfl
 exact I.step (ch:=ch) hch (fun b o hL hb hc e n=>u.keep b o e n (fun z=>(bQ.mp (I.stkSub b z)).elim hL hb) hc) (fun b o _ _ hc e n=>u.any e n hc) (fun b o hc e n=>u.free b o e n hc) (fun b o hc e=>u.there b o e hc) u.tups u.frzs u.tbls (fun m' hm=>by
  obtain ⟨o',es',ep',ho',r'⟩:=hm
  rw [ho] at ho';cases ho'
  exact ⟨_,es',ep',hL,r'⟩) hok hg
theorem Inv.turned {t':Nat} {it:Addr} (I:Inv X pins σ H s) (k:∀ b o,b ≠ it→s.heap.get? b=some o→h'.get? b=some o) (hn:H it=none) (hL:it ≠ X.env.locals)
 (h1:it ∈ X.ex∨X.s₀.heap.objs.size ≤ it) (h2:∀ x c,X.env.cells.lookup x=some c→c ≠ it) (h3:∀ p ∈ X.pn++pins,p.1 ≠ it):Inv X pins σ H { s with heap:=h',toks:=t' }:=by
 have nit:∀ b u,H b=some u→b ≠ it:=fun b u e z=>by rw [z,hn] at e;cases e
 refine I.step (g':=s.gens) (d':=s.drawn) (ch:=[it]) (fun b hb=>?_) (fun b o _ _ hc e _=>k b o (fun z=>hc (by simp [z])) e) (fun b o _ _ hc e _=>⟨o.slots,k b o (fun z=>hc (by simp [z])) e⟩) (fun _ _ _ _ n=>n)
  (fun b o hc e=>⟨o,k b o (fun z=>hc (by simp [z])) e⟩) (fun _ _ e=>e) (fun _ _ _ e=>e) (fun _ _ _ e=>e) (fun m hm=>?_) (fun b u e=>?_) I.bare
 ·have e:b=it:=by simpa using hb
  subst e
  exact ⟨h1,hL,h2,h3⟩
 ·obtain ⟨o,es,ep,ho,r⟩:=hm
  exact ⟨o,es,ep,k _ o (Ne.symm hL) ho,r⟩
 ·refine (I.hok b u e).stay (fun c v hc q=>k c v ?_ q) (fun _ q=>q) fun _ _ q=>q
  rcases hc with z | z
  ·rw [z];exact nit b u e
  ·exact nit c _ z
theorem Inv.tok (I:Inv X pins σ H s) (t:Nat):Inv X pins σ H { s with toks:=t }:=I.un (h':=s.heap) (t':=t) Un.refl I.hok
theorem Inv.kept {t':Nat} (I:Inv X pins σ H s) (k:∀ b u,s.heap.get? b=some u→h'.get? b=some u):Inv X pins σ H { s with heap:=h',toks:=t' }:=I.un (Un.kept k) (I.hok.kept k)
theorem Inv.laid {a:Addr} {o:HO} {t':Nat} (I:Inv X pins σ H s) (k:∀ b u,s.heap.get? b=some u→h'.get? b=some u) (hp:s.heap.objs.size ≤ a) (new:jV X.prog X.w (upd H a o) h' a o) :
 Inv X pins σ (upd H a o) { s with heap:=h',toks:=t' }:=I.un (Un.laid k hp (I.hok.fresh hp)) (I.hok.laid k hp new)
theorem Inv.write {x e:Addr} {o:HO} {t':Nat} (I:Inv X pins σ H s) (mu:Mut (H x)) (he:e=x∨H e=some (.own x)) (k:∀ b u,b ≠ e→s.heap.get? b=some u→h'.get? b=some u) (heo:∃ u,h'.get? e=some u)
 (new:jV X.prog X.w (upd H x o) h' x o):Inv X pins σ (upd H x o) { s with heap:=h',toks:=t' }:=I.un (Un.write mu he k heo) (I.hok.write mu he k heo new)
theorem Inv.pins_of {pins':List (Addr × Obj)} (I:Inv X pins σ H s) (h:∀ p ∈ pins',s.heap.get? p.1=some p.2∧H p.1=none∧p.1 ≠ X.env.locals∧p.1 ∉ X.fs∧∀ v,p.2.data ≠ .cell v):Inv X pins' σ H s :=
 ⟨I.ok,I.os,I.bare,I.base,I.loc,I.cell,I.free,I.freeC,fun p hp=>(cV.mp hp).elim (fun z=>I.pin p (dX _ z)) (h p),I.hok,I.len⟩
theorem yK {N:List Str} (hN:N.Nodup) {i j:Nat} {x:Str} (a:N[i]? = some x) (b:N[j]? = some x):i=j:=by
 obtain ⟨h1,e1⟩:=cg.mp a
 obtain ⟨h2,e2⟩:=cg.mp b
 exact (List.getElem_inj hN).mp (e1.trans e2.symm)
theorem vN {M:Model} {A:Around} {E:Value→Shared→Prop} {i:Nat} {x:Str} {v:V} {u:Value} {Q:Unit→Shared→Prop} (I:Inv X pins σ H s) (hN:X.N.Nodup) (hi:X.N[i]? = some x) (hx:Loc X.env.scope x) (r:RelV v u)
 (h:∀ s',Inv X pins (σ.set i (some v)) H s'→(∃ a,Heap.SameBut a s.heap s'.heap∧(a=X.env.locals∨X.env.cells.lookup x=some a))→Q () s') (hf:X.fn x=true∨X.env.scope.names.lookup x=some .local:=by first | exact .inl rfl | exact .inr rfl | assumption):wpAny M A (storeName X.env x u) Q E s:=by
 obtain ⟨m,hn,hl⟩:=id I.loc
 have hcls:(X.env.scope.kind == .class || (X.env.scope.kind == .module && X.env.locals != X.env.globals))=false:=by rw [I.ok.kind];rfl
 have hiσ:i < σ.length:=by rw [I.len];exact (cg.mp hi).1
 have cne:=I.cne
 have tracked:∀ {a:Addr} {h':Heap},(∃ o,s.heap.get? a=some o∧H a=none)→Heap.SameBut a s.heap h'→HOk X.prog X.w H h':=fun {a h'} ha hs b ob e=>by
  obtain ⟨_,_,hfree⟩:=ha
  refine (I.hok b ob e).stay (fun c w' hc q=>(hs.2 c ?_).trans q) (fun _ q=>q) fun _ _ q=>q
  rintro rfl
  rcases hc with rfl | hc
  ·rw [hfree] at e;cases e
  ·rw [hfree] at hc;cases hc
 rcases hx with hk | hk
 ·refine wpAny_storeName_local hk hn (fun h' hn' hs=>?_) hcls
  obtain ⟨oL,_,_,hoL,_⟩:=id hn
  refine h _ ⟨I.ok,I.os,I.bare,⟨fun b o e n hb hx=>?_,fun b o e n hb hx=>?_,I.base.free,fun b o e hx=>?_,I.base.tups,I.base.frzs,I.base.tbls⟩,⟨_,hn',fun j y v' e1 e2 e3=>?_⟩,fun y c e=>?_,I.free,I.freeC,fun p hp=>?_,tracked ⟨oL,hoL,I.free⟩ hs,by simpa using I.len⟩ ⟨_,hs,.inl rfl⟩
  ·exact (hs.2 b (cL (bN (Heap.lt_size e) I.ok.above))).trans (I.base.keep b o e n hb hx)
  ·obtain ⟨sl,e1⟩:=I.base.slot b o e n hb hx
   exact ⟨sl,(hs.2 b (cL (bN (Heap.lt_size e) I.ok.above))).trans e1⟩
  ·obtain ⟨o',e1⟩:=I.base.there b o e hx
   exact ⟨o',(hs.2 b (cL (bN (Heap.lt_size e) I.ok.above))).trans e1⟩
  ·by_cases hj:j=i
   ·subst hj
    rw [hi] at e1;cases e1
    rw [bH hiσ] at e2
    cases e2
    exact ⟨u,r,.inl ⟨hk,by simp⟩⟩
   ·rw [aL (Ne.symm hj)] at e2
    obtain ⟨u',r',q⟩:=hl j y v' e1 e2 e3
    refine ⟨u',r',?_⟩
    rcases q with ⟨k,e⟩ | ⟨k,c,e,z⟩
    ·refine .inl ⟨k,?_⟩
     have:y ≠ x:=fun e=>hj (yK hN e1 (e ▸ hi))
     simp [this,e]
    ·exact .inr ⟨k,c,e,z.sameBut hs (cne y c e)⟩
  ·obtain ⟨w',z⟩:=I.cell y c e
   exact ⟨w',z.sameBut hs (cne y c e)⟩
  ·obtain ⟨e,n,ne,nf,d⟩:=I.pin p hp
   exact ⟨(hs.2 p.1 ne).trans e,n,ne,nf,d⟩
 ·have hfn:X.fn x=true:=by
   rcases hf with z | z
   ·exact z
   ·rw [z] at hk;cases hk
  obtain ⟨c,hc⟩:=I.ok.has x (.inl hk)
  obtain ⟨w',z⟩:=I.cell x c hc
  refine wpAny_storeName_cell I.ok.kind hk hc z (fun h' hc' hs=>?_)
  obtain ⟨oc,hoc,hocd⟩:=id z
  refine h { s with heap:=h' } ⟨I.ok,I.os,I.bare,⟨fun b o e n hb hx=>?_,fun b o e n hb hx=>?_,I.base.free,fun b o e hx=>?_,I.base.tups,I.base.frzs,I.base.tbls⟩,⟨m,hn.sameBut hs (Ne.symm (cne x c hc)),fun j y v' e1 e2 e3=>?_⟩,fun y c' e=>?_,I.free,I.freeC,fun p hp=>?_,tracked ⟨oc,hoc,I.freeC x c hc⟩ hs,by simpa using I.len⟩ ⟨c,hs,.inr hc⟩
  ·exact (hs.2 b (cL (bN (Heap.lt_size e) (I.ok.cab x c hfn hc)))).trans (I.base.keep b o e n hb hx)
  ·obtain ⟨sl,e1⟩:=I.base.slot b o e n hb hx
   exact ⟨sl,(hs.2 b (cL (bN (Heap.lt_size e) (I.ok.cab x c hfn hc)))).trans e1⟩
  ·obtain ⟨o',e1⟩:=I.base.there b o e hx
   exact ⟨o',(hs.2 b (cL (bN (Heap.lt_size e) (I.ok.cab x c hfn hc)))).trans e1⟩
  ·by_cases hj:j=i
   ·subst hj
    rw [hi] at e1;cases e1
    rw [bH hiσ] at e2
    cases e2
    exact ⟨u,r,.inr ⟨.inl hk,c,hc,hc'⟩⟩
   ·rw [aL (Ne.symm hj)] at e2
    obtain ⟨u',r',q⟩:=hl j y v' e1 e2 e3
    refine ⟨u',r',?_⟩
    rcases q with q | ⟨k,c',e,z'⟩
    ·exact .inl q
    ·refine .inr ⟨k,c',e,z'.sameBut hs ?_⟩
     rintro rfl
     exact hj (yK hN e1 (I.ok.inj _ _ _ e hc ▸ hi))
  ·by_cases hcc:c'=c
   ·subst hcc;exact ⟨_,hc'⟩
   ·obtain ⟨w2,z2⟩:=I.cell y c' e
    exact ⟨w2,z2.sameBut hs hcc⟩
  ·obtain ⟨e,n,ne,nf,d⟩:=I.pin p hp
   refine ⟨(hs.2 p.1 ?_).trans e,n,ne,nf,d⟩
   intro q
   rw [q,hoc] at e
   have q':oc=p.2:=dH.inj e
   exact d w' (by rw [← q'];exact hocd)
theorem yL {M:Model} {A:Around} {E:Value→Shared→Prop} {i:Nat} {x:Str} {v:V} {u:Value} {Q:Unit→Shared→Prop} (I:Inv X pins σ H s) (hN:X.N.Nodup) (hi:X.N[i]? = some x) (hx:Loc X.env.scope x) (r:RelV v u)
 (h:∀ s',Inv X pins (σ.set i (some v)) H s'→Q () s') (hf:X.fn x=true∨X.env.scope.names.lookup x=some .local:=by first | exact .inl rfl | exact .inr rfl | assumption):wpAny M A (storeName X.env x u) Q E s :=
 vN I hN hi hx r (fun s' I' _=>h s' I') hf
end
noncomputable abbrev XK:=Value→Option Addr→Hp→Prop
noncomputable abbrev St:=List (Option V)
noncomputable abbrev VK:=V→Hp→Prop
noncomputable abbrev TE:=St→Hp→VK→Prop
noncomputable abbrev TT:=St→Hp→(Bool→Hp→Prop)→Prop
noncomputable abbrev TA:=St→Hp→(List V→Hp→Prop)→Prop
structure Ends where
 nx:St→Hp→Prop
 rt:VK
 bk:St→Hp→Prop:=fun _ _=>False
 ct:St→Hp→Prop:=fun _ _=>False
noncomputable abbrev TS:=Ends→St→Hp→Prop
noncomputable def EP (X:Cx) (pins:List (Addr × Obj)) (σ:St) (Q:VK) (u:Value) (s':Shared):Prop:=∃ v H',Inv X pins σ H' s'∧RelV v u∧Q v H'
noncomputable def TP (X:Cx) (pins:List (Addr × Obj)) (σ:St) (Q:Bool→Hp→Prop) (b:Bool) (s':Shared):Prop:=∃ H',Inv X pins σ H' s'∧Q b H'
noncomputable def AP (X:Cx) (pins:List (Addr × Obj)) (σ:St) (Q:List V→Hp→Prop) (us:List Value) (s':Shared):Prop:=∃ vs H',Inv X pins σ H' s'∧Vals vs us∧Q vs H'
noncomputable def SP (X:Cx) (pins:List (Addr × Obj)) (D:Ends) (f:Flow) (s':Shared):Prop :=
 match f with
 | .next=>∃ σ' H',Inv X pins σ' H' s'∧D.nx σ' H'
 | .brk=>∃ σ' H',Inv X pins σ' H' s'∧D.bk σ' H'
 | .cont=>∃ σ' H',Inv X pins σ' H' s'∧D.ct σ' H'
 | .ret u=>∃ v σ' H',Inv X pins σ' H' s'∧RelV v u∧D.rt v H'
noncomputable def PE (X:Cx) (e:Expr) (t:TE):Prop :=
 ∀ (pins:List (Addr × Obj)) (s:Shared) (σ:St) (H:Hp) (Q:VK),Inv X pins σ H s→t σ H Q→wpAny (model X.prog X.w) X.A (eval e X.env) (EP X pins σ Q) X.xe s
noncomputable def PT (X:Cx) (e:Expr) (t:TT):Prop :=
 ∀ (pins:List (Addr × Obj)) (s:Shared) (σ:St) (H:Hp) (Q:Bool→Hp→Prop),Inv X pins σ H s→t σ H Q→wpAny (model X.prog X.w) X.A (isTrue e X.env (eval e X.env)) (TP X pins σ Q) X.xe s
noncomputable def PW (X:Cx) (e:Expr) (t:TT):Prop :=
 ∀ (whole:Sem Value) (pins:List (Addr × Obj)) (s:Shared) (σ:St) (H:Hp) (Q:Bool→Hp→Prop),Inv X pins σ H s→t σ H Q→wpAny (model X.prog X.w) X.A (isTrue e X.env whole) (TP X pins σ Q) X.xe s
theorem PW.pt {X:Cx} {e:Expr} {t:TT} (h:PW X e t):PT X e t:=h _
noncomputable def PA (X:Cx) (es:List Expr) (t:TA):Prop :=
 ∀ (pos:Pos) (pins:List (Addr × Obj)) (s:Shared) (σ:St) (H:Hp) (Q:List V→Hp→Prop),Inv X pins σ H s→t σ H Q→wpAny (model X.prog X.w) X.A (spliced (backTo pos (starEach es X.env))) (AP X pins σ Q) X.xe s
noncomputable def PS (X:Cx) (st:Stmt) (t:TS):Prop :=
 ∀ (pins:List (Addr × Obj)) (s:Shared) (σ:St) (H:Hp) (D:Ends),Inv X pins σ H s→t D σ H→wpAny (model X.prog X.w) X.A (exec st X.env) (SP X pins D) X.xe s
noncomputable def PSs (X:Cx) (st:List Stmt) (t:TS):Prop :=
 ∀ (pins:List (Addr × Obj)) (s:Shared) (σ:St) (H:Hp) (D:Ends),Inv X pins σ H s→t D σ H→wpAny (model X.prog X.w) X.A (execs st X.env) (SP X pins D) X.xe s
theorem thn {α:Type} {t:Sem α} {Q Q':α→Shared→Prop} {M:Model} {A:Around} {E:Value→Shared→Prop} {s:Shared} (h:wpAny M A t Q E s) (hQ:∀ a s,Q a s→Q' a s):wpAny M A t Q' E s:=wpAny_mono h hQ fun _ _ x=>x
end L2
namespace L2
open PySem PySem.Spec PyProof.Rows
section
variable {X:Cx}
noncomputable def Sy (i:Nat):TE:=fun σ H Q=>∃ v,σ[i]? = some (some v)∧Q v H
noncomputable def tC (v:V):TE:=fun _ H Q=>Q v H
theorem lC {i:Nat} {x:Str} {pos:Pos} (hN:X.N[i]? = some x) (hv:Vis X.env.scope x) (hd:(x == ("__debug__" : Str))=false:=by decide) (hcd:(x == ("__classdict__" : Str))=false:=by decide):PE X (.Name x pos) (Sy i):=by
 intro pins s σ H Q I h
 obtain ⟨v,e,h⟩:=h
 obtain ⟨m,hn,hl⟩:=I.loc
 obtain ⟨u,r,l⟩:=hl i x v hN e hv
 have fin:EP X pins σ Q u s:=⟨v,H,I,r,h⟩
 rcases l with ⟨hk,hm⟩ | ⟨hk,c,hc,hcell⟩
 ·exact wpAny_Name (wpAny_loadName_local I.ok.kind hk hn hm fin) hd
 ·rcases hk with hk | hk
  ·exact wpAny_Name (wpAny_loadName_cell I.ok.kind hk hc hcell fin) hd
  ·exact wpAny_Name (wpAny_loadName_free I.ok.kind hk hc hcell fin hcd) hd
theorem Mj {i j pos}:PE X (.Constant (.int i) j pos) (tC (.int i)):=fun _ _ _ H _ I h=>wpAny_Constant_int ⟨.int i,H,I.tok _,⟨_,rfl⟩,h⟩
theorem Qj {b j pos}:PE X (.Constant (.bool b) j pos) (tC (.bl b)):=fun _ _ _ H _ I h=>Constant_bool ⟨.bl b,H,I,rfl,h⟩
theorem Ml {j pos}:PE X (.Constant .none j pos) (tC .non):=fun _ _ _ H _ I h=>Constant_none ⟨.non,H,I,rfl,h⟩
noncomputable def Gl (X:Cx) (x:Str):Prop:=X.env.kindOf x=some .globalImplicit
theorem BX {E:Value→Shared→Prop} {pins:List (Addr × Obj)} {s:Shared} {σ:St} {H:Hp} {x:Str} {u:Value} {pos:Pos} {Q:Value→Shared→Prop} (I:Inv X pins σ H s) (hg:Gl X x) (hm:X.mg x=some u) (h:Q u s)
 (hd:(x == ("__debug__" : Str))=false:=by decide):wpAny (model X.prog X.w) X.A (eval (.Name x pos) X.env) Q E s :=
 Calls.Name_function_global I.ok.kind hg (Calls.loadGlobal_global (by rw [I.ok.glob];exact I.mod.glob.keeps I.bk) hm h) hd
theorem pX {E:Value→Shared→Prop} {pins:List (Addr × Obj)} {s:Shared} {σ:St} {H:Hp} {x:Str} {u:Value} {pos:Pos} {Q:Value→Shared→Prop} (I:Inv X pins σ H s) (hg:Gl X x) (hm:X.mg x=none) (hv:bootBuiltins x=some u) (h:Q u s)
 (hn:x ≠ "__name__" := by decide) (hd:(x == ("__debug__" : Str))=false:=by decide):wpAny (model X.prog X.w) X.A (eval (.Name x pos) X.env) Q E s:=by
 obtain ⟨mb,h1,h2⟩:=I.mod.blt
 exact Calls.Name_function_global I.ok.kind hg (Calls.loadGlobal_builtin (by rw [I.ok.glob];exact I.mod.glob.keeps I.bk) hm (by rw [I.ok.blt];exact h1.keeps I.bk) ((h2 x hn).trans hv) h) hd
theorem IW {x:Str} {v:V} {u:Value} {pos:Pos} (hg:Gl X x) (hm:X.mg x=some u) (r:RelV v u) (hd:(x == ("__debug__" : Str))=false:=by decide):PE X (.Name x pos) (tC v) :=
 fun _ _ _ H _ I h=>BX I hg hm ⟨v,H,I,r,h⟩ hd
theorem I_ {x:Str} {v:V} {u:Value} {pos:Pos} (hg:Gl X x) (hm:X.mg x=none) (hv:bootBuiltins x=some u) (r:RelV v u) (hn:x ≠ "__name__" := by decide) (hd:(x == ("__debug__" : Str))=false:=by decide):PE X (.Name x pos) (tC v) :=
 fun _ _ _ H _ I h=>pX I hg hm hv ⟨v,H,I,r,h⟩ hn hd
variable {a b:Expr} {ta tb:TE} {pos:Pos}
noncomputable def PC (X:Cx) (op:CmpOp) (a b:Expr) (t:TE):Prop :=
 ∀ (pins:List (Addr × Obj)) (s:Shared) (σ:St) (H:Hp) (Q:VK),Inv X pins σ H s→t σ H Q →
  wpAny (model X.prog X.w) X.A (eval a X.env) (fun v s₁=>wpAny (model X.prog X.w) X.A (eval b X.env) (fun u s₂=>wpAny (model X.prog X.w) X.A (compareOp op v u) (EP X pins σ Q) X.xe s₂) X.xe s₁) X.xe s
theorem Fw (b:Expr) {op:CmpOp} (h:op ≠ .In) (h2:op ≠ .NotIn):behindInMarks op b=false:=by
 have e1:(op == CmpOp.In)=false:=by cases op <;> first | rfl | exact absurd rfl h
 have e2:(op == CmpOp.NotIn)=false:=by cases op <;> first | rfl | exact absurd rfl h2
 cases b <;> simp [behindInMarks,e1,e2]
noncomputable def SJ (ta:TE):TE:=fun σ H Q=>ta σ H fun x H1=>Q (.bl (decide (x = .non))) H1
noncomputable def Qk (ta:TE):TE:=fun σ H Q=>ta σ H fun x H1=>Q (.bl (!decide (x = .non))) H1
theorem RelV.none_iff {x:V} {v:Value} (r:RelV x v):(v == Value.none)=decide (x = .non):=by
 cases x with
 | non=>cases r;rfl
 | bl _=>cases r;rfl
 | int _=>obtain ⟨t,rfl⟩:=r;rfl
 | str _=>obtain ⟨t,rfl⟩:=r;rfl
 | byt _=>obtain ⟨t,rfl⟩:=r;rfl
 | flt _=>obtain ⟨t,rfl⟩:=r;rfl
 | ref _=>cases r;rfl
 | ty _=>cases r;rfl
theorem Mp {j pos'} (ha:PE X a ta):PC X .Is a (.Constant .none j pos') (SJ ta):=by
 intro pins s σ H Q I h
 refine thn (ha pins s σ H _ I h) fun v s1 ⟨x,H1,I1,r1,q1⟩=>?_
 exact Constant_none (is_none_gen ⟨.bl _,H1,I1,by rw [r1.none_iff];rfl,q1⟩)
theorem Ja {j pos'} (ha:PE X a ta):PC X .IsNot a (.Constant .none j pos') (Qk ta):=by
 intro pins s σ H Q I h
 refine thn (ha pins s σ H _ I h) fun v s1 ⟨x,H1,I1,r1,q1⟩=>?_
 exact Constant_none (isnot_none_gen ⟨.bl _,H1,I1,by rw [r1.none_iff];rfl,q1⟩)
noncomputable def tB (t:TE):TT:=fun σ H Q=>t σ H fun x H1=>∃ c,x = .bl c∧Q c H1
theorem Ae {op:CmpOp} {t:TE} (h:PC X op a b t) (h1:behindInMarks op b=false:=by first | exact Fw _ (by decide) (by decide) | rfl):PT X (.Compare a [op] [b] pos) (tB t):=by
 intro pins s σ H Q I hw
 refine wpAny_isTrue_Compare1 (thn (h pins s σ H _ I hw) fun v s1 h1=>thn h1 fun u s2 h2=>thn h2 fun c s3 ⟨x,H1,I1,r1,q1⟩=>?_) h1
 obtain ⟨d,rfl,q⟩:=q1
 cases r1
 exact wpAny_truthy_bool ⟨H1,I1,q⟩
theorem Mq {e:Expr} {t:TE} (h:PE X e t) (he:∀ whole,isTrue e X.env whole=(do let v ← whole;standAt e.pos;holding [v] (truthy v)):=by intro _;rfl):PT X e (tB t):=by
 intro pins s σ H Q I hw
 refine isTrue_plain (thn (h pins s σ H _ I hw) fun v s1 ⟨x,H1,I1,r1,q1⟩=>?_) (he _)
 obtain ⟨d,rfl,q⟩:=q1
 cases r1
 exact wpAny_truthy_bool ⟨H1,I1,q⟩
variable {tA tB':TT} {rest:List Expr}
noncomputable def jf (t u:TT):TT:=fun σ H Q=>t σ H fun c H1=>if c=true then u σ H1 Q else Q false H1
noncomputable def tOr (t u:TT):TT:=fun σ H Q=>t σ H fun c H1=>if c=true then Q true H1 else u σ H1 Q
noncomputable def iI (t:TT):TT:=fun σ H Q=>t σ H fun c H1=>Q (!c) H1
theorem Jb (ha:PT X a tA):PW X (.BoolOp .And [a] pos) tA:=by
 intro wh pins s σ H Q I h
 refine isTrue_and (thn (ha pins s σ H Q I h) fun c s1 e=>?_)
 cases c with
 | true=>exact isTrue_and_nil e
 | false=>exact e
theorem Mr (ha:PT X a tA):PW X (.BoolOp .Or [a] pos) tA:=by
 intro wh pins s σ H Q I h
 refine isTrue_or (thn (ha pins s σ H Q I h) fun c s1 e=>?_)
 cases c with
 | false=>exact isTrue_or_nil e
 | true=>exact e
theorem Ms (ha:PT X a tA) (hb:PW X (.BoolOp .And (b :: rest) pos) tB'):PW X (.BoolOp .And (a :: b :: rest) pos) (jf tA tB'):=by
 intro wh pins s σ H Q I h
 refine isTrue_and (thn (ha pins s σ H _ I h) fun c s1 ⟨H1,I1,q1⟩=>?_)
 cases c with
 | true=>exact hb wh pins s1 σ H1 Q I1 q1
 | false=>exact ⟨H1,I1,q1⟩
theorem Ql (ha:PT X a tA) (hb:PW X (.BoolOp .Or (b :: rest) pos) tB'):PW X (.BoolOp .Or (a :: b :: rest) pos) (tOr tA tB'):=by
 intro wh pins s σ H Q I h
 refine isTrue_or (thn (ha pins s σ H _ I h) fun c s1 ⟨H1,I1,q1⟩=>?_)
 cases c with
 | true=>exact ⟨H1,I1,q1⟩
 | false=>exact hb wh pins s1 σ H1 Q I1 q1
theorem Mt (ha:PT X a tA):PT X (.UnaryOp .Not a pos) (iI tA):=by
 intro pins s σ H Q I h
 exact isTrue_not (ha pins s σ H (fun c H1=>Q (!c) H1) I h)
noncomputable def Qm (ta tb:TE):TE:=fun σ H Q=>ta σ H fun x H1=>∃ c,x = .bl c∧if c=true then tb σ H1 Q else Q (.bl false) H1
noncomputable def Qn (ta:TE):TE:=fun σ H Q=>ta σ H fun x H1=>∃ c,x = .bl c∧Q (.bl (!c)) H1
theorem Mu {op} {t:TE} (h:PE X a t):PE X (.BoolOp op [a] pos) t:=fun pins s σ H Q I hw=>BoolOp_one (h pins s σ H Q I hw)
theorem Mv (ha:PE X a ta) (hb:PE X (.BoolOp .And (b :: rest) pos) tb):PE X (.BoolOp .And (a :: b :: rest) pos) (Qm ta tb):=by
 intro pins s σ H Q I h
 refine BoolOp_and (thn (ha pins s σ H _ I h) fun v s1 ⟨x,H1,I1,r1,q1⟩=>?_)
 obtain ⟨c,rfl,q1⟩:=q1
 cases r1
 refine wpAny_truthy_bool ?_
 cases c with
 | true=>exact hb pins s1 σ H1 Q I1 q1
 | false=>exact ⟨.bl false,H1,I1,rfl,q1⟩
theorem Mw (ha:PE X a ta):PE X (.UnaryOp .Not a pos) (Qn ta):=by
 intro pins s σ H Q I h
 refine UnaryOp_ (thn (ha pins s σ H _ I h) fun v s1 ⟨x,H1,I1,r1,q1⟩=>?_)
 obtain ⟨c,rfl,q1⟩:=q1
 cases r1
 exact not_of (wpAny_truthy_bool ⟨.bl (!c),H1,I1,rfl,q1⟩)
end
end L2
namespace L2
open PySem PySem.Spec PyProof.Rows
noncomputable def SqL (K:PySem.W.Frag) (H:Hp) (a:Addr) (xs:List V):Prop :=
 Rd H a (.lst xs) ∨
  ∃ (o:Obj) (its:Array Value) (n:Nat),K.lookup a=some o∧o.cls = .type "list" ∧ o.dict=none∧o.data = .seq its n∧its.size ≤ sizeLine∧Vals xs its.toList
noncomputable def SqT (K:PySem.W.Frag) (H:Hp) (a:Addr) (xs:List V):Prop :=
 Rd H a (.tup xs) ∨
  ∃ (o:Obj) (its:Array Value) (n:Nat),K.lookup a=some o∧o.cls = .type "tuple" ∧ o.data = .seq its n∧its.size ≤ sizeLine∧Vals xs its.toList
noncomputable def SM:Value→Option V
 | .none=>some .non
 | .bool b=>some (.bl b)
 | .int i _=>some (.int i)
 | .str x _=>some (.str x)
 | .bytes b _=>some (.byt b)
 | .float b _=>some (.flt b)
 | .ref a=>some (.ref a)
 | .type n=>some (.ty n)
 | _=>none
theorem RelV.abs {x:V} {u:Value} (r:RelV x u):SM u=some x:=by
 cases x with
 | non=>cases r;rfl
 | bl _=>cases r;rfl
 | int _=>obtain ⟨t,rfl⟩:=r;rfl
 | str _=>obtain ⟨t,rfl⟩:=r;rfl
 | byt _=>obtain ⟨t,rfl⟩:=r;rfl
 | flt _=>obtain ⟨t,rfl⟩:=r;rfl
 | ref _=>cases r;rfl
 | ty _=>cases r;rfl
theorem RelV.inj {x y:V} {u:Value} (r:RelV x u) (q:RelV y u):x=y:=dH.inj (r.abs.symm.trans q.abs)
theorem Vals.inj:∀ {xs ys:List V} {us:List Value},Vals xs us→Vals ys us→xs=ys
 | _,_,_,.nil,.nil=>rfl
 | _,_,_,.cons r t,.cons r' t'=>by rw [r.inj r',Vals.inj t t']
section
variable {X:Cx} {pins:List (Addr × Obj)} {σ:St} {H:Hp} {s:Shared} {a:Addr} {xs ys:List V}
theorem SqL.of {K:PySem.W.Frag} (h:H a=some (.lst xs)):SqL K H a xs:=.inl (.inl h)
theorem Inv.list (I:Inv X pins σ H s) (h:SqL X.K H a xs):∃ its:List Value,Vals xs its∧PlainL s.heap a its.toArray∧xs.length ≤ sizeLine:=by
 rcases h with h | ⟨o,its,n,hk,hc,hd,hs,hz,r⟩
 ·obtain ⟨z,its,n,r,e⟩:=h.ok I.hok
  exact ⟨its,r,⟨_,n,e,rfl,rfl,rfl⟩,z⟩
 ·refine ⟨its.toList,r,⟨o,n,I.kIn a o hk,hc,hd,by simpa using hs⟩,?_⟩
  have e:=r.length
  simp only [pJ] at e
  omega
theorem Inv.tuple (I:Inv X pins σ H s) (h:SqT X.K H a xs):∃ its:List Value,Vals xs its∧IsTup s.heap a its.toArray∧xs.length ≤ sizeLine:=by
 rcases h with h | ⟨o,its,n,hk,hc,hs,hz,r⟩
 ·obtain ⟨z,its,r,p⟩:=h.ok I.hok
  exact ⟨its,r,p,z⟩
 ·refine ⟨its.toList,r,⟨o,I.kIn a o hk,hc,n,by simpa using hs⟩,?_⟩
  have e:=r.length
  simp only [pJ] at e
  omega
theorem Inv.list_inj (I:Inv X pins σ H s) (h:SqL X.K H a xs) (h':SqL X.K H a ys):xs=ys:=by
 obtain ⟨its,r,⟨o,n,e,_,_,d⟩,_⟩:=I.list h
 obtain ⟨its',r',⟨o',n',e',_,_,d'⟩,_⟩:=I.list h'
 rw [e] at e';cases e'
 rw [d] at d'
 injection d' with d1 _
 have:its=its':=by simpa using congrArg Array.toList d1
 subst this
 exact r.inj r'
theorem Inv.tuple_inj (I:Inv X pins σ H s) (h:SqT X.K H a xs) (h':SqT X.K H a ys):xs=ys:=by
 obtain ⟨its,r,⟨o,e,_,n,d⟩,_⟩:=I.tuple h
 obtain ⟨its',r',⟨o',e',_,n',d'⟩,_⟩:=I.tuple h'
 rw [e] at e';cases e'
 rw [d] at d'
 injection d' with d1 _
 have:its=its':=by simpa using congrArg Array.toList d1
 subst this
 exact r.inj r'
end
noncomputable abbrev Cx.wish (X:Cx) (E:Value→Shared→Prop):Cx:={ X with xe:=E }
noncomputable abbrev Cx.nox (X:Cx):Cx:=X.wish fun _ _=>False
theorem Cx.Ok.wish {X:Cx} (ok:X.Ok) (E:Value→Shared→Prop):(X.wish E).Ok :=
 ⟨ok.mod,ok.kind,ok.glob,ok.blt,ok.above,ok.inj,ok.has,ok.cab,ok.hd,ok.frames,ok.stk,ok.exf,ok.bs,ok.bsz,ok.noex,ok.exfs,ok.funs,ok.frf⟩
theorem Cx.Ok.unwish {X:Cx} {E:Value→Shared→Prop} (ok:(X.wish E).Ok):X.Ok :=
 ⟨ok.mod,ok.kind,ok.glob,ok.blt,ok.above,ok.inj,ok.has,ok.cab,ok.hd,ok.frames,ok.stk,ok.exf,ok.bs,ok.bsz,ok.noex,ok.exfs,ok.funs,ok.frf⟩
section
variable {X:Cx} {pins:List (Addr × Obj)} {σ:St} {H:Hp} {s:Shared} {E:Value→Shared→Prop}
theorem Inv.wish (I:Inv X pins σ H s) (E:Value→Shared→Prop):Inv (X.wish E) pins σ H s:=⟨I.ok.wish E,I.os,I.bare,I.base,I.loc,I.cell,I.free,I.freeC,I.pin,I.hok,I.len⟩
theorem Inv.unwish (I:Inv (X.wish E) pins σ H s):Inv X pins σ H s:=⟨I.ok.unwish,I.os,I.bare,I.base,I.loc,I.cell,I.free,I.freeC,I.pin,I.hok,I.len⟩
theorem SP.unwish {D:Ends} {f:Flow} {s':Shared} (h:SP (X.wish E) pins D f s'):SP X pins D f s':=by
 cases f with
 | next=>obtain ⟨σ',H',I,q⟩:=h;exact ⟨σ',H',I.unwish,q⟩
 | brk=>obtain ⟨σ',H',I,q⟩:=h;exact ⟨σ',H',I.unwish,q⟩
 | cont=>obtain ⟨σ',H',I,q⟩:=h;exact ⟨σ',H',I.unwish,q⟩
 | ret u=>obtain ⟨v,σ',H',I,r,q⟩:=h;exact ⟨v,σ',H',I.unwish,r,q⟩
theorem PSs.nox {st:List Stmt} {t:TS} (h:PSs X.nox st t):PSs X st t:=fun pins s σ H D I hw =>
 wpAny_mono (h pins s σ H D (I.wish _) hw) (fun _ _ q=>q.unwish) fun _ _ z=>False.elim z
end
section
variable {X:Cx} {st:Stmt} {rest:List Stmt} {t u:TS} {e:Expr} {te:TE} {pos:Pos}
noncomputable def Qo:TS:=fun D σ H=>D.nx σ H
noncomputable def SN (t u:TS):TS:=fun D σ H=>t { D with nx:=u D } σ H
theorem BZ:PSs X [] Qo:=fun _ _ σ H _ I h=>wpAny_execs_nil ⟨σ,H,I,h⟩
theorem yM (h1:PS X st t) (h2:PSs X rest u):PSs X (st :: rest) (SN t u):=by
 intro pins s σ H D I h
 refine wpAny_execs_cons (thn (h1 pins s σ H { D with nx:=u D } I h) fun f s1 q=>?_)
 cases f with
 | next =>
  obtain ⟨σ',H',I',q⟩:=q
  exact h2 pins s1 σ' H' D I' q
 | ret v=>exact q
 | brk=>exact q
 | cont=>exact q
theorem B_ (h1:PS X st t):PSs X [st] t:=by
 intro pins s σ H D I h
 refine wpAny_execs_cons (thn (h1 pins s σ H D I h) fun f s1 q=>?_)
 cases f with
 | next=>exact wpAny_execs_nil q
 | ret v=>exact q
 | brk=>exact q
 | cont=>exact q
theorem Inv.quiet {pins:List (Addr × Obj)} {σ:St} {H:Hp} {s:Shared} (I:Inv X pins σ H s):interactive X.env=false:=by simp [interactive,I.ok.kind]
noncomputable def Qq (te:TE):TS:=fun D σ H=>te σ H fun _ H1=>D.nx σ H1
theorem tR (he:PE X e te) (hs:swapsWith e none pos.line X.env=pure false:=by rfl):PS X (.Expr e pos) (Qq te):=by
 intro pins s σ H D I h
 exact wpAny_Expr_any (thn (he pins s σ H _ I h) fun v s1 ⟨x,H1,I1,r1,q1⟩=>⟨σ,H1,I1,q1⟩) I.quiet hs
noncomputable def SQ (te:TE):TS:=fun D σ H=>te σ H D.rt
theorem wU (he:PE X e te):PS X (.Return (some e) pos) (SQ te):=by
 intro pins s σ H D I h
 exact wpAny_Return_some (thn (he pins s σ H _ I h) fun v s1 ⟨x,H1,I1,r1,q1⟩=>⟨x,σ,H1,I1,r1,q1⟩)
noncomputable def SX (c:TT) (t u:TS):TS:=fun D σ H=>c σ H fun b H1=>if b=true then t D σ H1 else u D σ H1
theorem Lh {c:Expr} {a b:List Stmt} {tc:TT} (hc:PT X c tc) (ha:PSs X a t) (hb:PSs X b u):PS X (.If c a b pos) (SX tc t u):=by
 intro pins s σ H D I h
 refine wpAny_If (thn (hc pins s σ H _ I h) fun d s1 ⟨H1,I1,q1⟩=>?_)
 cases d with
 | true=>exact ha pins s1 σ H1 D I1 q1
 | false=>exact hb pins s1 σ H1 D I1 q1
noncomputable def Mx:TS:=fun _ _ _=>False
theorem Fx:PS X st Mx:=fun _ _ _ _ _ _ h=>h.elim
end
noncomputable abbrev TG:=V→St→Hp→(St→Hp→Prop)→Prop
noncomputable abbrev TGs:=List V→St→Hp→(St→Hp→Prop)→Prop
noncomputable def PG (X:Cx) (target:Expr) (t:TG):Prop :=
 ∀ (pins:List (Addr × Obj)) (s:Shared) (σ:St) (H:Hp) (v:V) (u:Value) (Q:St→Hp→Prop),Inv X pins σ H s→RelV v u→t v σ H Q →
  wpAny (model X.prog X.w) X.A (assign target X.env u) (fun _ s'=>∃ σ' H',Inv X pins σ' H' s'∧Q σ' H') X.xe s
noncomputable def PGs (X:Cx) (ts:List Expr) (t:TGs):Prop :=
 ∀ (pins:List (Addr × Obj)) (s:Shared) (σ:St) (H:Hp) (vs:List V) (us:List Value) (Q:St→Hp→Prop),Inv X pins σ H s→Vals vs us→t vs σ H Q →
  wpAny (model X.prog X.w) X.A (assignInOrder ((assignEach ts X.env).map (·.2)) us) (fun _ s'=>∃ σ' H',Inv X pins σ' H' s'∧Q σ' H') X.xe s
noncomputable abbrev Mz:=V→V→V→Hp→(Hp→Prop)→Prop
noncomputable def Qs (X:Cx) (t:Mz):Prop :=
 ∀ (pins:List (Addr × Obj)) (s:Shared) (σ:St) (H:Hp) (o i v:V) (ov iv u:Value) (Q:Hp→Prop),Inv X pins σ H s→RelV o ov→RelV i iv→RelV v u→t o i v H Q →
  wpAny (model X.prog X.w) X.A (setItem ov iv u) (fun _ s'=>∃ H',Inv X pins σ H' s'∧Q H') X.xe s
section
variable {X:Cx} {pos:Pos}
noncomputable def Fy (i:Nat):TG:=fun v σ H Q=>Q (σ.set i (some v)) H
theorem tU {i:Nat} {x:Str} (hN:X.N.Nodup) (hi:X.N[i]? = some x) (hx:Loc X.env.scope x) (hf:X.fn x=true∨X.env.scope.names.lookup x=some .local:=by first | exact .inl rfl | exact .inr rfl | assumption):PG X (.Name x pos) (Fy i):=by
 intro pins s σ H v u Q I r h
 exact wpAny_assign_Name (yL I hN hi hx r (fun s' I'=>⟨_,H,I',h⟩) hf)
noncomputable def S5:TGs:=fun vs σ H Q=>vs=[]∧Q σ H
noncomputable def Qt (t:TG) (u:TGs):TGs:=fun vs σ H Q=>∃ v r,vs=v :: r∧t v σ H fun σ' H'=>u r σ' H' Q
theorem Ca:PGs X [] S5:=by
 intro pins s σ H vs us Q I r h
 obtain ⟨e,h⟩:=h
 subst e
 cases r
 exact assignInOrder_nil ⟨σ,H,I,h⟩
theorem qy {e:Expr} {es:List Expr} {t:TG} {u:TGs} (h1:PG X e t) (h2:PGs X es u)
 (hs:(assignEach (e :: es) X.env).map (·.2)=assign e X.env :: (assignEach es X.env).map (·.2):=by rfl):PGs X (e :: es) (Qt t u):=by
 intro pins s σ H vs us Q I r h
 obtain ⟨v,vr,e1,h⟩:=h
 subst e1
 cases r with
 | cons r rr =>
  rw [hs]
  refine assignInOrder_cons (thn (h1 pins s σ H _ _ _ I r h) fun _ s1 ⟨σ1,H1,I1,q1⟩=>?_)
  exact h2 pins s1 σ1 H1 _ _ Q I1 rr q1
noncomputable def S6 (K:PySem.W.Frag) (n:Nat) (t:TGs):TG:=fun v σ H Q=>∃ a xs,v = .ref a∧SqT K H a xs∧xs.length=n∧t xs σ H Q
theorem Fz {es:List Expr} {k:Nat} {t:TGs} {n:Nat} (hc:X.calm=true) (h:PGs X es t)
 (hn:(assignEach es X.env).length=n:=by rfl) (hst:(assignEach es X.env).findIdx? (·.1)=none:=by rfl):PG X (.Tuple es k pos) (S6 X.K n t):=by
 intro pins s σ H v u Q I r hw
 obtain ⟨a,xs,e1,hq,hl,hw⟩:=hw
 subst e1
 cases r
 obtain ⟨its,rv,ht,hz⟩:=I.tuple hq
 refine assign_Tuple_tuple (I.ok.hd hc) ht (by simp [hn,← hl,rv.length]) hst fun h' hx=>?_
 have I1:Inv X pins σ H { s with heap:=h' }:=I.kept (t':=s.toks) fun b o e=>hx b o (cL (Heap.lt_size e)) e
 exact h pins _ σ H xs _ Q I1 (by simpa using rv) hw
noncomputable def m8 (to ti:TE) (t:Mz):TG:=fun v σ H Q=>to σ H fun o H1=>ti σ H1 fun i H2=>t o i v H2 fun H3=>Q σ H3
theorem MF {o i:Expr} {to ti:TE} {t:Mz} (ho:PE X o to) (hi:PE X i ti) (hs:Qs X t)
 (ha:∀ v,assign (.Subscript o i pos) X.env v=(do
  let ov ← holding [v] (eval o X.env)
  let iv ← holding [v,ov] (eval i X.env)
  standAt pos
  holding [v,ov,iv] (setItem ov iv v)
  release [v,ov,iv] []):=by intro _;rfl):PG X (.Subscript o i pos) (m8 to ti t):=by
 intro pins s σ H v u Q I r h
 rw [ha]
 refine wpAny_bind (wpAny_holding (thn (ho pins s σ H _ I h) fun ov s1 ⟨x,H1,I1,r1,q1⟩=>?_))
 refine wpAny_bind (wpAny_holding (thn (hi pins s1 σ H1 _ I1 q1) fun iv s2 ⟨y,H2,I2,r2,q2⟩=>?_))
 refine wpAny_bind (wpAny_standAt (wpAny_bind (wpAny_holding (thn (hs pins s2 σ H2 x y v ov iv u _ I2 r1 r2 r q2) fun _ s3 ⟨H3,I3,q3⟩=>?_))))
 exact wpAny_release ⟨σ,H3,I3,q3⟩
noncomputable def MJ (te:TE) (g:TG):TS:=fun D σ H=>te σ H fun x H1=>g x σ H1 D.nx
theorem Af {tg e:Expr} {te:TE} {g:TG} (he:PE X e te) (hg:PG X tg g) (hs:swapsWithSole [tg] e pos.line X.env=pure false:=by rfl) (hw:swappedStores [tg] e X.env=pure none:=by rfl)
 (h1:(assignEach [tg] X.env).map (·.2)=[assign tg X.env]:=by rfl):PS X (.Assign [tg] e pos) (MJ te g):=by
 intro pins s σ H D I h
 refine wpAny_Assign_stores (thn (he pins s σ H _ I h) fun v s1 ⟨x,H1,I1,r1,q1⟩=>?_) hs hw
 rw [h1]
 exact thn (hg pins s1 σ H1 x v _ I1 r1 q1) fun _ s2 q=>q
theorem wV {i:Nat} {x:Str} {e:Expr} {te:TE} {pos':Pos} (hN:X.N.Nodup) (hi:X.N[i]? = some x) (hx:Loc X.env.scope x) (he:PE X e te) (hs:swapsWith e (some (.Name x pos')) pos.line X.env=pure false:=by rfl) (hf:X.fn x=true∨X.env.scope.names.lookup x=some .local:=by first | exact .inl rfl | exact .inr rfl | assumption) :
 PS X (.Assign [.Name x pos'] e pos) (MJ te (Fy i)):=by
 intro pins s σ H D I h
 refine wpAny_Assign_Name (thn (he pins s σ H _ I h) fun v s1 ⟨y,H1,I1,r1,q1⟩=>?_) hs
 exact yL I1 hN hi hx r1 (fun s2 I2=>⟨_,H1,I2,q1⟩) hf
end
section
variable {X:Cx} {pos:Pos}
noncomputable def MK (c:TT) (tb:TS):TS:=fun D σ H=>∃ W:Nat→St→Hp→Prop,(∃ m,W m σ H)∧∀ m σ H,W m σ H →
 c σ H fun b H1=>if b=true then ∃ N:St→Hp→Prop,(∀ σ' H',N σ' H'→∃ m',m' < m∧W m' σ' H')∧tb { D with nx:=N,ct:=N,bk:=D.nx } σ H1 else D.nx σ H1
theorem FJ {c:Expr} {body:List Stmt} {tc:TT} {tb:TS} (hp:PassesOwn (model X.prog X.w) X.A X.env X.xe) (hc:PT X c tc) (hb:PSs X body tb):PS X (.While c body [] pos) (MK tc tb):=by
 intro pins s σ H D I h
 obtain ⟨W,⟨m0,w0⟩,turn⟩:=h
 refine wpAny_While (codeAny_whileLoop (fun n s'=>∃ σ' H',Inv X pins σ' H' s'∧W n σ' H') ?_ m0 ⟨σ,H,I,w0⟩)
 rintro n s1 ⟨σ1,H1,I1,w1⟩
 refine wpAny_passesOwn hp (thn (hc pins s1 σ1 H1 _ I1 (turn n σ1 H1 w1)) fun b s2 ⟨H2,I2,q2⟩=>?_)
 cases b with
 | true =>
  obtain ⟨N,hN,q2⟩:=q2
  rw [if_pos rfl]
  refine wpAny_passesOwn hp (thn (hb pins s2 σ1 H2 _ I2 q2) fun f s3 q3=>?_)
  cases f with
  | next =>
   obtain ⟨σ3,H3,I3,n3⟩:=q3
   obtain ⟨m',hm,w3⟩:=hN σ3 H3 n3
   exact ⟨m',hm,σ3,H3,I3,w3⟩
  | cont =>
   obtain ⟨σ3,H3,I3,n3⟩:=q3
   obtain ⟨m',hm,w3⟩:=hN σ3 H3 n3
   exact ⟨m',hm,σ3,H3,I3,w3⟩
  | brk=>exact q3
  | ret v=>exact q3
 | false =>
  rw [if_neg bC]
  exact wpAny_execs_nil ⟨σ1,H2,I2,q2⟩
end
structure It where
 go:Nat→Hp→Prop
 yld:Nat→Hp→V→Hp→Prop
 stop:Nat→Hp→Prop
noncomputable def rM (X:Cx) (pins:List (Addr × Obj)) (H:Hp) (b:Addr):Prop :=
 H b=none∧b ≠ X.env.locals∧b ∉ X.fs∧(b ∈ X.ex∨X.s₀.heap.objs.size ≤ b)∧(∀ x c,X.env.cells.lookup x=some c→c ≠ b)∧∀ p ∈ X.pn++pins,p.1 ≠ b
theorem Inv.fpOk {X:Cx} {pins:List (Addr × Obj)} {σ:St} {H H':Hp} {s:Shared} {b:Addr} (I:Inv X pins σ H s) (hb:s.heap.objs.size ≤ b) (hn:H' b=none):rM X pins H' b:=by
 refine ⟨hn,Nat.ne_of_gt (bN I.lt hb),I.nofs hb,.inr (dB I.sz hb),fun x c e z=>?_,fun p hp z=>?_⟩
 ·obtain ⟨v,q⟩:=I.cell x c e
  exact absurd (bN q.lt (by rw [z];exact hb)) (jJ _)
 ·exact absurd (bN (Heap.lt_size (I.pin p hp).1) (by rw [z];exact hb)) (jJ _)
structure Turn (P:Program) (w:World) (K:PySem.W.Frag) (tg:Expr) (J:It) (fp:List Addr) (it:Addr) (tn:Nat→Heap→Prop):Prop where
 mem:it ∈ fp
 obj:∀ i h,tn i h→∀ b ∈ fp,∃ o,h.get? b=some o∧∀ v,o.data ≠ .cell v
 keep:∀ i h h',tn i h→(∀ b ∈ fp,∀ o,h.get? b=some o→h'.get? b=some o)→tn i h'
 item:∀ (X:Cx),X.prog=P→X.w=w→X.K=K→X.calm=true→∀ (i:Nat) (pins:List (Addr × Obj)) (s:Shared) (σ:St) (H:Hp) (E:Value→Shared→Prop),Inv X pins σ H s→(∀ b ∈ fp,rM X pins H b)→tn i s.heap→J.go i H →
  wpAny (model P w) X.A (pyNext (.ref it)) (fun r s1=>∃ u,r=some u ∧
   wpAny (model P w) X.A (letOwnedTupleGo tg (.ref it) u) (fun _ s2=>∃ x H',Inv X pins σ H' s2∧RelV x u∧J.yld i H x H'∧tn (i + 1) s2.heap∧∀ b ∈ fp,H' b=none) E s1) E s
 done:∀ (X:Cx),X.prog=P→X.w=w→X.K=K→X.calm=true→∀ (i:Nat) (pins:List (Addr × Obj)) (s:Shared) (σ:St) (H:Hp) (E:Value→Shared→Prop),Inv X pins σ H s→(∀ b ∈ fp,rM X pins H b)→tn i s.heap→J.stop i H →
  wpAny (model P w) X.A (pyNext (.ref it)) (fun r s1=>r=none∧Inv X pins σ H s1) E s
 self:∀ (A:Around) (i:Nat) (s:Shared) (Q:Value→Shared→Prop) (E:Value→Shared→Prop),tn i s.heap→Q (.ref it) s→wpAny (model P w) A (pyIter (.ref it)) Q E s
noncomputable abbrev TI:=St→Hp→(It→Hp→Prop)→Prop
noncomputable def PIE (X:Cx) (pins:List (Addr × Obj)) (σ:St) (tg:Expr) (R:It→Hp→Prop) (itv:Value) (s2:Shared):Prop :=
 ∃ (it:Addr) (fp:List Addr) (tn:Nat→Heap→Prop) (J:It) (H':Hp),itv = .ref it∧Inv X pins σ H' s2∧Turn X.prog X.w X.K tg J fp it tn∧tn 0 s2.heap∧(∀ b ∈ fp,rM X pins H' b)∧R J H'
noncomputable def PI (X:Cx) (tg iter:Expr) (wi:TI):Prop :=
 ∀ (pins:List (Addr × Obj)) (s:Shared) (σ:St) (H:Hp) (R:It→Hp→Prop),Inv X pins σ H s→wi σ H R →
  wpAny (model X.prog X.w) X.A (eval iter X.env) (fun v s1=>wpAny (model X.prog X.w) X.A (pyIter v) (PIE X pins σ tg R) X.xe s1) X.xe s
theorem Cd {M:Model} {A:Around} {E:Value→Shared→Prop} {s:Shared} {tg:Expr} {it:Addr} {u:Value} {o:Obj} {n:String} {vs:Array Value} {Q:Unit→Shared→Prop} (ho:s.heap.get? it=some o) (hc:o.cls = .type n) (hd:o.data = .fields vs)
 (hn:["enumerate", "zip", "dict_itemiterator", "dict_reverseitemiterator", "odict_iterator", "itertools.zip_longest", "itertools.pairwise"].contains n=false) (hQ:Q () s):wpAny M A (letOwnedTupleGo tg (.ref it) u) Q E s:=by
 unfold letOwnedTupleGo
 cases tg <;> first
  | exact wpAny_pure hQ
  | (cases u <;> first
   | exact wpAny_pure hQ
   | (refine wpAny_bind (wpAny_load ho ?_)
      rw [hc,hd]
      show wpAny M A (if (["enumerate", "zip", "dict_itemiterator", "dict_reverseitemiterator", "odict_iterator", "itertools.zip_longest", "itertools.pairwise"].contains n && vs[0]? == some (rawInt _))=true then _ else _) Q E s
      rw [if_neg (by intro h;rw [hn,lU] at h;cases h)]
      exact wpAny_pure hQ))
noncomputable def Itl (K:PySem.W.Frag) (a:Addr):It :=
 ⟨fun i H=>∃ xs x,SqL K H a xs∧xs[i]? = some x,fun i H x H'=>H'=H∧∀ xs,SqL K H a xs→xs[i]? = some x,fun i H=>∃ xs,SqL K H a xs∧xs.length ≤ i⟩
noncomputable def Itt (K:PySem.W.Frag) (a:Addr):It :=
 ⟨fun i H=>∃ xs x,SqT K H a xs∧xs[i]? = some x,fun i H x H'=>H'=H∧∀ xs,SqT K H a xs→xs[i]? = some x,fun i H=>∃ xs,SqT K H a xs∧xs.length ≤ i⟩
noncomputable def Itr (lo:Int) (n:Nat):It:=⟨fun i _=>i < n,fun i H x H'=>H'=H∧x = .int (lo + i),fun i _=>n ≤ i⟩
theorem Dw {P:Program} {w:World} {K:PySem.W.Frag} {tg:Expr} (a it:Addr):Turn P w K tg (Itl K a) [it] it (fun i h=>h.IsListIter it a i) where
 mem:=by simp
 obj:=fun i h st b hb=>by
  have e:b=it:=by simpa using hb
  subst e
  obtain ⟨o,e,c,d⟩:=st
  exact ⟨o,e,fun v z=>by rw [d] at z;cases z⟩
 keep:=fun i h h' st k=>st.at fun o e=>k it (by simp) o e
 item:=by
  intro X hP hw hK hc i pins s σ H E I hf st hg
  subst hP hw hK
  obtain ⟨xs,x,hq,hx⟩:=hg
  obtain ⟨its,rv,p,hz⟩:=I.list hq
  obtain ⟨u,hu,ru⟩:=rv.get hx
  obtain ⟨f0,f1,f2,f3,f4,f5⟩:=hf it (by simp)
  refine wpAny_pyNext_list_item st p.isList (x:=u) (by simpa using hu) fun h' st' sb=>?_
  have I1:Inv X pins σ H { s with heap:=h' }:=I.turned (t':=s.toks) (fun b o hb e=>(sb.2 b hb).trans e) f0 f1 f3 f4 f5
  obtain ⟨o,e,c,d⟩:=id st'
  exact ⟨u,rfl,Cd (s:={ s with heap:=h' }) e c d (by decide) ⟨x,H,I1,ru,⟨rfl,fun ys hy=>by rw [I.list_inj hy hq];exact hx⟩,st',fun b hb=>(hf b hb).1⟩⟩
 done:=by
  intro X hP hw hK hc i pins s σ H E I hf st hg
  subst hP hw hK
  obtain ⟨xs,hq,hx⟩:=hg
  obtain ⟨its,rv,p,hz⟩:=I.list hq
  obtain ⟨f0,f1,f2,f3,f4,f5⟩:=hf it (by simp)
  have hl:=rv.length
  exact wpAny_pyNext_list_end (I.ok.hd hc) st p.isList (by simp;omega) fun h' eb=>⟨rfl,I.turned (t':=s.toks) (fun b o hb e=>eb b o hb e) f0 f1 f3 f4 f5⟩
 self:=fun _ _ _ _ _ st h=>wpAny_pyIter_listiter st h
theorem Ag {P:Program} {w:World} {K:PySem.W.Frag} {tg:Expr} (a it:Addr):Turn P w K tg (Itt K a) [it] it (fun i h=>h.IsTupleIter it a i) where
 mem:=by simp
 obj:=fun i h st b hb=>by
  have e:b=it:=by simpa using hb
  subst e
  obtain ⟨o,e,c,d⟩:=st
  exact ⟨o,e,fun v z=>by rw [d] at z;cases z⟩
 keep:=fun i h h' st k=>st.at fun o e=>k it (by simp) o e
 item:=by
  intro X hP hw hK hc i pins s σ H E I hf st hg
  subst hP hw hK
  obtain ⟨xs,x,hq,hx⟩:=hg
  obtain ⟨its,rv,p,hz⟩:=I.tuple hq
  obtain ⟨u,hu,ru⟩:=rv.get hx
  obtain ⟨f0,f1,f2,f3,f4,f5⟩:=hf it (by simp)
  refine wpAny_pyNext_tuple_item st (show s.heap.IsTuple a its.toArray from p) (x:=u) (by simpa using hu) fun h' st' sb=>?_
  have I1:Inv X pins σ H { s with heap:=h' }:=I.turned (t':=s.toks) (fun b o hb e=>(sb.2 b hb).trans e) f0 f1 f3 f4 f5
  obtain ⟨o,e,c,d⟩:=id st'
  exact ⟨u,rfl,Cd (s:={ s with heap:=h' }) e c d (by decide) ⟨x,H,I1,ru,⟨rfl,fun ys hy=>by rw [I.tuple_inj hy hq];exact hx⟩,st',fun b hb=>(hf b hb).1⟩⟩
 done:=by
  intro X hP hw hK hc i pins s σ H E I hf st hg
  subst hP hw hK
  obtain ⟨xs,hq,hx⟩:=hg
  obtain ⟨its,rv,p,hz⟩:=I.tuple hq
  obtain ⟨f0,f1,f2,f3,f4,f5⟩:=hf it (by simp)
  have hl:=rv.length
  exact wpAny_pyNext_tuple_end (I.ok.hd hc) st (show s.heap.IsTuple a its.toArray from p) (by simp;omega) fun h' eb=>⟨rfl,I.turned (t':=s.toks) (fun b o hb e=>eb b o hb e) f0 f1 f3 f4 f5⟩
 self:=fun _ _ _ _ _ st h=>wpAny_pyIter_tupleiter st h
theorem Ah {P:Program} {w:World} {K:PySem.W.Frag} {tg:Expr} (it:Addr) (lo:Int) (n:Nat):Turn P w K tg (Itr lo n) [it] it (fun i h=>IsRangeIter h it (lo + (i:Nat) * 1) ((n:Int) - (i:Nat)) 1) where
 mem:=by simp
 obj:=fun i h st b hb=>by
  have e:b=it:=by simpa using hb
  subst e
  exact ⟨_,st,fun v z=>by
   have z':Data.fields _=Data.cell v:=z
   cases z'⟩
 keep:=fun i h h' st k=>k it (by simp) _ st
 item:=by
  intro X hP hw hK hc i pins s σ H E I hf st hg
  subst hP hw hK
  obtain ⟨f0,f1,f2,f3,f4,f5⟩:=hf it (by simp)
  have W:=Walks.range (prog:=X.prog) (w:=X.w) (I.ok.hd hc) it lo 1 n
  refine W.item i s _ _ hg st fun v h' tk hv st' kk=>?_
  obtain ⟨t,rfl⟩:=hv
  have I1:Inv X pins σ H { s with heap:=h',toks:=tk }:=I.turned (fun b o hb e=>kk b o (by simpa using hb) e) f0 f1 f3 f4 f5
  refine ⟨_,rfl,Cd (s:={ s with heap:=h',toks:=tk }) (n := "range_iterator") st' rfl rfl (by decide) ⟨.int (lo + i),H,I1,⟨t,?_⟩,⟨rfl,rfl⟩,st',fun b hb=>(hf b hb).1⟩⟩
  rw [Int.mul_one]
 done:=by
  intro X hP hw hK hc i pins s σ H E I hf st hg
  subst hP hw hK
  obtain ⟨f0,f1,f2,f3,f4,f5⟩:=hf it (by simp)
  exact wpAny_pyNext_range_end (I.ok.hd hc) st (by have:n ≤ i:=hg;omega) fun h' eb=>⟨rfl,I.turned (t':=s.toks) (fun b o hb e=>eb b o hb e) f0 f1 f3 f4 f5⟩
 self:=fun _ _ _ _ _ st h=>wpAny_pyIter_rangeiter st h
end L2
namespace L2
open PySem PySem.Spec PyProof.Rows
section
variable {X:Cx} {tg:Expr}
noncomputable def Qu (K:PySem.W.Frag) (tl:TE):TI:=fun σ H R=>tl σ H fun x H1=>∃ a,x = .ref a∧(∃ xs,SqL K H1 a xs)∧R (Itl K a) H1
noncomputable def S7 (K:PySem.W.Frag) (tl:TE):TI:=fun σ H R=>tl σ H fun x H1=>∃ a,x = .ref a∧(∃ xs,SqT K H1 a xs)∧R (Itt K a) H1
theorem Ce {l:Expr} {tl:TE} (hl:PE X l tl):PI X tg l (Qu X.K tl):=by
 intro pins s σ H R I h
 refine thn (hl pins s σ H _ I h) fun v s1 ⟨x,H1,I1,r1,q1⟩=>?_
 obtain ⟨a,e,⟨xs,hq⟩,q⟩:=q1
 subst e
 cases r1
 obtain ⟨its,rv,p,hz⟩:=I1.list hq
 refine wpAny_pyIter_list p.isList ?_
 refine ⟨s1.heap.objs.size,[s1.heap.objs.size],_,_,H1,rfl,I1.kept (t':=s1.toks) fun b o e=>Heap.get?_push_of_some _ e,Dw a _,⟨_,Heap.get?_push_size _ rfl,rfl,rfl⟩,fun b hb=>?_,q⟩
 have e:b=s1.heap.objs.size:=by simpa using hb
 subst e
 exact I1.fpOk (bG _) (I1.hok.fresh (bG _))
theorem MN {l:Expr} {tl:TE} (hl:PE X l tl):PI X tg l (S7 X.K tl):=by
 intro pins s σ H R I h
 refine thn (hl pins s σ H _ I h) fun v s1 ⟨x,H1,I1,r1,q1⟩=>?_
 obtain ⟨a,e,⟨xs,hq⟩,q⟩:=q1
 subst e
 cases r1
 obtain ⟨its,rv,p,hz⟩:=I1.tuple hq
 refine wpAny_pyIter_tuple (show s1.heap.IsTuple a its.toArray from p) ?_
 refine ⟨s1.heap.objs.size,[s1.heap.objs.size],_,_,H1,rfl,I1.kept (t':=s1.toks) fun b o e=>Heap.get?_push_of_some _ e,Ag a _,⟨_,Heap.get?_push_size _ rfl,rfl,rfl⟩,fun b hb=>?_,q⟩
 have e:b=s1.heap.objs.size:=by simpa using hb
 subst e
 exact I1.fpOk (bG _) (I1.hok.fresh (bG _))
theorem FN {pins:List (Addr × Obj)} {σ:St} {H:Hp} {s:Shared} {R:It→Hp→Prop} {E:Value→Shared→Prop} {lo hi:Int} {t u v:Tok} {tk:Nat} (I:Inv X pins σ H s) (h1 : -(2 ^ 62) ≤ lo) (h2:lo < 2 ^ 62) (h3 : -(2 ^ 62) ≤ hi) (h4:hi < 2 ^ 62)
 (q:R (Itr lo (hi - lo).toNat) H):wpAny (model X.prog X.w) X.A (pyIter (.ref s.heap.objs.size)) (PIE X pins σ tg R) E { s with heap:=s.heap.push { cls:=.type "range", data:=.fields #[.int lo t,.int hi u,.int 1 v] },toks:=tk }:=by
 refine wpAny_pyIter_range (IsRange.new ..) (small_one h1 h2 h3 h4) ?_
 have I1:Inv X pins σ H { s with heap:=s.heap.push { cls:=.type "range", data:=.fields #[.int lo t,.int hi u,.int 1 v] },toks:=tk }:=I.kept fun b o e=>Heap.get?_push_of_some _ e
 refine ⟨(s.heap.push { cls:=.type "range", data:=.fields #[.int lo t,.int hi u,.int 1 v] }).objs.size,[(s.heap.push { cls:=.type "range", data:=.fields #[.int lo t,.int hi u,.int 1 v] }).objs.size],_,_,H,rfl,
  I1.kept (t':=tk) fun b o e=>Heap.get?_push_of_some _ e,Ah _ lo (hi - lo).toNat,?_,fun b hb=>?_,q⟩
 ·have e1:lo + ((0:Nat):Int) * 1=lo:=by simp
  have e2:(((hi - lo).toNat:Nat):Int) - ((0:Nat):Int)=Builtin.Range.rangeSize lo hi 1:=by rw [rangeSize_one];split <;> omega
  show IsRangeIter _ _ (lo + ((0:Nat):Int) * 1) ((((hi - lo).toNat:Nat):Int) - ((0:Nat):Int)) 1
  rw [e1,e2]
  exact Heap.get?_push_size _ rfl
 ·have e:b=(s.heap.push { cls:=.type "range", data:=.fields #[.int lo t,.int hi u,.int 1 v] }).objs.size:=by simpa using hb
  subst e
  exact I1.fpOk (bG _) (I1.hok.fresh (bG _))
noncomputable def Qw (ta:TA):TI:=fun σ H R=>ta σ H fun vs H1=>∃ j:Int,vs=[.int j]∧-(2 ^ 62) ≤ j∧j < 2 ^ 62∧R (Itr 0 j.toNat) H1
theorem Dy {a:Expr} {ta:TA} {p pos:Pos} (hg:Gl X "range") (hm:X.mg "range" = none) (ha:PA X [a] ta) (hs:starEach [a] X.env=[(false,eval a X.env)]:=by rfl):PI X tg (.Call (.Name "range" p) [a] [] pos) (Qw ta):=by
 intro pins s σ H R I h
 refine Call_ (pX I hg hm boot_range (PyProof.Rows.callWith_type1 (thn (ha pos pins s σ H _ I h) fun us s1 ⟨vs,H1,I1,r1,q1⟩=>?_) hs rfl))
 obtain ⟨j,e,q1,q2,q⟩:=q1
 subst e
 cases r1 with
 | cons r rr =>
  cases rr
  obtain ⟨t,rfl⟩:=r
  exact call_range_1 (FN I1 (by omega) (by omega) q1 q2 (by simpa using q))
noncomputable def S8 (wi:TI) (g:TG) (tb:TS):TS:=fun D σ H=>wi σ H fun J H1=>∃ W:Nat→Nat→St→Hp→Prop,(∃ m,W 0 m σ H1)∧∀ i m σ H,W i m σ H →
 (J.stop i H∧D.nx σ H)∨(J.go i H∧∃ N:St→Hp→Prop,(∀ σ' H',N σ' H'→∃ m',m' < m∧W (i + 1) m' σ' H')∧∀ x H',J.yld i H x H'→g x σ H' fun σ2 H2=>tb { D with nx:=N,ct:=N,bk:=D.nx } σ2 H2)
noncomputable def uh (fp:List Addr) (h:Heap):List (Addr × Obj):=fp.filterMap fun b=>(h.get? b).map fun o=>(b,o)
theorem n8 {fp:List Addr} {h:Heap} {b:Addr} {o:Obj} (hb:b ∈ fp) (e:h.get? b=some o):(b,o) ∈ uh fp h:=lW.mpr ⟨b,hb,by rw [e];rfl⟩
theorem Dz {fp:List Addr} {h:Heap} {p:Addr × Obj} (hp:p ∈ uh fp h):p.1 ∈ fp∧h.get? p.1=some p.2:=by
 obtain ⟨b,hb,e⟩:=lW.mp hp
 cases q:h.get? b with
 | none=>rw [q] at e;cases e
 | some o =>
  rw [q] at e
  have e':(b,o)=p:=dH.inj e
  subst e'
  exact ⟨hb,q⟩
theorem Inv.pinned {pins:List (Addr × Obj)} {σ:St} {H:Hp} {s:Shared} {fp:List Addr} (I:Inv X pins σ H s) (hf:∀ b ∈ fp,rM X pins H b) (ho:∀ b ∈ fp,∃ o,s.heap.get? b=some o∧∀ v,o.data ≠ .cell v):Inv X (pins++uh fp s.heap) σ H s :=
 I.pins_of fun p hp=>(cV.mp hp).elim (fun z=>I.pin p (bB _ z)) fun z=>by
  obtain ⟨hb,e⟩:=Dz z
  obtain ⟨f0,f1,f2,_⟩:=hf p.1 hb
  obtain ⟨o,e',d⟩:=ho p.1 hb
  rw [e] at e';cases e'
  exact ⟨e,f0,f1,f2,d⟩
theorem Inv.unpinned {pins pl:List (Addr × Obj)} {σ:St} {H:Hp} {s:Shared} (I:Inv X (pins++pl) σ H s):Inv X pins σ H s:=I.pins_of fun p hp=>I.pin p (bB _ (dX _ hp))
theorem MP {iter:Expr} {body:List Stmt} {wi:TI} {g:TG} {tb:TS} {pos:Pos} (hp:PassesOwn (model X.prog X.w) X.A X.env X.xe) (hc:X.calm=true) (hi:PI X tg iter wi) (hg:PG X tg g) (hb:PSs X body tb)
 (hs:∀ x,foldedSetIterable iter X.env x=pure x:=by intro _;rfl):PS X (.For tg iter body [] pos) (S8 wi g tb):=by
 intro pins s σ H D I h
 refine wpAny_For (thn (hi pins s σ H _ I h) fun v s1 h1=>thn h1 fun itv s2 h2=>?_) hs
 obtain ⟨it,fp,tn,J,H2,e,I2,T,st2,f2,W,⟨m0,w0⟩,turn⟩:=h2
 subst e
 have stat:∀ {H':Hp},(∀ b ∈ fp,H' b=none)→∀ b ∈ fp,rM X pins H' b:=fun hn b hb=>⟨hn b hb,(f2 b hb).2⟩
 refine codeAny_forLoop_any (fun n s'=>∃ i σ' H',Inv X pins σ' H' s'∧tn i s'.heap∧(∀ b ∈ fp,H' b=none)∧W i n σ' H') ?_ m0 ⟨0,σ,H2,I2,st2,fun b hb=>(f2 b hb).1,w0⟩
 rintro n s3 ⟨i,σ3,H3,I3,st3,fr3,w3⟩
 rcases turn i n σ3 H3 w3 with ⟨stop,qn⟩ | ⟨go,N,hN,step⟩
 ·refine wpAny_passesOwn hp (thn (T.done X rfl rfl rfl hc i pins s3 σ3 H3 X.xe I3 (stat fr3) st3 stop) fun r s4 ⟨hr,I4⟩=>?_)
  subst hr
  exact wpAny_execs_nil ⟨σ3,H3,I4,qn⟩
 ·refine wpAny_passesOwn hp (thn (T.item X rfl rfl rfl hc i pins s3 σ3 H3 X.xe I3 (stat fr3) st3 go) fun r s4 ⟨u,hr,h4⟩=>?_)
  subst hr
  refine wpAny_passesOwn hp (thn h4 fun _ s5 ⟨x,H5,I5,r5,y5,st5,fr5⟩=>?_)
  have I5':=I5.pinned (stat fr5) (T.obj _ _ st5)
  refine wpAny_passesOwn hp (thn (hg _ s5 σ3 H5 x u _ I5' r5 (step x H5 y5)) fun _ s6 ⟨σ6,H6,I6,q6⟩=>?_)
  refine wpAny_passesOwn hp (thn (hb _ s6 σ6 H6 _ I6 q6) fun f s7 q7=>?_)
  have again:∀ {σ7:St} {H7:Hp},Inv X (pins++uh fp s5.heap) σ7 H7 s7→N σ7 H7→∃ m,m < n∧∃ i σ' H',Inv X pins σ' H' s7∧tn i s7.heap∧(∀ b ∈ fp,H' b=none)∧W i m σ' H':=fun {σ7 H7} I7 n7=>by
   obtain ⟨m',hm,w7⟩:=hN σ7 H7 n7
   refine ⟨m',hm,i + 1,σ7,H7,I7.unpinned,T.keep _ _ _ st5 fun b hb o e=>(I7.pin (b,o) (bB _ (bB _ (n8 hb e)))).1,fun b hb=>?_,w7⟩
   obtain ⟨o,e,d⟩:=T.obj _ _ st5 b hb
   exact (I7.pin (b,o) (bB _ (bB _ (n8 hb e)))).2.1
  cases f with
  | next=>obtain ⟨σ7,H7,I7,n7⟩:=q7;exact again I7 n7
  | cont=>obtain ⟨σ7,H7,I7,n7⟩:=q7;exact again I7 n7
  | brk=>obtain ⟨σ7,H7,I7,q7⟩:=q7;exact ⟨σ7,H7,I7.unpinned,q7⟩
  | ret v=>obtain ⟨x7,σ7,H7,I7,r7,q7⟩:=q7;exact ⟨x7,σ7,H7,I7.unpinned,r7,q7⟩
end
end L2
namespace L2
open PySem PySem.Spec PyProof.Rows
noncomputable abbrev R2:=V→V→Hp→VK→Prop
noncomputable def OpR (X:Cx) (f:Value→Value→Sem Value) (r:R2):Prop :=
 ∀ (pins:List (Addr × Obj)) (s:Shared) (σ:St) (H:Hp) (x y:V) (v u:Value) (Q:VK),Inv X pins σ H s→RelV x v→RelV y u→r x y H Q →
  wpAny (model X.prog X.w) X.A (f v u) (EP X pins σ Q) X.xe s
noncomputable def UnR (X:Cx) (f:Value→Sem Value) (r:V→Hp→VK→Prop):Prop :=
 ∀ (pins:List (Addr × Obj)) (s:Shared) (σ:St) (H:Hp) (x:V) (v:Value) (Q:VK),Inv X pins σ H s→RelV x v→r x H Q →
  wpAny (model X.prog X.w) X.A (f v) (EP X pins σ Q) X.xe s
noncomputable def pN (X:Cx) (f:Value) (r:List V→Hp→VK→Prop):Prop :=
 ∀ (pins:List (Addr × Obj)) (s:Shared) (σ:St) (H:Hp) (xs:List V) (us:List Value) (Q:VK),Inv X pins σ H s→Vals xs us→r xs H Q →
  wpAny (model X.prog X.w) X.A (call f us) (EP X pins σ Q) X.xe s
noncomputable def tOp (r:R2) (ta tb:TE):TE:=fun σ H Q=>ta σ H fun x H1=>tb σ H1 fun y H2=>r x y H2 Q
noncomputable def tUn (r:V→Hp→VK→Prop) (ta:TE):TE:=fun σ H Q=>ta σ H fun x H1=>r x H1 Q
noncomputable def rI (C:Int→Int→Prop) (g:Int→Int→V):R2:=fun x y H Q=>∃ i j,x = .int i∧y = .int j∧C i j∧Q (g i j) H
noncomputable def rI0 (g:Int→Int→V):R2:=fun x y H Q=>∃ i j,x = .int i∧y = .int j∧Q (g i j) H
noncomputable def rU (g:Int→V):V→Hp→VK→Prop:=fun x H Q=>∃ i,x = .int i∧Q (g i) H
section
variable {X:Cx} {a b c:Expr} {ta tb tc:TE} {pos:Pos}
theorem M4 (ha:PE X a ta) (hb:PE X b tb) {pins:List (Addr × Obj)} {s:Shared} {σ:St} {H:Hp} {R:V→V→Hp→Prop} (I:Inv X pins σ H s)
 (h:ta σ H fun x H1=>tb σ H1 fun y H2=>R x y H2) {Q:Value→Shared→Prop} {f:Value→Value→Sem Value}
 (hf:∀ v u s2 x y H2,Inv X pins σ H2 s2→RelV x v→RelV y u→R x y H2→wpAny (model X.prog X.w) X.A (f v u) Q X.xe s2) :
 wpAny (model X.prog X.w) X.A (eval a X.env) (fun v s₁=>wpAny (model X.prog X.w) X.A (eval b X.env) (fun u s₂=>wpAny (model X.prog X.w) X.A (f v u) Q X.xe s₂) X.xe s₁) X.xe s:=by
 refine thn (ha pins s σ H _ I h) fun v s1 ⟨x,H1,I1,r1,q1⟩=>?_
 refine thn (hb pins s1 σ H1 _ I1 q1) fun u s2 ⟨y,H2,I2,r2,q2⟩=>?_
 exact hf v u s2 x y H2 I2 r1 r2 q2
theorem FP {op:Operator} {r:R2} (ho:OpR X (binaryOp op) r) (ha:PE X a ta) (hb:PE X b tb):PE X (.BinOp a op b pos) (tOp r ta tb):=by
 intro pins s σ H Q I h
 exact wpAny_BinOp (M4 ha hb I h fun v u s2 x y H2 I2 rx ry q=>ho pins s2 σ H2 x y v u Q I2 rx ry q)
theorem Qx {op:UnaryOp} {r:V→Hp→VK→Prop} (ho:UnR X (unaryOp op) r) (ha:PE X a ta):PE X (.UnaryOp op a pos) (tUn r ta):=by
 intro pins s σ H Q I h
 exact UnaryOp_ (thn (ha pins s σ H _ I h) fun v s1 ⟨x,H1,I1,r1,q1⟩=>ho pins s1 σ H1 x v Q I1 r1 q1)
theorem opI {f:Value→Value→Sem Value} {C:Int→Int→Prop} {g:Int→Int→Int}
 (rule:∀ (i j:Int) (t u:Tok) (s:Shared) (Q:Value→Shared→Prop) (E:Value→Shared→Prop),C i j→Q (.int (g i j) s.toks) { s with toks:=s.toks + 1 }→wpAny (model X.prog X.w) X.A (f (.int i t) (.int j u)) Q E s) :
 OpR X f (rI C fun i j=>.int (g i j)):=by
 intro pins s σ H x y v u Q I rx ry h
 obtain ⟨i,j,rfl,rfl,hc,q⟩:=h
 obtain ⟨t,rfl⟩:=rx
 obtain ⟨t',rfl⟩:=ry
 exact rule i j t t' s _ _ hc ⟨.int (g i j),H,I.tok _,⟨_,rfl⟩,q⟩
theorem Qy {f:Value→Value→Sem Value} {g:Int→Int→Int}
 (rule:∀ (i j:Int) (t u:Tok) (s:Shared) (Q:Value→Shared→Prop) (E:Value→Shared→Prop),Q (.int (g i j) s.toks) { s with toks:=s.toks + 1 }→wpAny (model X.prog X.w) X.A (f (.int i t) (.int j u)) Q E s) :
 OpR X f (rI0 fun i j=>.int (g i j)):=by
 intro pins s σ H x y v u Q I rx ry h
 obtain ⟨i,j,rfl,rfl,q⟩:=h
 obtain ⟨t,rfl⟩:=rx
 obtain ⟨t',rfl⟩:=ry
 exact rule i j t t' s _ _ ⟨.int (g i j),H,I.tok _,⟨_,rfl⟩,q⟩
theorem Jc {f:Value→Value→Sem Value} {g:Int→Int→Bool}
 (rule:∀ (i j:Int) (t u:Tok) (s:Shared) (Q:Value→Shared→Prop) (E:Value→Shared→Prop),Q (.bool (g i j)) s→wpAny (model X.prog X.w) X.A (f (.int i t) (.int j u)) Q E s) :
 OpR X f (rI0 fun i j=>.bl (g i j)):=by
 intro pins s σ H x y v u Q I rx ry h
 obtain ⟨i,j,rfl,rfl,q⟩:=h
 obtain ⟨t,rfl⟩:=rx
 obtain ⟨t',rfl⟩:=ry
 exact rule i j t t' s _ _ ⟨.bl (g i j),H,I,rfl,q⟩
noncomputable def M5 (i j:Int):Prop:=0 ≤ j∧j ≤ 1000000∧i.natAbs < 2 ^ 64
theorem fX:OpR X (binaryOp .Add) (rI0 fun i j=>.int (i + j)):=Qy fun _ _ _ _ _ _ _ q=>add_int q
theorem pY:OpR X (binaryOp .Sub) (rI0 fun i j=>.int (i - j)):=Qy fun _ _ _ _ _ _ _ q=>sub_int q
theorem dD:OpR X (binaryOp .Mod) (rI (fun _ j=>j ≠ 0) fun i j=>.int (i.fmod j)):=opI fun _ _ _ _ _ _ _ hc q=>mod_int' hc q
theorem um:OpR X (binaryOp .Pow) (rI M5 fun i j=>.int (i ^ j.toNat)):=opI fun _ _ _ _ _ _ _ hc q=>pow_int_small hc.1 hc.2.1 hc.2.2 q
theorem unI {f:Value→Sem Value} {g:Int→Int}
 (rule:∀ (i:Int) (t:Tok) (s:Shared) (Q:Value→Shared→Prop) (E:Value→Shared→Prop),Q (.int (g i) s.toks) { s with toks:=s.toks + 1 }→wpAny (model X.prog X.w) X.A (f (.int i t)) Q E s) :
 UnR X f (rU fun i=>.int (g i)):=by
 intro pins s σ H x v Q I rx h
 obtain ⟨i,rfl,q⟩:=h
 obtain ⟨t,rfl⟩:=rx
 exact rule i t s _ _ ⟨.int (g i),H,I.tok _,⟨_,rfl⟩,q⟩
theorem M6:UnR X (unaryOp .USub) (rU fun i=>.int (-i)):=unI fun _ _ _ _ _ q=>neg_int q
end
section
variable {X:Cx} {a b c:Expr} {ta tb tc:TE} {pos:Pos}
theorem lq:OpR X (compareOp .Lt) (rI0 fun i j=>.bl (decide (i < j))):=Jc fun _ _ _ _ _ _ _ q=>lt_int q
theorem lZ:OpR X (compareOp .LtE) (rI0 fun i j=>.bl (decide (i ≤ j))):=Jc fun _ _ _ _ _ _ _ q=>le_int q
theorem uo:OpR X (compareOp .Gt) (rI0 fun i j=>.bl (decide (j < i))):=Jc fun _ _ _ _ _ _ _ q=>gt_int q
theorem FQ:OpR X (compareOp .GtE) (rI0 fun i j=>.bl (decide (j ≤ i))):=Jc fun _ _ _ _ _ _ _ q=>ge_int q
theorem cJ (b:Expr) {op:CmpOp} (h:op ≠ .In:=by decide) (h2:op ≠ .NotIn:=by decide):behindInMarks op b=false:=by
 have e1:(op == CmpOp.In)=false:=by cases op <;> first | rfl | exact absurd rfl h
 have e2:(op == CmpOp.NotIn)=false:=by cases op <;> first | rfl | exact absurd rfl h2
 cases b <;> simp [behindInMarks,e1,e2]
theorem Jd {op:CmpOp} {r:R2} (ho:OpR X (compareOp op) r) (ha:PE X a ta) (hb:PE X b tb) (hm:behindInMarks op b=false):PE X (.Compare a [op] [b] pos) (tOp r ta tb):=by
 intro pins s σ H Q I h
 exact wpAny_Compare1 (M4 ha hb I h fun v u s2 x y H2 I2 rx ry q=>ho pins s2 σ H2 x y v u Q I2 rx ry q) hm
noncomputable def Li (t:TE):TT:=fun σ H Q=>t σ H fun x H'=>∃ k,x = .bl k∧Q k H'
theorem Je {op:CmpOp} {r:R2} (ho:OpR X (compareOp op) r) (ha:PE X a ta) (hb:PE X b tb) (hm:behindInMarks op b=false):PT X (.Compare a [op] [b] pos) (Li (tOp r ta tb)):=by
 intro pins s σ H Q I h
 refine wpAny_isTrue_Compare1 (thn (ha pins s σ H _ I h) fun v s1 ⟨x,H1,I1,r1,q1⟩=>thn (hb pins s1 σ H1 _ I1 q1) fun u s2 ⟨y,H2,I2,r2,q2⟩ =>
  thn (ho pins s2 σ H2 x y v u _ I2 r1 r2 q2) fun c s3 ⟨z,H3,I3,r3,k,e,q3⟩=>?_) hm
 subst e
 cases r3
 exact wpAny_truthy_bool ⟨H3,I3,q3⟩
noncomputable def FW (r r':R2) (ta tb tc:TE):TE:=fun σ H Q=>ta σ H fun x H1=>tb σ H1 fun y H2=>r x y H2 fun z H3=>∃ k,z = .bl k ∧
 (if k=true then tc σ H3 fun w' H4=>r' y w' H4 Q else Q (.bl false) H3)
theorem FZ {op op':CmpOp} {r r':R2} (ho:OpR X (compareOp op) r) (ho':OpR X (compareOp op') r') (ha:PE X a ta) (hb:PE X b tb) (hc:PE X c tc)
 (hm:lastMarks [op,op'] [b,c]=false:=by with_unfolding_all rfl):PE X (.Compare a [op,op'] [b,c] pos) (FW r r' ta tb tc):=by
 intro pins s σ H Q I h
 refine Compare_chain (thn (ha pins s σ H _ I h) fun v s1 ⟨x,H1,I1,r1,q1⟩=>chain_link (thn (hb pins s1 σ H1 _ I1 q1) fun u s2 ⟨y,H2,I2,r2,q2⟩ =>
  thn (ho pins s2 σ H2 x y v u _ I2 r1 r2 q2) fun d s3 ⟨z,H3,I3,r3,k,e,q3⟩=>?_)) hm
 subst e
 cases r3
 refine wpAny_truthy_bool ?_
 cases k with
 | false=>exact ite_ff ⟨.bl false,H3,I3,rfl,q3⟩
 | true=>exact ite_tt (chain_last (thn (hc pins s3 σ H3 _ I3 q3) fun w' s4 ⟨z',H4,I4,r4,q4⟩=>ho' pins s4 σ H4 y z' u w' Q I4 r2 r4 q4))
theorem Ga {op op':CmpOp} {r r':R2} (ho:OpR X (compareOp op) r) (ho':OpR X (compareOp op') r') (ha:PE X a ta) (hb:PE X b tb) (hc:PE X c tc)
 (hm:lastMarks [op,op'] [b,c]=false:=by with_unfolding_all rfl):PT X (.Compare a [op,op'] [b,c] pos) (Li (FW r r' ta tb tc)):=by
 intro pins s σ H Q I h
 refine isTrue_chain (thn (ha pins s σ H _ I h) fun v s1 ⟨x,H1,I1,r1,q1⟩=>test_link (thn (hb pins s1 σ H1 _ I1 q1) fun u s2 ⟨y,H2,I2,r2,q2⟩ =>
  thn (ho pins s2 σ H2 x y v u _ I2 r1 r2 q2) fun d s3 ⟨z,H3,I3,r3,k,e,q3⟩=>?_)) hm
 subst e
 cases r3
 refine wpAny_truthy_bool ?_
 cases k with
 | false =>
  obtain ⟨k',e',q'⟩:=q3
  cases e'
  exact ite_ff ⟨H3,I3,q'⟩
 | true =>
  refine ite_tt (test_last (thn (hc pins s3 σ H3 _ I3 q3) fun w' s4 ⟨z',H4,I4,r4,q4⟩=>thn (ho' pins s4 σ H4 y z' u w' _ I4 r2 r4 q4) fun d' s5 ⟨z2,H5,I5,r5,k2,e2,q5⟩=>?_))
  subst e2
  cases r5
  exact wpAny_truthy_bool ⟨H5,I5,q5⟩
theorem uq:(sizeLine:Nat) < 2 ^ 63:=by rw [sizeLine_eq];decide
theorem vals1 {x:V} {us:List Value} (r:Vals [x] us):∃ u,us=[u]∧RelV x u:=by
 cases r with
 | cons r1 r2=>cases r2;exact ⟨_,rfl,r1⟩
theorem vals2 {x y:V} {us:List Value} (r:Vals [x,y] us):∃ u w',us=[u,w']∧RelV x u∧RelV y w':=by
 cases r with
 | cons r1 r2 =>
  cases r2 with
  | cons r3 r4=>cases r4;exact ⟨_,_,rfl,r1,r3⟩
theorem DK (hc:X.calm=true):pN X (.builtin "max") (fun xs H Q=>∃ i j,xs=[.int i,.int j]∧Q (.int (if j > i then j else i)) H):=by
 intro pins s σ H xs us Q I r h
 obtain ⟨i,j,rfl,q⟩:=h
 obtain ⟨u,w',rfl,⟨t,rfl⟩,⟨t',rfl⟩⟩:=vals2 r
 refine max_two_ints (I.ok.hd hc) fun h' tk k=>⟨_,H,I.kept k,?_,q⟩
 by_cases hj:j > i
 ·rw [if_pos hj,if_pos hj];exact ⟨_,rfl⟩
 ·rw [if_neg hj,if_neg hj];exact ⟨_,rfl⟩
theorem DN (hc:X.calm=true):pN X (.builtin "min") (fun xs H Q=>∃ i j,xs=[.int i,.int j]∧Q (.int (if j < i then j else i)) H):=by
 intro pins s σ H xs us Q I r h
 obtain ⟨i,j,rfl,q⟩:=h
 obtain ⟨u,w',rfl,⟨t,rfl⟩,⟨t',rfl⟩⟩:=vals2 r
 refine min_two_ints (I.ok.hd hc) fun h' tk k=>⟨_,H,I.kept k,?_,q⟩
 by_cases hj:j < i
 ·rw [if_pos hj,if_pos hj];exact ⟨_,rfl⟩
 ·rw [if_neg hj,if_neg hj];exact ⟨_,rfl⟩
end
end L2
namespace L2
open PySem PySem.Spec PyProof.Rows
structure ObjM (h:Heap) (x dx C:Addr) (mA:Str→Option Value):Prop where
 obj:h.get? x=some (PySem.W.instObj C dx)
 ns:h.Ns1 dx mA
 ne:dx ≠ x
theorem DP {h:Heap} {dx:Addr} {mA:Str→Option Value} (n:h.Ns1 dx mA):∃ od,h.get? dx=some od∧∀ name,PySem.W.lookIn name od=some (mA name):=by
 obtain ⟨o,es,ep,ho,hd,hk,_,hm⟩:=n
 refine ⟨o,ho,fun name=>?_⟩
 have e:=hm name
 unfold nsFind findBy at e
 rw [← Array.find?_toList] at e
 unfold PySem.W.lookIn
 rw [hd]
 dsimp only
 split
 ·rename_i y q
  rw [q] at e
  exact congrArg some e
 ·rename_i q
  rw [q] at e
  have a:es.toList.any (·.refKey)=false:=by
   rw [List.any_eq_false]
   intro y hy
   obtain ⟨z,t,hkey⟩:=hk y (Array.mem_toList_iff.mp hy)
   simp [DictEntry.refKey,hkey]
  have a':¬ es.toList.any (·.refKey)=true:=by rw [a];exact bC
  rw [if_neg a']
  exact congrArg some e
theorem ObjM.look {h:Heap} {x dx C:Addr} {mA:Str→Option Value} (I:ObjM h x dx C mA):∃ od,PySem.W.InstAt h x (PySem.W.instObj C dx) C (some od)∧∀ name,PySem.W.lookIn name od=some (mA name) :=
 let ⟨od,ho,hl⟩:=DP I.ns
 ⟨od,⟨I.obj,rfl,rfl,ho⟩,hl⟩
section
variable {prog:Program} {w:World} {A:Around} {E:Value→Shared→Prop} {s:Shared} {K:PySem.W.Frag} {x dx C f:Addr} {mA:Str→Option Value} {name:Str} {v:Value}
end
section
variable {P:Program} {w:World} {H H':Hp} {h h':Heap} {a C dx:Addr} {fs fs':List (Str × V)}
theorem Jf (hok:HOk P w H h) (e:H a=some (.ins C dx fs)):∃ mA,ObjM h a dx C mA∧(∀ f,Mi (fs.lookup f) (mA f))∧PySem.Within mA (fs.map (·.1))∧fs.length ≤ 1000∧H dx=some (.own a):=by
 obtain ⟨d,z,ne,ob,mA,n,r,q⟩:=(show jV P w H h a (.ins C dx fs) from hok a _ e)
 exact ⟨mA,⟨ob,n,ne⟩,r,q,z,d⟩
end
structure Cls (K:PySem.W.Frag) (C:Addr):Prop where
 pg:PySem.W.plainGet K C Str.empty=true
 hd:PySem.W.hasDictIn K C=true
 po:PySem.W.plainOver K C=true
 sa:PySem.W.findIn K (.ref C) "__setattr__" = some (some (.builtin "object.__setattr__"))
theorem Cls.get {K:PySem.W.Frag} {C:Addr} (c:Cls K C) (f:Str):PySem.W.plainGet K C f=true:=c.pg
structure Con (K:PySem.W.Frag) (C:Addr) (f:Str) (v:V) (u:Value):Prop where
 at_:PySem.W.findIn K (.ref C) f=some (some u)
 rel:RelV v u
 get:PySem.W.specialIn K u "__get__" = some none
 cp:PySem.W.copiedNames.contains f=false
structure Meth (K:PySem.W.Frag) (C:Addr) (m:Str) (f:Addr):Prop where
 at_:PySem.W.findIn K (.ref C) m=some (some (.ref f))
 fn:PySem.W.isFn K (.ref f)=true
 kp:PySem.W.keepIn K (.ref f)=true
section
variable {X:Cx} {pins:List (Addr × Obj)} {σ:St} {H:Hp} {s:Shared} {a C dx:Addr} {fs:List (Str × V)} {f:Str} {v:V} {A:Around} {E:Value→Shared→Prop}
end
section
variable {X:Cx} {o e value:Expr} {f:Str} {pos pos' tpos:Pos} {ta tv:TE}
end
section
variable {X:Cx} {pins:List (Addr × Obj)} {σ:St} {H:Hp} {s:Shared} {A:Around} {E:Value→Shared→Prop} {Q:Value→Shared→Prop} {c:Value} {b:Bool}
inductive TyOf (K:PySem.W.Frag) (H:Hp):V→Value→Prop where
 | non:TyOf K H .non (.type "NoneType")
 | bl (x:Bool):TyOf K H (.bl x) (.type "bool")
 | int (i:Int):TyOf K H (.int i) (.type "int")
 | str (x:Str):TyOf K H (.str x) (.type "str")
 | flt (x:UInt64):TyOf K H (.flt x) (.type "float")
 | lst {a:Addr} {xs:List V} (e:H a=some (.lst xs)):TyOf K H (.ref a) (.type "list")
 | frz {a:Addr} {o:Obj} {xs:List V} (e:H a=some (.frz o (.lst xs))):TyOf K H (.ref a) (.type "list")
 | tup {a:Addr} {xs:List V} (e:H a=some (.tup xs)):TyOf K H (.ref a) (.type "tuple")
 | dK {a:Addr} {kvs:List (Key × V)} (e:H a=some (.dK kvs)):TyOf K H (.ref a) (.type "dict")
 | dT {a:Addr} {kvs:List (List Key × V)} (e:H a=some (.dT kvs)):TyOf K H (.ref a) (.type "dict")
 | ins {a C dx:Addr} {fs:List (Str × V)} (e:H a=some (.ins C dx fs)) (cl:Cls K C) (ha:PySem.W.findIn K (.ref C) "__class__" = some (some (.builtin "object.__class__")))
  (hn:PySem.W.specialIn K (.builtin "object.__class__") "__get__" = some (some (.builtin "getset_descriptor.__get__"))) (htk:PySem.W.takesIn K (.builtin "object.__class__")=some true)
  (hm:PySem.W.mroIn K C (.type "object")=some true):TyOf K H (.ref a) (.ref C)
theorem vO {x:V} {u t:Value} (I:Inv X pins σ H s) (rx:RelV x u) (ty:TyOf X.K H x t) (e:PySem.W.kitOne X.K t c=some b) (h:∀ tk,Q (.bool b) { s with toks:=tk }) :
 wpAny (model X.prog X.w) A (call (.builtin "isinstance") [u,c]) Q E s:=by
 cases ty with
 | non=>cases (show u=Value.none from rx);exact PySem.W.kia_one PySem.W.kitx_none I.kIn True.intro e (fun z=>nomatch z) h
 | bl y=>cases (show u=Value.bool y from rx);exact PySem.W.kia_one PySem.W.kitx_bool I.kIn True.intro e (fun z=>nomatch z) h
 | int i=>obtain ⟨t,q⟩:=(show ∃ t,u=Value.int i t from rx);cases q;exact PySem.W.kia_one PySem.W.kitx_int I.kIn True.intro e (fun z=>nomatch z) h
 | str y=>obtain ⟨t,q⟩:=(show ∃ t,u=Value.str y t from rx);cases q;exact PySem.W.kia_one PySem.W.kitx_str I.kIn True.intro e (fun z=>nomatch z) h
 | flt y=>obtain ⟨t,q⟩:=(show ∃ t,u=Value.float y t from rx);cases q;exact PySem.W.kia_one PySem.W.kitx_float I.kIn True.intro e (fun z=>nomatch z) h
 | @lst a xs ea =>
  cases (show u=Value.ref a from rx)
  obtain ⟨_,_,n,_,h1⟩:=(show jV X.prog X.w H s.heap a (.lst xs) from I.hok a _ ea)
  exact PySem.W.kia_one PySem.W.kitx_list I.kIn ⟨_,h1,rfl⟩ e (fun z=>nomatch z) h
 | @frz a ob xs ea =>
  cases (show u=Value.ref a from rx)
  obtain ⟨_,_,_,n,_,h1⟩:=(show jV X.prog X.w H s.heap a (.frz ob (.lst xs)) from I.hok a _ ea)
  exact PySem.W.kia_one PySem.W.kitx_list I.kIn ⟨_,h1,rfl⟩ e (fun z=>nomatch z) h
 | @tup a xs ea =>
  cases (show u=Value.ref a from rx)
  obtain ⟨_,_,_,p⟩:=(show jV X.prog X.w H s.heap a (.tup xs) from I.hok a _ ea)
  obtain ⟨o,h1,h2,_⟩:=p
  exact PySem.W.kia_one PySem.W.kitx_tuple I.kIn ⟨o,h1,h2⟩ e (fun z=>nomatch z) h
 | @dK a kvs ea =>
  cases (show u=Value.ref a from rx)
  obtain ⟨_,_,vs,_,p⟩:=(show jV X.prog X.w H s.heap a (.dK kvs) from I.hok a _ ea)
  obtain ⟨o,es,ep,h1,h2,_⟩:=p
  exact PySem.W.kia_one PySem.W.kitx_dict I.kIn ⟨o,h1,h2.1⟩ e (fun z=>nomatch z) h
 | @dT a kvs ea =>
  cases (show u=Value.ref a from rx)
  obtain ⟨_,_,xs,_,o,es,ep,h1,h2,_⟩:=(show jV X.prog X.w H s.heap a (.dT kvs) from I.hok a _ ea)
  exact PySem.W.kia_one PySem.W.kitx_dict I.kIn ⟨o,h1,h2.1⟩ e (fun z=>nomatch z) h
 | @ins a C dx fs ea cl ha hn htk hm =>
  cases (show u=Value.ref a from rx)
  obtain ⟨mA,O,_⟩:=Jf I.hok ea
  obtain ⟨od,J,_⟩:=O.look
  exact PySem.W.kia_one (PySem.W.kitx_own (cl.get _) cl.hd ha hn htk hm) I.kIn J e (fun z=>nomatch z) h
end
end L2
namespace L2
open PySem PySem.Spec PyProof.Rows
structure Room (k:Nat) (A:Around):Prop where
 hd:A.handled=none
 dp:A.depth + 3 * k + 5 < recursionLimit
 un:A.units + 16 * k + 200 < cLine
theorem Room.mono {j k:Nat} {A:Around} (r:Room k A) (h:j ≤ k):Room j A:=⟨r.hd,by have:=r.dp;omega,by have:=r.un;omega⟩
theorem Room.deeper {k:Nat} {A:Around} (r:Room (k + 1) A) (env:Env):Room k (A.deeper env) :=
 ⟨r.hd,by have:=r.dp;show A.depth + 1 + 3 * k + 5 < _;omega,by have:=r.un;show A.units + 3 + 16 * k + 200 < _;omega⟩
theorem Room.depth {k:Nat} {A:Around} (r:Room k A):A.depth < recursionLimit:=by have:=r.dp;omega
theorem Room.units {k:Nat} {A:Around} (r:Room k A):A.units + 64 < cLine:=by have:=r.un;omega
noncomputable def S9:TA:=fun _ H Q=>Q [] H
noncomputable def Qz (ta:TE) (tr:TA):TA:=fun σ H Q=>ta σ H fun x H1=>tr σ H1 fun xs H2=>Q (x :: xs) H2
section
variable {X:Cx} {e:Expr} {es:List Expr} {te:TE} {t:TA} {pos:Pos}
theorem m9:PA X [] S9:=fun _ _ _ _ H Q I h=>Calls.spliced_nil ⟨[],H,I,.nil,h⟩
theorem gU (ha:PE X e te) (hr:PA X es t) (hs:starEach (e :: es) X.env=(false,eval e X.env) :: starEach es X.env:=by rfl):PA X (e :: es) (Qz te t):=by
 intro pos pins s σ H Q I h
 rw [hs]
 show wpAny _ _ (spliced ((false,eval e X.env) :: backTo pos (starEach es X.env))) _ _ s
 refine Calls.spliced_cons (thn (ha pins s σ H _ I h) fun u s1 ⟨x,H1,I1,r1,q1⟩=>?_)
 exact thn (hr pos pins s1 σ H1 _ I1 q1) fun us s2 ⟨xs,H2,I2,r2,q2⟩=>⟨x :: xs,H2,I2,.cons r1 r2,q2⟩
noncomputable def S_ (t:TA):TE:=fun σ H Q=>t σ H fun xs H1=>xs.length ≤ sizeLine∧∀ p,H1 p=none→Q (.ref p) (upd H1 p (.tup xs))
noncomputable def Tc (t:TA):TE:=fun σ H Q=>t σ H fun xs H1=>xs.length ≤ sizeLine∧∀ p,H1 p=none→Q (.ref p) (upd H1 p (.lst xs))
theorem Gb {x1} (h:PA X es t):PE X (.Tuple es x1 pos) (S_ t):=by
 intro pins s σ H Q I hq
 refine wpAny_Tuple_spliced (thn (h pos pins s σ H _ I hq) fun us s1 ⟨xs,H1,I1,r,z,q⟩=>⟨by rw [← r.length];exact z,?_⟩)
 have hf:H1 s1.heap.objs.size=none:=I1.hok.fresh (bG _)
 refine ⟨.ref s1.heap.objs.size,upd H1 s1.heap.objs.size (.tup xs),I1.laid (t':=s1.toks) (fun b u e=>Heap.get?_push_of_some _ e) (bG _) ?_,rfl,q _ hf⟩
 exact ⟨z,us,r,⟨_,Heap.get?_push_size _ rfl,rfl,_,rfl⟩⟩
theorem Ai (h:PA X es t):PE X (.List es pos) (Tc t):=by
 intro pins s σ H Q I hq
 refine wpAny_List_spliced (thn (h pos pins s σ H _ I hq) fun us s1 ⟨xs,H1,I1,r,z,q⟩=>⟨by rw [← r.length];exact z,?_⟩)
 have hf:H1 s1.heap.objs.size=none:=I1.hok.fresh (bG _)
 refine ⟨.ref s1.heap.objs.size,upd H1 s1.heap.objs.size (.lst xs),I1.laid (t':=s1.toks) (fun b u e=>Heap.get?_push_of_some _ e) (bG _) ?_,rfl,q _ hf⟩
 exact ⟨z,us,0,r,Heap.get?_push_size _ rfl⟩
end
noncomputable abbrev Sp:=List V→Hp→VK→XK→Prop
noncomputable abbrev CXT:=List Env→Hp→Shared→XK→Value→Shared→Prop
structure Env0 (P:Program) (w:World) (K:PySem.W.Frag) (mg:Str→Option Value) (base:Heap) (A:Around) (outer:List Env) (s:Shared) (H:Hp):Prop where
 frames:A.frames=some outer
 mod:Mod K mg base
 bs:∀ b o,base.get? b=some o→s.heap.get? b=some o∧H b=none
 bsz:base.objs.size ≤ s.heap.objs.size
 funs:s.heap.FunFrames base outer
 frf:∀ b ∈ frs outer,H b=none
 hok:HOk P w H s.heap
 bare:AllBare s.gens
noncomputable def CE (outer:List Env) (P:Program) (w:World) (H:Hp) (s:Shared) (Q:VK) (u:Value) (s':Shared):Prop :=
 ∃ v H',s'.os=s.os∧AllBare s'.gens∧Un (frs outer) [] H H' s.heap s'.heap∧HOk P w H' s'.heap∧RelV v u∧Q v H'
noncomputable def CR (CX:CXT) (outer:List Env) (P:Program) (w:World) (H:Hp) (s:Shared) (Q:VK) (E:XK) (r:Result) (s':Shared):Prop :=
 match r with
 | .ok (.ret u)=>CE outer P w H s Q u s'
 | .ok _=>False
 | .error e=>CX outer H s E e s'
structure FnOk (P:Program) (w:World) (K:PySem.W.Frag) (mg:Str→Option Value) (base:Heap) (CX:CXT) (k:Nat) (f:Addr) (fd:FuncData) (ps:List Str) (sp:Sp):Prop where
 len:∀ vs H Q E,sp vs H Q E→vs.length=ps.length
 run:∀ (A:Around) (outer:List Env) (s:Shared) (H:Hp) (args:Args) (us:List Value) (vs:List V) (Q:VK) (E:XK),Room k A→Env0 P w K mg base A outer s H→BindsTo s fd args (ps.zip us)→Vals vs us→sp vs H Q E →
  codeAny (model P w) A (.call (.ref f) args) (CR CX outer P w H s Q E) s
theorem FnOk.mono {P:Program} {w:World} {K:PySem.W.Frag} {mg:Str→Option Value} {base:Heap} {CX:CXT} {j k:Nat} {f:Addr} {fd:FuncData} {ps:List Str} {sp:Sp} (F:FnOk P w K mg base CX j f fd ps sp) (h:j ≤ k) :
 FnOk P w K mg base CX k f fd ps sp:=⟨F.len,fun A outer s H args us vs Q E hr=>F.run A outer s H args us vs Q E (hr.mono h)⟩
theorem FnOk.imp {P:Program} {w:World} {K:PySem.W.Frag} {mg:Str→Option Value} {base:Heap} {CX:CXT} {k:Nat} {f:Addr} {fd:FuncData} {ps:List Str} {sp sp':Sp} (F:FnOk P w K mg base CX k f fd ps sp)
 (h:∀ vs H Q E,sp' vs H Q E→sp vs H Q E):FnOk P w K mg base CX k f fd ps sp' :=
 ⟨fun vs H Q E q=>F.len vs H Q E (h _ _ _ _ q),fun A outer s H args us vs Q E hr he hb hv hs=>F.run A outer s H args us vs Q E hr he hb hv (h _ _ _ _ hs)⟩
section
variable {X:Cx} {pins:List (Addr × Obj)} {σ:St} {H:Hp} {s s':Shared}
theorem Inv.env0 (I:Inv X pins σ H s):Env0 X.prog X.w X.K X.mg X.base X.A X.stack s H :=
 ⟨I.ok.frames,I.ok.mod,I.bs,dB I.ok.bsz I.sz,I.stack,I.stkFree,I.hok,I.bare⟩
theorem Inv.after {Q:VK} {u:Value} (I:Inv X pins σ H s) (h:CE X.stack X.prog X.w H s Q u s'):EP X pins σ Q u s':=by
 obtain ⟨v,H',os,bare,un,hok,r,q⟩:=h
 obtain ⟨hh,g,d,t,os'⟩:=s'
 obtain rfl:os'=s.os:=os
 exact ⟨v,H',I.call (h':=hh) (g':=g) (d':=d) (t':=t) (ch:=[]) un hok bare (fun b z=>absurd z (by simp)),r,q⟩
end
noncomputable def Lj (sp:Sp) (dvs:List V) (E:XK) (t:TA):TE:=fun σ H Q=>t σ H fun vs H1=>sp (vs++dvs) H1 Q E
noncomputable def Binds (K:PySem.W.Frag) (fd:FuncData) (ps:List Str) (ds:List Value):Prop :=
 ∀ (s:Shared) (us:List Value),K.In s.heap→(us++ds).length=ps.length→BindsTo s fd ⟨us,[]⟩ (ps.zip (us++ds))
theorem Binds.all {K:PySem.W.Frag} {fd:FuncData} {ps:List Str} (h:∀ us:List Value,us.length=ps.length→bindArgs fd ⟨us,[]⟩=pure (ps.zip us)):Binds K fd ps []:=fun s us _ hl=>by
 rw [i_] at hl ⊢
 exact .of_eq (h us hl)
noncomputable def Passes (CX:CXT) (X:Cx) (E:XK):Prop:=∀ (pins:List (Addr × Obj)) (σ:St) (H:Hp) (s:Shared) (e:Value) (s':Shared),Inv X pins σ H s→CX X.stack H s E e s'→X.xe e s'
section
variable {X:Cx} {CX:CXT} {k:Nat} {f C:Addr} {fd:FuncData} {ps:List Str} {sp:Sp} {dvs:List V} {ds:List Value} {E:XK} {x m:Str} {p pos apos:Pos} {e o:Expr} {es:List Expr} {ta:TE} {t:TA}
theorem M7 {pins:List (Addr × Obj)} {σ:St} {H:Hp} {s:Shared} {Q:VK} {us:List Value} {vs:List V} (F:FnOk X.prog X.w X.K X.mg X.base CX k f fd ps sp) (hr:Room k X.A) (hb:Binds X.K fd ps ds) (hd:Vals dvs ds) (hx:Passes CX X E)
 (I:Inv X pins σ H s) (r:Vals vs us) (h:sp (vs++dvs) H Q E):wpAny (model X.prog X.w) X.A (call (.ref f) us) (EP X pins σ Q) X.xe s:=by
 have r2:Vals (vs++dvs) (us++ds):=r.append hd
 have hl:(us++ds).length=ps.length:=by rw [← r2.length];exact F.len _ _ _ _ h
 refine wpAny_call (codeAny_mono (F.run X.A X.stack s H ⟨us,[]⟩ (us++ds) (vs++dvs) Q E hr I.env0 (hb s us I.kIn hl) r2 h) fun r s' hq=>?_)
 cases r with
 | error e=>exact hx pins σ H s e s' I hq
 | ok fl =>
  cases fl with
  | ret u=>exact I.after hq
  | next=>exact False.elim hq
  | brk=>exact False.elim hq
  | cont=>exact False.elim hq
theorem Jg (F:FnOk X.prog X.w X.K X.mg X.base CX k f fd ps sp) (hr:Room k X.A) (hg:Gl X x) (hm:X.mg x=some (.ref f)) (hk:PySem.W.keepIn X.K (.ref f)=true) (hb:Binds X.K fd ps ds) (hd:Vals dvs ds) (hx:Passes CX X E)
 (ha:PA X (e :: es) t) (hdb:(x == ("__debug__" : Str))=false:=by decide) (he:starEach (e :: es) X.env=(false,eval e X.env) :: starEach es X.env:=by rfl) (hpl:(backTo pos (starEach es X.env)).any (·.1)=false:=by rfl) :
 PE X (.Call (.Name x p) (e :: es) [] pos) (Lj sp dvs E t):=by
 intro pins s σ H Q I h
 refine wpAny_Call_Name_kw (BX I hg hm ?_ hdb)
 refine PySem.W.callWith_K (h₀:=X.base) I.ok.mod.kin hk (thn (ha pos pins s σ H _ I h) fun us s1 ⟨vs,H1,I1,r,q⟩=>⟨I1.kIn,?_⟩) he hpl
 exact M7 F hr hb hd hx I1 r q
structure Mk (K:PySem.W.Frag) (C f:Addr):Prop where
 makes:PySem.W.makesIn K C=true
 init:PySem.W.findIn K (.ref C) "__init__" = some (some (.ref f))
 fn:PySem.W.isFn K (.ref f)=true
 kp:PySem.W.keepIn K (.ref C)=true
end
section
variable {X:Cx} {CX:CXT} {k:Nat} {f C:Addr} {fd:FuncData} {ps ks:List Str} {sp:Sp} {E:XK} {x m:Str} {p pos apos kpos:Pos} {e o:Expr} {es:List Expr} {kws:List Keyword} {te ta:TE} {t tk:TA} {nm:Option Str}
structure KBinds (K:PySem.W.Frag) (fd:FuncData) (ps ks:List Str) (g:List Value→List Value→List Value) (gV:List V→List V→List V):Prop where
 to:∀ (s:Shared) (us ws:List Value),K.In s.heap→(g us ws).length=ps.length→BindsTo s fd ⟨us,ks.zip ws⟩ (ps.zip (g us ws))
 rel:∀ {vs:List V} {us:List Value} {zs:List V} {ws:List Value},Vals vs us→Vals zs ws→Vals (gV vs zs) (g us ws)
variable {g:List Value→List Value→List Value} {gV:List V→List V→List V}
end
structure FnScope (N P:List Str) (sc:Scope):Prop where
 kind:sc.kind = .function
 co:sc.isCoroutine=false
 gen:sc.isGenerator=false
 nd:N.Nodup
 pre:N.take P.length=P
 par:∀ x ∈ P,sc.names.lookup x=some .local∨sc.names.lookup x=some .cell
 nofree:∀ y ∈ sc.names,y.2 ≠ .free
theorem vQ {kindOf:Str→Option NameKind} {x:Str}:∀ {binds:List (Str × Value)} {m:Str→Option Value},(∀ v,(x,v) ∉ binds)→bindL kindOf binds m x=m x
 | [],_,_=>rfl
 | (n,v) :: r,m,h=>by
  unfold bindL
  rw [vQ fun w hw=>h w (aJ _ hw)]
  split
  ·have:x ≠ n:=by rintro rfl;exact h v aN
   simp [this]
  ·rfl
theorem vR {kindOf:Str→Option NameKind} {x:Str}:∀ {binds:List (Str × Value)} {m:Str→Option Value},(∀ v,(x,v) ∉ binds)→bindC kindOf binds m x=m x
 | [],_,_=>rfl
 | (n,v) :: r,m,h=>by
  unfold bindC
  rw [vR fun w hw=>h w (aJ _ hw)]
  split
  ·rfl
  ·have:x ≠ n:=by rintro rfl;exact h v aN
   simp [this]
theorem vU {kindOf:Str→Option NameKind} {x:Str} {v:Value}:∀ {P:List Str} {vs:List Value} {i:Nat} {m:Str→Option Value},P.Nodup→P[i]? = some x→vs[i]? = some v→kindOf x=some .local →
 bindL kindOf (P.zip vs) m x=some v
 | [],_,_,_,_,h,_,_=>by simp at h
 | _ :: _,[],_,_,_,_,h,_=>by simp at h
 | p :: P,w :: vs,0,m,nd,h1,h2,hk=>by
  simp at h1 h2;subst h1;subst h2
  show bindL kindOf ((p,w) :: P.zip vs) m p=_
  unfold bindL
  rw [vQ fun v hv=>(cG.mp nd).1 (oJ hv).1,if_pos hk]
  simp
 | p :: P,w :: vs,i + 1,m,nd,h1,h2,hk=>by
  show bindL kindOf ((p,w) :: P.zip vs) m x=_
  unfold bindL
  exact vU (i:=i) (cG.mp nd).2 (by simpa using h1) (by simpa using h2) hk
theorem vV {kindOf:Str→Option NameKind} {x:Str} {v:Value}:∀ {P:List Str} {vs:List Value} {i:Nat} {m:Str→Option Value},P.Nodup→P[i]? = some x→vs[i]? = some v→kindOf x ≠ some .local →
 bindC kindOf (P.zip vs) m x=some v
 | [],_,_,_,_,h,_,_=>by simp at h
 | _ :: _,[],_,_,_,_,h,_=>by simp at h
 | p :: P,w :: vs,0,m,nd,h1,h2,hk=>by
  simp at h1 h2;subst h1;subst h2
  show bindC kindOf ((p,w) :: P.zip vs) m p=_
  unfold bindC
  rw [vR fun v hv=>(cG.mp nd).1 (oJ hv).1,if_neg hk]
  simp
 | p :: P,w :: vs,i + 1,m,nd,h1,h2,hk=>by
  show bindC kindOf ((p,w) :: P.zip vs) m x=_
  unfold bindC
  exact vV (i:=i) (cG.mp nd).2 (by simpa using h1) (by simpa using h2) hk
noncomputable def start (N:List Str) (vs:List V):St:=vs.map some++aK (N.length - vs.length) none
noncomputable def Aj (CX:CXT) (P:Program) (w:World) (K:PySem.W.Frag) (mg:Str→Option Value) (base:Heap) (N:List Str) (qual:Str) (scope:Scope) (f:Addr) (cd:Value) (A:Around) (outer:List Env) (s:Shared) (H:Hp) (E:XK):Cx where
 prog:=P
 w:=w
 K:=K
 mg:=mg
 base:=base
 A:=A.deeper (envOfC qual scope s.heap.objs.size f cd)
 N:=N
 s₀:=s
 H₀:=H
 env:=envOfC qual scope s.heap.objs.size f cd
 outer:=outer
 stack:=envOfC qual scope s.heap.objs.size f cd :: outer
 ex:=[]
 calm:=true
 fn:=fun _=>true
 pn:=[]
 xe:=fun e s'=>wpAny (model P w) (A.deeper (envOfC qual scope s.heap.objs.size f cd)) (leaving (envOfC qual scope s.heap.objs.size f cd) e) (fun _ s''=>CX outer H s E e s'') (fun e' s''=>CX outer H s E e' s'') s'
theorem yN {sc:Scope} {n:Nat} {x:Str} (h:sc.names.lookup x=some .cell):∃ c,(cellsFrom n sc.names []).lookup x=some c:=by
 have q:=PySem.W.cellsFrom_some sc.names n [] (.inl h)
 exact Option.isSome_iff_exists.mp q
theorem DQ {CX:CXT} {P:Program} {w:World} {K:PySem.W.Frag} {mg:Str→Option Value} {base:Heap} {N ps:List Str} {qual:Str} {scope:Scope} {f:Addr} {cd:Value} {A:Around} {outer:List Env} {s s1:Shared} {H:Hp} {E:XK} {us:List Value} {vs:List V}
 (S:FnScope N ps scope) (hd:A.handled=none) (e0:Env0 P w K mg base A outer s H) (hl:vs.length=ps.length) (r:Vals vs us)
 (x:InCallC s s.heap.objs.size (bindL (envOfC qual scope s.heap.objs.size f cd).kindOf (ps.zip us) fun _=>none) (cellsFrom (s.heap.objs.size + 1) scope.names []) (bindC (envOfC qual scope s.heap.objs.size f cd).kindOf (ps.zip us) fun _=>none) s1) :
 Inv (Aj CX P w K mg base N qual scope f cd A outer s H E) [] (start N vs) H s1:=by
 have hpl:ps.length ≤ N.length:=by have:=congrArg List.length S.pre;rw [nH] at this;omega
 obtain ⟨h1,tk,rfl,hk⟩:=x.done
 have noA:∀ b:Addr,b ∉ (Aj CX P w K mg base N qual scope f cd A outer s H E).ex:=fun b z=>absurd (show b ∈ ([]:List Addr) from z) (by simp)
 refine ⟨⟨e0.mod,S.kind,rfl,rfl,bG _,fun y z c h1 h2=>?_,fun y hy=>?_,fun y c _ h=>?_,fun _=>hd,Around.frames_deeper e0.frames,.inr ⟨rfl,rfl⟩,fun b z=>absurd z (noA b),e0.bs,e0.bsz,fun b _ _=>noA b,fun b z=>absurd z (noA b),e0.funs,e0.frf⟩,
  rfl,e0.bare,Un.kept hk,⟨_,x.toInCall.ns,fun i y v h1 h2 h3=>?_⟩,fun y c h=>⟨_,x.cell y c h⟩,e0.hok.fresh (bG _),fun y c h=>?_,fun p hp=>absurd (show p ∈ ([]:List (Addr × Obj)) from hp) (by simp),e0.hok.kept hk,?_⟩
 ·exact name_of_addr x.apart (PySem.mem_of_lookup h1) (PySem.mem_of_lookup h2)
 ·have hy:scope.names.lookup y=some .cell∨scope.names.lookup y=some .free:=hy
  rcases hy with hy | hy
  ·exact yN hy
  ·exact absurd rfl (S.nofree _ (PySem.mem_of_lookup hy))
 ·exact qj (x.above y c (PySem.mem_of_lookup h))
 ·have hi:i < vs.length:=by
   unfold start at h2
   by_cases hi:i < vs.length
   ·exact hi
   ·rw [cR (by simpa using hi)] at h2
    rw [cT] at h2
    split at h2 <;> cases h2
  have ha:vs[i]? = some v:=by
   unfold start at h2
   rw [cj (by simpa using hi),bf] at h2
   cases e:vs[i]? with
   | none=>rw [e] at h2;cases h2
   | some a=>rw [e] at h2;cases h2;rfl
  obtain ⟨u,hu,rv⟩:=r.get ha
  have hp:ps[i]? = some y:=by
   rw [← S.pre,mZ (by omega)];exact h1
  have ndP:ps.Nodup:=by rw [← S.pre];exact S.nd.sublist (List.take_sublist _ _)
  refine ⟨u,rv,?_⟩
  rcases S.par y (gM hp) with k | k
  ·exact .inl ⟨k,vU ndP hp hu k⟩
  ·obtain ⟨c,e⟩:=yN (n:=s.heap.objs.size + 1) k
   refine .inr ⟨.inl k,c,e,?_⟩
   have q:=x.cell y c e
   rw [vV ndP hp hu (by show scope.names.lookup y ≠ _;rw [k];decide)] at q
   exact q
 ·exact e0.hok.fresh (qj (x.above y c (PySem.mem_of_lookup h)))
 ·unfold start
  show _=N.length
  rw [cI,aU,aQ]
  omega
theorem QB {CX:CXT} {P:Program} {w:World} {K:PySem.W.Frag} {mg:Str→Option Value} {base:Heap} {k:Nat} {f:Addr} {name qual:Str} {params:Arguments} {body:List Stmt} {scope:Scope} {dV kV doc pm cdv ct oc:Value} {an od:Option Addr}
 {osl:Array (Option Value)} {N ps:List Str} {sp:Sp} (lk:K.lookup f=some ⟨oc,od,.func (PySem.W.fnOf name qual params body scope dV kV doc pm an cdv ct),osl⟩) (hcd:PySem.W.codeIn K cdv qual=true) (S:FnScope N ps scope)
 (len:∀ vs H Q E,sp vs H Q E→vs.length=ps.length)
 (hbody:∀ (A:Around) (outer:List Env) (s:Shared) (H:Hp) (vs:List V) (Q:VK) (E:XK),Room k (A.deeper (envOfC qual scope s.heap.objs.size f cdv))→sp vs H Q E →
  ∃ t,PSs (Aj CX P w K mg base N qual scope f cdv A outer s H E) body t∧t { nx:=fun _ H'=>Q .non H',rt:=Q } (start N vs) H) :
 FnOk P w K mg base CX (k + 1) f (PySem.W.fnOf name qual params body scope dV kV doc pm an cdv ct) ps sp:=by
 refine ⟨len,fun A outer s H args us vs Q E hr e0 hb r hsp=>?_⟩
 have hl:=len _ _ _ _ hsp
 have KX:K.In s.heap:=e0.mod.kin.keeps fun b o e=>(e0.bs b o e).1
 have lim:s.heap.NoLimit:=e0.mod.nolimit.keeps fun b o e=>(e0.bs b o e).1
 have hkind:∀ y ∈ ps.zip us,scope.names.lookup y.1=some .local∨(scope.names.lookup y.1=some .cell∧((cellsFrom (s.heap.objs.size + 1) scope.names []).lookup y.1).isSome=true):=fun ⟨n,v⟩ hy=>by
  rcases S.par n (oJ hy).1 with q | q
  ·exact .inl q
  ·exact .inr ⟨q,PySem.W.cellsFrom_some _ _ _ (.inl q)⟩
 refine codeAny_call_function hr.depth (KX _ _ lk) rfl S.co S.gen rfl (PySem.W.codeRec_of KX hcd) (hb _ _ _ _ ?_)
 refine wpAny_newFunctionEnv_cells S.kind hkind fun env he s1 x=>?_
 subst he
 refine ⟨lim.keeps x.toInCall.keep,codeAny_func ?_⟩
 obtain ⟨t,ht,hq⟩:=hbody A outer s H vs Q E (hr.deeper _) hsp
 have I:Inv (Aj CX P w K mg base N qual scope f cdv A outer s H E) [] (start N vs) H s1:=DQ S hr.hd e0 hl r x
 refine wpAny_mono (ht [] s1 (start N vs) H _ I hq) (fun fl s' hs=>?_) fun e s' hs=>hs
 have fin:∀ {σ':St} {H':Hp} {v:V} {u:Value},Inv (Aj CX P w K mg base N qual scope f cdv A outer s H E) [] σ' H' s'→RelV v u→Q v H'→CE outer P w H s Q u s' :=
  fun {σ' H' v u} J rv q=>⟨v,H',J.os,J.bare,J.base,J.hok,rv,q⟩
 cases fl with
 | ret u =>
  obtain ⟨v,σ',H',J,rv,q⟩:=hs
  exact fin J rv q
 | next =>
  obtain ⟨σ',H',J,q⟩:=hs
  exact fin (v:=V.non) (u:=Value.none) J rfl q
 | brk =>
  obtain ⟨_,_,_,q⟩:=hs
  exact False.elim q
 | cont =>
  obtain ⟨_,_,_,q⟩:=hs
  exact False.elim q
end L2
namespace L2
open PySem PySem.Spec PyProof.Rows
section
variable {X:Cx} {x:Str} {p pos:Pos} {e:Expr} {es:List Expr} {t:TA} {id T:String} {r:List V→Hp→VK→Prop}
noncomputable def tCB (r:List V→Hp→VK→Prop) (t:TA):TE:=fun σ H Q=>t σ H fun vs H1=>r vs H1 Q
theorem yO (hc:pN X (.builtin id) r) (hg:Gl X x) (hm:X.mg x=none) (hv:bootBuiltins x=some (.builtin id)) (ha:PA X (e :: es) t) (hn:x ≠ "__name__" := by decide) (hdb:(x == ("__debug__" : Str))=false:=by decide)
 (he:starEach (e :: es) X.env=(false,eval e X.env) :: starEach es X.env:=by rfl) (hpl:(backTo pos (starEach es X.env)).any (·.1)=false:=by rfl):PE X (.Call (.Name x p) (e :: es) [] pos) (tCB r t):=by
 intro pins s σ H Q I h
 refine wpAny_Call_Name_kw (pX I hg hm hv ?_ hn hdb)
 exact PyProof.Rows.callWith_builtin1 (thn (ha pos pins s σ H _ I h) fun us s1 ⟨vs,H1,I1,r1,q1⟩=>hc pins s1 σ H1 vs us Q I1 r1 q1) he hpl
theorem DR (hc:pN X (.type T) r) (hg:Gl X x) (hm:X.mg x=none) (hv:bootBuiltins x=some (.type T)) (ha:PA X (e :: es) t) (hn:x ≠ "__name__" := by decide) (hdb:(x == ("__debug__" : Str))=false:=by decide)
 (he:starEach (e :: es) X.env=(false,eval e X.env) :: starEach es X.env:=by rfl) (hpl:(backTo pos (starEach es X.env)).any (·.1)=false:=by rfl):PE X (.Call (.Name x p) (e :: es) [] pos) (tCB r t):=by
 intro pins s σ H Q I h
 refine wpAny_Call_Name_kw (pX I hg hm hv ?_ hn hdb)
 exact PyProof.Rows.callWith_type1 (thn (ha pos pins s σ H _ I h) fun us s1 ⟨vs,H1,I1,r1,q1⟩=>hc pins s1 σ H1 vs us Q I1 r1 q1) he hpl
end
end L2
namespace HT
open PySem PyProof.Rows
section
open PySem.SeqAt
open PySem.AutoSeq1 (wpAny_loadPart')
open PySem.MeetsSeq PySem.MeetsSeq2 PySem.MeetsSeq3
end
section
variable {prog:Program} {w:World} {A:Around} {E:Value→Shared→Prop} {s:Shared}
noncomputable def sIx (n d:Nat):Option Int→Nat
 | none=>d
 | some v=>if v < 0 then (v + (n:Int)).toNat else min v.toNat n
end
end HT
namespace L2
open PySem PySem.Spec PyProof.Rows
noncomputable abbrev TO:=St→Hp→(Option Int→Hp→Prop)→Prop
noncomputable def PO (X:Cx) (e:Option Expr) (t:TO):Prop :=
 ∀ (pins:List (Addr × Obj)) (s:Shared) (σ:St) (H:Hp) (Q:Option Int→Hp→Prop),Inv X pins σ H s→t σ H Q →
  wpAny (model X.prog X.w) X.A (evalPart e X.env) (fun u s'=>∃ o H',Inv X pins σ H' s'∧IsPart u o∧Q o H') X.xe s
noncomputable def Jh:TO:=fun _ H Q=>Q none H
noncomputable def QC (t:TE):TO:=fun σ H Q=>t σ H fun x H1=>∃ i,x = .int i∧Q (some i) H1
section
variable {X:Cx} {e:Expr} {te:TE} {lo hi:Option Expr} {tl th:TO} {pos p2:Pos}
theorem Ji:PO X none Jh:=by
 intro pins s σ H Q I h
 rw [evalPart_none]
 exact wpAny_pure ⟨none,H,I,.none,h⟩
theorem Jj (h:PE X e te):PO X (some e) (QC te):=by
 intro pins s σ H Q I hw
 rw [evalPart_some]
 refine thn (h pins s σ H _ I hw) fun u s1 ⟨x,H1,I1,r1,q1⟩=>?_
 obtain ⟨i,rfl,q⟩:=q1
 obtain ⟨t,rfl⟩:=r1
 exact ⟨some i,H1,I1,.int i t,q⟩
noncomputable def SlR (X:Cx) (r:V→Option Int→Option Int→Hp→VK→Prop):Prop :=
 ∀ (pins:List (Addr × Obj)) (s:Shared) (σ:St) (H:Hp) (x:V) (v vl vu:Value) (lo hi:Option Int) (sl:Addr) (Q:VK),Inv X pins σ H s→RelV x v→s.heap.IsSliceOf sl vl vu .none→IsPart vl lo→IsPart vu hi→r x lo hi H Q →
  ∃ T id,typeLookup (.type T) "__getitem__" = pure (some (.builtin id))∧s.TypeIs v T∧wpAny (model X.prog X.w) X.A (getItem v (.ref sl)) (EP X pins σ Q) X.xe s
noncomputable def tSl (r:V→Option Int→Option Int→Hp→VK→Prop) (te:TE) (tl th:TO):TE:=fun σ H Q=>te σ H fun x H1=>tl σ H1 fun l H2=>th σ H2 fun u H3=>r x l u H3 Q
theorem Gd {r:V→Option Int→Option Int→Hp→VK→Prop} (hr:SlR X r) (he:PE X e te) (hl:PO X lo tl) (hu:PO X hi th):PE X (.Subscript e (.Slice lo hi none p2) pos) (tSl r te tl th):=by
 intro pins s σ H Q I h
 refine Subscript_ (thn (he pins s σ H _ I h) fun v s1 ⟨x,H1,I1,r1,q1⟩=>?_)
 refine wpAny_Slice (thn (hl pins s1 σ H1 _ I1 q1) fun vl s2 ⟨l,H2,I2,pl,q2⟩=>thn (hu pins s2 σ H2 _ I2 q2) fun vu s3 ⟨u,H3,I3,pu,q3⟩=>?_)
 rw [evalPart_none]
 refine wpAny_pure ?_
 have I4:Inv X pins σ H3 { s3 with heap:=s3.heap.push { cls:=.type "slice", data:=.fields #[vl,vu,.none] } }:=I3.kept (t':=s3.toks) fun b ob q=>Heap.get?_push_of_some _ q
 obtain ⟨T,id,hT,ht,hg⟩:=hr pins { s3 with heap:=s3.heap.push { cls:=.type "slice", data:=.fields #[vl,vu,.none] } } σ H3 x v vl vu l u s3.heap.objs.size Q I4 r1 (Heap.IsSliceOf.new ..) pl pu q3
 show wpAny (model X.prog X.w) X.A (subscriptTail e (.Slice lo hi none p2) v (.ref s3.heap.objs.size)) (EP X pins σ Q) X.xe { s3 with heap:=s3.heap.push { cls:=.type "slice", data:=.fields #[vl,vu,.none] } }
 exact tail_any (ops:=[.ref s3.heap.objs.size,v]) ht hT hg (by with_unfolding_all rfl)
noncomputable def DX (xs:List V) (lo hi:Option Int):List V:=(xs.drop (HT.sIx xs.length 0 lo)).take (HT.sIx xs.length xs.length hi - HT.sIx xs.length 0 lo)
theorem yP (xs:List V) (lo hi:Option Int):(DX xs lo hi).length ≤ xs.length:=by
 unfold DX
 rw [nH,List.length_drop]
 omega
end
end L2
namespace L2
open PySem PySem.Spec PyProof.Rows
noncomputable def ixN (n:Nat) (i:Int):Option Nat:=if 0 ≤ i then (if i < n then some i.toNat else none) else if -(n:Int) ≤ i then some (i + n).toNat else none
noncomputable def atI {α:Type} (xs:List α) (i:Int):Option α:=(ixN xs.length i).bind fun j=>xs[j]?
theorem Cg {n:Nat} {i:Int} {j:Nat} (h:ixN n i=some j):seqIndex? i n=some j∧j < n∧-(n:Int) ≤ i∧i < n:=by
 unfold ixN at h
 by_cases h0:0 ≤ i
 ·rw [if_pos h0] at h
  by_cases h1:i < n
  ·rw [if_pos h1] at h
   have e:i.toNat=j:=dH.inj h
   exact ⟨by rw [seqIndex_of h0 h1,e],by omega,by omega,h1⟩
  ·rw [if_neg h1] at h;cases h
 ·rw [if_neg h0] at h
  by_cases h1 : -(n:Int) ≤ i
  ·rw [if_pos h1] at h
   have e:(i + n).toNat=j:=dH.inj h
   exact ⟨by rw [seqIndex_neg (by omega) h1,e],by omega,h1,by omega⟩
  ·rw [if_neg h1] at h;cases h
theorem wW {α:Type} {xs:List α} {i:Int} {v:α} (h:atI xs i=some v):∃ j,seqIndex? i xs.length=some j∧xs[j]? = some v∧j < xs.length∧-(xs.length:Int) ≤ i∧i < xs.length:=by
 unfold atI at h
 cases e:ixN xs.length i with
 | none=>rw [e] at h;cases h
 | some j =>
  rw [e] at h
  obtain ⟨h1,h2,h3,h4⟩:=Cg e
  exact ⟨j,h1,h,h2,h3,h4⟩
noncomputable def qz (b:Expr):Prop:=∀ o i,subscripted b false o i=operate [o,i] (getItem o i)
noncomputable def IxR (X:Cx) (r:R2):Prop :=
 ∀ (value slice:Expr) (pins:List (Addr × Obj)) (s:Shared) (σ:St) (H:Hp) (x y:V) (v u:Value) (Q:VK),Inv X pins σ H s→RelV x v→RelV y u→r x y H Q →
  subscripted slice false v u=operate [v,u] (getItem v u)→wpAny (model X.prog X.w) X.A (subscriptTail value slice v u) (EP X pins σ Q) X.xe s
noncomputable def MtR (X:Cx) (id:String) (r:V→List V→Hp→VK→Prop):Prop :=
 ∀ (pins:List (Addr × Obj)) (s:Shared) (σ:St) (H:Hp) (x:V) (xs:List V) (v:Value) (us:List Value) (Q:VK),Inv X pins σ H s→RelV x v→Vals xs us→r x xs H Q →
  wpAny (model X.prog X.w) X.A (call (.builtin id) (v :: us)) (EP X pins σ Q) X.xe s
section
variable {X:Cx} {a b:Expr} {ta tb:TE} {pos:Pos}
theorem IxR.or {r r':R2} (h:IxR X r) (h':IxR X r'):IxR X (fun x y H Q=>r x y H Q∨r' x y H Q):=by
 intro value slice pins s σ H x y v u Q I rx ry q hs
 rcases q with q | q
 ·exact h value slice pins s σ H x y v u Q I rx ry q hs
 ·exact h' value slice pins s σ H x y v u Q I rx ry q hs
theorem Ge {r:R2} (hr:IxR X r) (ha:PE X a ta) (hb:PE X b tb) (hs:qz b):PE X (.Subscript a b pos) (tOp r ta tb):=by
 intro pins s σ H Q I h
 exact Subscript_ (M4 ha hb I h fun v u s2 x y H2 I2 rx ry q=>hr a b pins s2 σ H2 x y v u Q I2 rx ry q (hs _ _))
noncomputable def QD (K:PySem.W.Frag):R2:=fun x y H Q=>∃ p xs i v,x = .ref p∧y = .int i∧SqL K H p xs∧atI xs i=some v∧Q v H
noncomputable def QF (K:PySem.W.Frag):R2:=fun x y H Q=>∃ p xs i v,x = .ref p∧y = .int i∧SqT K H p xs∧atI xs i=some v∧Q v H
noncomputable def QG:R2:=fun x y H Q=>∃ z i c,x = .str z∧y = .int i∧z.length ≤ sizeLine∧atI z.cps.toList i=some c∧Q (.str ⟨#[c]⟩) H
theorem Jk:IxR X (QD X.K):=by
 intro value slice pins s σ H x y v u Q I rx ry h hs
 obtain ⟨p,xs,i,z,rfl,rfl,hq,he,q⟩:=h
 cases rx
 obtain ⟨t,rfl⟩:=ry
 obtain ⟨its,r,pl,hz⟩:=I.list hq
 obtain ⟨j,h1,h2,h3,h4,h5⟩:=wW he
 obtain ⟨w,ew,rw'⟩:=r.get h2
 have hl:=r.length
 have hn:=uq
 have fin:EP X pins σ Q w s:=⟨z,H,I,rw',q⟩
 by_cases h0:0 ≤ i
 ·have hj:i.toNat=j:=by
   rw [seqIndex_of h0 h5] at h1
   exact dH.inj h1
  exact item_listR pl.isList h0 (by omega) (by rw [hj];simpa using ew) fin hs
 ·have hj:(i + (its.toArray.size:Int)).toNat=j:=by
   rw [seqIndex_neg (by omega) h4] at h1
   rw [bD,← hl]
   exact dH.inj h1
  exact subscriptTail_builtinR (x:=w) pl.isList.typeIs slot_list_getitem.lookup
   (wpAny_getItem_list_neg (Q:=fun r s'=>r=w∧EP X pins σ Q r s') pl.isList (by omega) (by rw [bD] <;> omega) (by omega) (by rw [hj];simpa using ew) ⟨rfl,fin⟩) hs
theorem M8:IxR X (QF X.K):=by
 intro value slice pins s σ H x y v u Q I rx ry h hs
 obtain ⟨p,xs,i,z,rfl,rfl,hq,he,q⟩:=h
 cases rx
 obtain ⟨t,rfl⟩:=ry
 obtain ⟨its,r,pl,hz⟩:=I.tuple hq
 obtain ⟨j,h1,h2,h3,h4,h5⟩:=wW he
 obtain ⟨w,ew,rw'⟩:=r.get h2
 have hl:=r.length
 have hn:=uq
 have fin:EP X pins σ Q w s:=⟨z,H,I,rw',q⟩
 exact subscriptTail_builtinR (x:=w) pl.typeIs slot_tuple_getitem.lookup
  (getItem_tuple (j:=j) (Q:=fun r s'=>r=w∧EP X pins σ Q r s') pl (by omega) (by omega) (by rw [bD,← hl];exact h1) (by simpa using ew) ⟨rfl,fin⟩) hs
theorem M9:IxR X QG:=by
 intro value slice pins s σ H x y v u Q I rx ry h hs
 obtain ⟨z,i,c,rfl,rfl,hz,he,q⟩:=h
 obtain ⟨t,rfl⟩:=rx
 obtain ⟨t',rfl⟩:=ry
 obtain ⟨j,h1,h2,h3,h4,h5⟩:=wW he
 have hl:z.cps.toList.length=z.length:=by simp [Str.length]
 rw [hl] at h1 h4 h5
 have hn:=uq
 exact tail_any (typeIs_str s z t) slot_str_getitem.lookup (getItem_str (c:=c) (by
  have e1:decide (i < -(2 ^ 63:Int))=false:=dFa (by omega)
  have e2:decide (i ≥ 2 ^ 63)=false:=dFa (by omega)
  rw [e1,e2,Bool.or_false]) (by rw [h1];simpa using h2) ⟨.str ⟨#[c]⟩,H,I.tok _,⟨_,rfl⟩,q⟩) hs
noncomputable def rIx (K:PySem.W.Frag):R2:=fun x y H Q=>QD K x y H Q∨QF K x y H Q∨QG x y H Q
theorem Ak:IxR X (rIx X.K):=Jk.or (M8.or M9)
theorem Al (its:List Value) (n j:Nat) (u:Value):Obj.mapSeq (·.setIfInBounds j u) { cls:=.type "list", data:=.seq its.toArray n } = { cls:=.type "list", data:=.seq (its.set j u).toArray n }:=by
 simp [Obj.mapSeq]
theorem Inv.lst {pins:List (Addr × Obj)} {σ:St} {H:Hp} {s:Shared} {p:Addr} {xs:List V} (I:Inv X pins σ H s) (h:H p=some (.lst xs)) :
 ∃ (its:List Value) (n:Nat),Vals xs its∧s.heap.get? p=some { cls:=.type "list", data:=.seq its.toArray n }∧xs.length ≤ sizeLine:=by
 obtain ⟨z,its,n,r,e⟩:=I.hok p _ h
 exact ⟨its,n,r,e,z⟩
theorem Inv.lstUpd {pins:List (Addr × Obj)} {σ:St} {H:Hp} {s:Shared} {p:Addr} {xs ys:List V} {its its':List Value} {n n':Nat} {f:Obj→Obj} (I:Inv X pins σ H s) (h:H p=some (.lst xs))
 (ho:s.heap.get? p=some { cls:=.type "list", data:=.seq its.toArray n }) (hf:f { cls:=.type "list", data:=.seq its.toArray n } = { cls:=.type "list", data:=.seq its'.toArray n' }) (r:Vals ys its') (hz:ys.length ≤ sizeLine) (t:Nat) :
 Inv X pins σ (upd H p (.lst ys)) { s with heap:=s.heap.update p f,toks:=t }:=by
 have e:(s.heap.update p f).get? p=some { cls:=.type "list", data:=.seq its'.toArray n' }:=by
  rw [Heap.get?_update_self f ho (by rw [hf] <;> rfl),hf]
 refine I.write (x:=p) (e:=p) (by rw [h];trivial) (.inl rfl) (fun b u hb q=>(Heap.get?_update_other _ _ (Ne.symm hb)).trans q) ⟨_,e⟩ ?_
 exact ⟨hz,its',n',r,e⟩
noncomputable def QH:V→V→V→Hp→(Hp→Prop)→Prop:=fun o i v H Q=>∃ p xs k j,o = .ref p∧i = .int k∧H p=some (.lst xs)∧ixN xs.length k=some j∧Q (upd H p (.lst (xs.set j v)))
theorem set_list:Qs X QH:=by
 intro pins s σ H o i v ov iv u Q I ro ri rv h
 obtain ⟨p,xs,k,j,rfl,rfl,hp,hj,q⟩:=h
 cases ro
 obtain ⟨t,rfl⟩:=ri
 obtain ⟨its,n,r,ho,hz⟩:=I.lst hp
 obtain ⟨h1,h2,h3,h4⟩:=Cg hj
 have hl:=r.length
 have hn:=uq
 have I':Inv X pins σ (upd H p (.lst (xs.set j v))) { s with heap:=s.heap.update p (Obj.mapSeq (·.setIfInBounds j u)) } :=
  I.lstUpd hp ho (Al its n j u) (r.set rv j) (by rw [bM];exact hz) s.toks
 by_cases h0:0 ≤ k
 ·have hk:k.toNat=j:=by
   rw [seqIndex_of h0 h4] at h1
   exact dH.inj h1
  exact PySem.W.ki_setAt ho h0 (by omega) (by rw [bD,← hl];exact h4) (by rw [hk];exact ⟨_,I',q⟩)
 ·have hk:(k + (its.toArray.size:Int)).toNat=j:=by
   rw [seqIndex_neg (by omega) h3] at h1
   rw [bD,← hl]
   exact dH.inj h1
  exact PySem.W.ki_setBack ho (by omega) (by rw [bD,← hl];exact h3) (by omega) (by rw [hk];exact ⟨_,I',q⟩)
theorem wX (lo hi:Option Int) (n:Nat):(sliceBounds lo hi none n).1=((HT.sIx n 0 lo:Nat):Int)∧(sliceBounds lo hi none n).2.1=((HT.sIx n n hi:Nat):Int)∧(sliceBounds lo hi none n).2.2=1:=by
 refine ⟨?_,?_,rfl⟩
 ·cases lo with
  | none=>simp [sliceBounds,HT.sIx]
  | some i =>
   simp only [sliceBounds,HT.sIx,Option.getD_none,show (1:Int) > 0 by decide,if_true]
   by_cases h:i < 0
   ·simp only [h,if_true] <;> omega
   ·simp only [h,if_false] <;> omega
 ·cases hi with
  | none=>simp [sliceBounds,HT.sIx]
  | some i =>
   simp only [sliceBounds,HT.sIx,Option.getD_none,show (1:Int) > 0 by decide,if_true]
   by_cases h:i < 0
   ·simp only [h,if_true] <;> omega
   ·simp only [h,if_false] <;> omega
theorem vq (its:List Value) (lo hi:Option Int):slicePick its.toArray lo hi none=((its.drop (HT.sIx its.length 0 lo)).take (HT.sIx its.length its.length hi - HT.sIx its.length 0 lo)).toArray:=by
 obtain ⟨h1,h2,h3⟩:=wX lo hi its.toArray.size
 unfold slicePick
 rw [h1,h2,h3]
 simp only [sliceRange_one,pick_run,bD] <;> rfl
noncomputable def Td (K:PySem.W.Frag):V→Option Int→Option Int→Hp→VK→Prop:=fun x lo hi H Q=>∃ a xs,x = .ref a∧SqL K H a xs∧∀ p,H p=none→Q (.ref p) (upd H p (.lst (DX xs lo hi)))
theorem Jl:SlR X (Td X.K):=by
 intro pins s σ H x v vl vu lo hi sl Q I rx hs pl pu h
 obtain ⟨a,xs,rfl,hx,q⟩:=h
 cases rx
 obtain ⟨its,r,ht,hz⟩:=I.list hx
 have hlen:=r.length
 refine ⟨"list", _,slot_list_getitem.lookup,ht.isList.typeIs,?_⟩
 refine wpAny_getItem_list_slice ht.isList hs pl pu .none (by simp) ?_ (by rw [bD] <;> omega)
 rw [vq,← hlen]
 refine ⟨.ref s.heap.objs.size,_,I.laid (t':=s.toks) (o:=.lst (DX xs lo hi)) (fun b ob q=>Heap.get?_push_of_some _ q) (bG _) ?_,rfl,q _ (I.hok.fresh (bG _))⟩
 exact ⟨dB (yP xs lo hi) hz,_,0,(r.drop (HT.sIx xs.length 0 lo)).take (HT.sIx xs.length xs.length hi - HT.sIx xs.length 0 lo),Heap.get?_push_size _ rfl⟩
theorem bR:pN X (.builtin "len") (fun xs H Q=>∃ p ys,xs=[.ref p]∧(SqL X.K H p ys∨SqT X.K H p ys)∧Q (.int ys.length) H):=by
 intro pins s σ H xs us Q I r h
 obtain ⟨p,ys,rfl,hq,q⟩:=h
 obtain ⟨u,rfl,rx⟩:=vals1 r
 cases rx
 have hn:=uq
 rcases hq with hq | hq
 ·obtain ⟨its,r',pl,hz⟩:=I.list hq
  have hlen:=r'.length
  exact Calls.call_len_list pl.isList (by simp only [bD] <;> omega) ⟨.int ys.length,H,I.tok _,⟨s.toks + 1,by rw [bD,hlen]⟩,q⟩
 ·obtain ⟨its,r',pl,hz⟩:=I.tuple hq
  have hlen:=r'.length
  exact len_tuple pl (by simp only [bD] <;> omega) ⟨.int ys.length,H,I.tok _,⟨s.toks + 1,by rw [bD,hlen]⟩,q⟩
theorem wY:pN X (.type "list") (fun xs H Q=>∃ p ys,xs=[.ref p]∧(SqL X.K H p ys∨SqT X.K H p ys)∧∀ l,H l=none→Q (.ref l) (upd H l (.lst ys))):=by
 intro pins s σ H xs us Q I r h
 obtain ⟨p,ys,rfl,hq,q⟩:=h
 obtain ⟨u,rfl,rx⟩:=vals1 r
 cases rx
 have fin:∀ (its:List Value),Vals ys its→ys.length ≤ sizeLine→∀ (h':Heap) (c':Nat),(∀ b o',s.heap.get? b=some o'→h'.get? b=some o') →
  h'.get? s.heap.objs.size=some { cls:=.type "list", dict:=none,data:=.seq its.toArray c',slots:=#[] }→EP X pins σ Q (.ref s.heap.objs.size) { s with heap:=h' }:=fun its r' hz h' c' kp e =>
  ⟨.ref s.heap.objs.size,_,I.laid (t':=s.toks) kp (bG _) (show jV X.prog X.w _ h' _ (.lst ys) from ⟨hz,its,c',r',e⟩),rfl,q _ (I.hok.fresh (bG _))⟩
 rcases hq with hq | hq
 ·obtain ⟨its,r',pl,hz⟩:=I.list hq
  have hlen:=r'.length
  obtain ⟨o,ho,hc,n,hd⟩:=pl.isList
  exact call_list_seq p (.inl rfl) ho hc hd (fun h' c' kp e=>fin its r' hz h' c' kp e) (by simp only [bD] <;> omega)
 ·obtain ⟨its,r',pl,hz⟩:=I.tuple hq
  have hlen:=r'.length
  obtain ⟨o,ho,hc,n,hd⟩:=pl
  exact call_list_seq p (.inr rfl) ho hc hd (fun h' c' kp e=>fin its r' hz h' c' kp e) (by simp only [bD] <;> omega)
noncomputable def tyV (K:PySem.W.Frag) (T:String) (x:V) (H:Hp):Prop:=match x with
 | .str _=>T = "str"
 | .int _=>T = "int"
 | .ref p=>(T = "list" ∧ ∃ xs,SqL K H p xs)∨(T = "tuple" ∧ ∃ o,K.lookup p=some o∧o.cls = .type "tuple" ∧ o.dict=none) ∨
  (T = "dict" ∧ ((∃ kvs,H p=some (.dK kvs))∨∃ kvs,H p=some (.dT kvs)))∨(T = "set" ∧ ∃ S n,H p=some (.set S n))
 | _=>False
theorem Gf {pins:List (Addr × Obj)} {σ:St} {H:Hp} {s:Shared} {T:String} {x:V} {v:Value} (I:Inv X pins σ H s) (r:RelV x v) (ty:tyV X.K T x H) :
 s.TypeIs v T∧∀ a,v = .ref a→∃ ob,s.heap.get? a=some ob∧ob.dict=none:=by
 cases x with
 | str z =>
  obtain ⟨t,rfl⟩:=r
  cases (show T = "str" from ty)
  exact ⟨typeIs_str s z t,fun _ e=>nomatch e⟩
 | int i =>
  obtain ⟨t,rfl⟩:=r
  cases (show T = "int" from ty)
  exact ⟨typeIs_int s i t,fun _ e=>nomatch e⟩
 | ref p =>
  cases r
  rcases ty with ⟨rfl,xs,hq⟩ | ⟨rfl,o,hk,hc,hd⟩ | ⟨rfl,hk⟩ | ⟨rfl,S,n,hk⟩
  ·obtain ⟨its,_,pl,_⟩:=I.list hq
   refine ⟨pl.isList.typeIs,fun a e=>?_⟩
   cases e
   obtain ⟨o,n,e,c,hd,_⟩:=pl
   exact ⟨o,e,hd⟩
  ·refine ⟨⟨o,I.kIn p o hk,hc⟩,fun a e=>?_⟩
   cases e
   exact ⟨o,I.kIn _ o hk,hd⟩
  ·have z:∃ o,s.heap.get? p=some o∧o.ExactDict:=by
    rcases hk with ⟨kvs,hk⟩ | ⟨kvs,hk⟩
    ·obtain ⟨_,_,_,_,o,_,_,e,ex,_⟩:=I.hok p _ hk
     exact ⟨o,e,ex⟩
    ·obtain ⟨_,_,_,_,o,_,_,e,ex,_⟩:=I.hok p _ hk
     exact ⟨o,e,ex⟩
   obtain ⟨o,e,ex⟩:=z
   refine ⟨⟨o,e,ex.1⟩,fun a e2=>?_⟩
   cases e2
   exact ⟨o,e,ex.2.1⟩
  ·obtain ⟨o,_,_,_,e,ex,_⟩:=I.hok p _ hk
   refine ⟨⟨o,e,ex.1⟩,fun a e2=>?_⟩
   cases e2
   exact ⟨o,e,ex.2.1⟩
 | _=>exact False.elim ty
noncomputable def Te (K:PySem.W.Frag) (T:String) (r:V→List V→Hp→VK→Prop) (to:TE):TE:=fun σ H Q=>to σ H fun x H1=>tyV K T x H1∧r x [] H1 Q
noncomputable def tBM (K:PySem.W.Frag) (T:String) (r:V→List V→Hp→VK→Prop) (to:TE) (t:TA):TE:=fun σ H Q=>to σ H fun x H1=>tyV K T x H1∧t σ H1 fun xs H2=>r x xs H2 Q
variable {o e:Expr} {es:List Expr} {to:TE} {t:TA} {name:Str} {apos cpos:Pos} {T id:String} {r:V→List V→Hp→VK→Prop}
theorem Gg (pa:PlainAttrs T) (slot:Slot T name id) (hty:typeOf (.builtin id)=pure (.type "method_descriptor")) (hm:MtR X id r) (ho:PE X o to)
 (hbase:attributeBase o name X.env (eval o X.env)=eval o X.env:=by rfl) (hline:(apos.endLine == cpos.line)=true:=by rfl):PE X (.Call (.Attribute o name apos) [] [] cpos) (Te X.K T r to):=by
 intro pins s σ H Q I h
 refine wpAny_Call_method0_late hbase hline (thn (ho pins s σ H _ I h) fun v s1 ⟨x,H1,I1,r1,ty,q1⟩=>?_)
 obtain ⟨h1,h2⟩:=Gf I1 r1 ty
 exact ⟨T,id,pa,slot,hty,h1,h2,Calls.callWith_builtin rfl (PySem.evalArgs_none (hm pins s1 σ H1 x [] v [] Q I1 r1 .nil q1))⟩
theorem QJ (pa:PlainAttrs T) (slot:Slot T name id) (hty:typeOf (.builtin id)=pure (.type "method_descriptor")) (hm:MtR X id r) (ho:PE X o to) (ha:PA X (e :: es) t)
 (hbase:attributeBase o name X.env (eval o X.env)=eval o X.env:=by rfl)
 (hfew:((backTo cpos (starEach (e :: es) X.env)).all (fun x=>!x.1) && (backToKw cpos (keywordEach [] X.env)).all (fun x=>x.1.isSome)
  && decide ((e :: es).length + ([]:List Keyword).length + (if ([]:List Keyword).isEmpty then 0 else 1) < 30))=true:=by rfl)
 (hline:(apos.endLine == cpos.line)=true:=by rfl) (hs:starEach (e :: es) X.env=(false,eval e X.env) :: starEach es X.env:=by rfl) (hplain:(backTo cpos (starEach es X.env)).any (·.1)=false:=by rfl) :
 PE X (.Call (.Attribute o name apos) (e :: es) [] cpos) (tBM X.K T r to t):=by
 intro pins s σ H Q I h
 refine wpAny_Call_method_late hbase hfew hline rfl (thn (ho pins s σ H _ I h) fun v s1 ⟨x,H1,I1,r1,ty,q1⟩=>?_)
 obtain ⟨h1,h2⟩:=Gf I1 r1 ty
 refine ⟨T,id,pa,slot,hty,h1,h2,?_⟩
 have hA:=ha cpos pins s1 σ H1 _ I1 q1
 rw [hs] at hA ⊢
 refine Calls.callWith_builtin (by show (false || (backTo cpos (starEach es X.env)).any (·.1))=false;rw [hplain] <;> rfl) (Calls.evalArgs_plain ?_)
 exact thn hA fun us s2 ⟨vs,H2,I2,r2,q2⟩=>hm pins s2 σ H2 x vs v us Q I2 r1 r2 q2
/- xs.append(e),list.index on a module's tuple .. are MtR facts of 06m -/
end
end L2
namespace L2
open PySem PySem.Spec PyProof.Rows
noncomputable def MtM (X:Cx) (id:String) (r:V→List V→Hp→VK→Prop):Prop :=
 ∀ (pins:List (Addr × Obj)) (s:Shared) (σ:St) (H:Hp) (x:V) (xs:List V) (v:Value) (us:List Value) (Q:VK),Inv X pins σ H s→RelV x v→Vals xs us→r x xs H Q →
  wpAny (model X.prog X.w) X.A (call (.builtin id) (v :: us)) (EP X pins σ Q) X.xe s
theorem Vals.one:∀ {x:V} {us:List Value},Vals [x] us→∃ u,us=[u]∧RelV x u
 | _,_,.cons r .nil=>⟨_,rfl,r⟩
theorem Vals.zero:∀ {us:List Value},Vals [] us→us=[]
 | _,.nil=>rfl
theorem Vals.eraseIdx:∀ {xs:List V} {us:List Value} (i:Nat),Vals xs us→Vals (xs.eraseIdx i) (us.eraseIdx i)
 | _,_,_,.nil=>.nil
 | _,_,0,.cons _ t=>t
 | _,_,i + 1,.cons r t=>.cons r (Vals.eraseIdx i t)
theorem Vals.reverse {xs:List V} {us:List Value} (h:Vals xs us):Vals xs.reverse us.reverse:=by
 induction h with
 | nil=>exact .nil
 | cons r t ih=>rw [jZ,jZ];exact Vals.append ih (.cons r .nil)
theorem Vals.rep {xs:List V} {us:List Value} (h:Vals xs us):∀ k:Nat,Vals (aK k xs).flatten (aK k us).flatten
 | 0=>.nil
 | k + 1=>by
  rw [cA,cA,eH,eH]
  exact Vals.append h (Vals.rep h k)
theorem foldl_rep (its:List Value):∀ (k:Nat) (acc:List Value),
 ug (fun x1 x2=>x1++x2) acc.toArray (aK k its.toArray)=(acc++(aK k its).flatten).toArray
 | 0,acc=>by simp
 | k + 1,acc=>by
  have e:acc.toArray++its.toArray=(acc++its).toArray:=by simp
  have e2:(acc++its)++(aK k its).flatten=acc++(aK (k + 1) its).flatten:=by
   rw [cA,eH,ql]
  rw [← e2,← foldl_rep its k (acc++its),← e,cA,jc]
section
variable {X:Cx} {pins:List (Addr × Obj)} {σ:St} {H:Hp} {s:Shared} {l b:Addr} {xs ys zs:List V}
theorem Inv.lset {its its':List Value} {n:Nat} {f:Array Value→Array Value} {t':Nat} (I:Inv X pins σ H s) (hH:H l=some (.lst xs))
 (e:s.heap.get? l=some { cls:=.type "list", data:=.seq its.toArray n }) (hf:f its.toArray=its'.toArray) (hv:Vals ys its') (hz:ys.length ≤ sizeLine) :
 Inv X pins σ (upd H l (.lst ys)) { s with heap:=s.heap.update l (Obj.mapSeq f),toks:=t' }:=by
 have q:=PySem.IsL.update e f
 rw [hf] at q
 refine I.write (x:=l) (e:=l) (by rw [hH];exact trivial) (.inl rfl) (fun b' u hb hu=>(Heap.get?_update_other s.heap (Obj.mapSeq f) (Ne.symm hb)).trans hu) ⟨_,q⟩ ?_
 exact ⟨hz,its',_,hv,q⟩
theorem Inv.lnew {its:List Value} {t':Nat} (I:Inv X pins σ H s) (hv:Vals ys its) (hz:ys.length ≤ sizeLine) :
 Inv X pins σ (upd H s.heap.objs.size (.lst ys)) { s with heap:=s.heap.push { cls:=.type "list", data:=.seq its.toArray },toks:=t' } :=
 I.laid (fun _ _ q=>Heap.get?_push_of_some _ q) (bG _) ⟨hz,its,0,hv,Heap.get?_push_size _ rfl⟩
theorem Inv.fresh (I:Inv X pins σ H s):H s.heap.objs.size=none:=I.hok.fresh (bG _)
theorem Inv.lstM (I:Inv X pins σ H s) (hH:H l=some (.lst xs)):xs.length ≤ sizeLine∧∃ (its:List Value) (n:Nat),Vals xs its∧xs.length=its.length∧s.heap.get? l=some { cls:=.type "list", data:=.seq its.toArray n }:=by
 obtain ⟨z,its,n,r,e⟩:=I.hok l _ hH
 exact ⟨z,its,n,r,r.length,e⟩
theorem Gi {n:Nat} (h:n ≤ sizeLine):Builtin.List.listTooLong n=false:=by
 unfold Builtin.List.listTooLong
 exact dFa (by omega)
end
section
variable {X:Cx}
noncomputable def Jm:V→List V→Hp→VK→Prop:=fun x vs H Q=>∃ l xs y,x = .ref l∧vs=[y]∧H l=some (.lst xs)∧xs.length < sizeLine∧Q .non (upd H l (.lst (xs++[y])))
theorem vW:MtM X "list.append" Jm:=by
 intro pins s σ H x vs v us Q I rx rv h
 obtain ⟨l,xs,y,rfl,rfl,hH,hz,q⟩:=h
 cases rx
 obtain ⟨u,rfl,ru⟩:=rv.one
 obtain ⟨z,its,n,r,hl,e⟩:=I.lstM hH
 refine call_meets F.slot_list_append ⟨_,e,rfl⟩ F.entry_list_append (F.args_list_append_2 _ _) (PySem.list_append l its.toArray n u (by rw [bD];omega)) ⟨e,?_⟩
 refine ⟨.non,_,I.lset (its':=its++[u]) hH e (by simp) (r.append (.cons ru .nil)) ?_,rfl,q⟩
 rw [cI,oO]
 omega
noncomputable def Gj:V→List V→Hp→VK→Prop:=fun x vs H Q=>∃ l xs,x = .ref l∧vs=[]∧H l=some (.lst xs)∧Q .non (upd H l (.lst []))
theorem yQ:MtM X "list.clear" Gj:=by
 intro pins s σ H x vs v us Q I rx rv h
 obtain ⟨l,xs,rfl,rfl,hH,q⟩:=h
 cases rx
 have hus:=rv.zero
 subst hus
 obtain ⟨z,its,n,r,hl,e⟩:=I.lstM hH
 refine call_meets F.slot_list_clear ⟨_,e,rfl⟩ F.entry_list_clear (F.args_list_clear_1 _) (AutoSeq1.list_clear_list_0 l its.toArray n (by rw [bD];omega)) ⟨e,?_⟩
 exact ⟨.non,_,I.lset (its':=[]) (ys:=[]) hH e rfl .nil (iJ _),rfl,q⟩
noncomputable def Tf:R2:=fun x y H Q=>∃ l k xs,x = .ref l∧y = .int k∧H l=some (.lst xs)∧-(2 ^ 63) ≤ k∧k < 2 ^ 63∧xs.length * k.toNat ≤ sizeLine ∧
 ∀ p,H p=none→Q (.ref p) (upd H p (.lst (aK k.toNat xs).flatten))
theorem len_rep {α:Type} (xs:List α) (k:Nat):(aK k xs).flatten.length=k * xs.length:=by
 induction k with
 | zero=>simp
 | succ k ih=>rw [cA,eH,cI,ih,Nat.succ_mul,Nat.add_comm]
theorem M_:OpR X (binaryOp .Mult) Tf:=by
 intro pins s σ H x y v u Q I rx ry h
 obtain ⟨l,k,xs,rfl,rfl,hH,h1,h2,hz,q⟩:=h
 cases rx
 obtain ⟨t,rfl⟩:=ry
 obtain ⟨z,its,n,r,hl,e⟩:=I.lstM hH
 have hlen:its.toArray.size * k.toNat ≤ sizeLine:=by rw [bD,← hl];exact hz
 have hcap:¬ its.toArray.size * k.toNat > (2 ^ 63 - 1) / 8:=by
  have:(sizeLine:Nat) ≤ (2 ^ 63 - 1) / 8:=by decide
  omega
 have hfit:¬ (!Builtin.List.listFitsIndex k)=true:=by
  rw [fitsIndex_both h1 h2]
  exact bC
 have hlong:¬ Builtin.List.listTooLong (its.toArray.size * k.toNat)=true:=by
  rw [Gi hlen]
  exact bC
 have hnew:ug (fun x1 x2=>x1++x2) #[] (aK (if its.toArray.isEmpty=true then 0 else k.toNat) its.toArray)=(aK k.toNat its).flatten.toArray:=by
  have f0:∀ m:Nat,ug (fun x1 x2=>x1++x2) #[] (aK m its.toArray)=(aK m its).flatten.toArray:=fun m=>by
   have:=foldl_rep its m []
   rw [oK] at this
   exact this
  rw [f0]
  cases its with
  | nil=>simp
  | cons a r'=>rw [if_neg (by simp)]
 refine wpAny_binaryOp_repeat_ref (T := "list") (U := "int") (by decide) ⟨_,e,rfl⟩ (fun s'=>typeIs_int s' k t) noFill_list_mul F.fills_int_mul F.slot_int_rmul repeat_list F.slot_int_index.lookup
  (call_meets F.slot_int_rmul (typeIs_int s k t) F.entry_int_rmul (F.args_int_rmul_2 _ _) (int___rmul___int_list k t l its.toArray n)
   ⟨e,rfl,⟨_,e,rfl⟩,call_meets F.slot_list_mul ⟨_,e,rfl⟩ F.entry_list_mul (F.args_list_mul_2 _ _) (AutoListH.list___mul___list_int_3 l its.toArray n k t hfit hcap hlong) ⟨e,?_⟩⟩)
 rw [hnew]
 exact ⟨.ref _,_,I.lnew (t':=s.toks) (r.rep k.toNat) (by rw [len_rep,Nat.mul_comm];exact hz),rfl,q _ I.fresh⟩
end
section
variable {prog:Program} {w:World} {A:Around} {E:Value→Shared→Prop} {s:Shared}
set_option maxRecDepth 100000 in
end
section
variable {X:Cx}
end
end L2
namespace Att
open PySem PySem.W PySem.Calls PyProof.Rows
theorem tH {P:Params} {h:Heap}:∀ (ns:List Int) (vs:List Value),WellAll P h vs (ns.map WData.int)→IntsAre vs ns:=by
 intro ns
 induction ns with
 | nil =>
  intro vs w
  rw [qm] at w
  cases w
  exact .nil
 | cons n ns ih =>
  intro vs w
  rw [bx] at w
  cases w with
  | cons a b =>
   cases a
   exact .cons _ _ (ih _ b)
theorem DY {l:OpenLaw} {n:Nat} (hn:l.most=some n) {P:Params} {h:Heap} {args:List WData} {vals:List Value}
 (hpre:l.row.toRowW.claim.pre args=true) (hwl:WellAll P h vals args) :
 ∃ a vs ns,vals=[Value.ref a]∧args=[WData.list (ns.map WData.int)]∧h.get? a=some { cls:=.type "list", data:=.seq vs.toArray }∧IntsAre vs ns∧ns.length ≤ n:=by
 have hsh:WShape.hasAll [] args [.list .int]=true:=(pre_splitW hpre).1
 have hc:l.pre.holds [] { args:=args }=true:=(pre_splitW hpre).2
 obtain ⟨d,r,rfl,h1,h2⟩:=hasAllW_cons hsh
 obtain rfl:=hasAllW_nil h2
 obtain ⟨xs,rfl,h3⟩:=hasW_list h1
 obtain ⟨ns,rfl⟩:=items_int h3
 have hlen:ns.length ≤ n:=by
  unfold OpenLaw.pre at hc
  have h4:(WTm.not (.lt (.lit (.int (n:Int))) (.len (.arg 0)))).holds [] { args:=[.list (ns.map .int)] }=true:=by
   have h4:=(holds_andW hc).1
   rw [hn] at h4
   exact h4
  have h5:=condW_of h4 (w_not (w_lt w_lit (w_len_list (w_arg rfl))))
  rw [aU] at h5
  refine Nat.le_of_not_lt fun q=>?_
  have q':(n:Int) < ((ns.length:Nat):Int):=by omega
  first
   | (rw [dTr q'] at h5;exact absurd h5 (by decide))
   | (simp at h5;omega)
 cases hwl with
 | cons w1 w2 =>
  cases w2
  cases w1 with
  | list ho hall=>exact ⟨_,_,ns,rfl,rfl,ho,tH ns _ hall,hlen⟩
theorem D_ (l:OpenLaw) (args:List WData):l.row.toRowW.claim.post args (.bool true) args=true :=
 postW_of (r:=l.row.toRowW) (X:=(true == true))
  (show WShape.has [] (.bool true) .bool=true by first | rfl | decide | simp [WShape.has,WShape.arms,WShape.armsAll])
  (show (WTm.eq .res (.lit (.bool true))).value [] { args:=args,res:=some (.bool true),after:=args }=some (.bool (true == true)) from w_eq_bool (w_res rfl) w_lit) rfl
theorem yR {l:OpenLaw} {n:Nat} {q:Program} {loose:List Str} {XP:(Str→Option Value)→Heap→Prop} {YP:World→Heap→Prop} {d:DefRec}
 (hn:l.most=some n) (hdf:d.params.defaults=[])
 (call:∀ (w:World) (s₀ s₁:Shared) (mg mb:Str→Option Value) (fa:Addr) (o:Obj) (pm cd doc:Value) (a:Addr) (vs:List Value) (ns:List Int),
  Ground q loose [] XP w s₀ mg mb s₁.heap→YP w s₁.heap →
  s₁.heap.get? fa=some o→o.data = .func (docDef d.name d.params d.body d.scope pm cd doc)→s₁.heap.CodeRec cd d.name→mg d.name=some (.ref fa) →
  s₁.heap.get? a=some { cls:=.type "list", data:=.seq vs.toArray }→IntsAre vs ns→ns.length ≤ n→s₁.gens = #[] →
  codeAny (model l.prog w) callerA (.call (.ref fa) ⟨[.ref a],[]⟩) (fun r s'=>r = .ok (.ret (.bool true))∧OldK s₁.heap s'.heap∧s'.os=s₁.os∧AllBare s'.gens) s₁) :
 WalkO q loose XP YP l.row.toRowW d [] (fun f vs=>PySem.call f vs):=by
 intro w s₀ s₁ mg mb G Y fa o pm cd doc dV kV ho hd hcd hD hmg hg args vals as hpre hlay hrd hwl hlo
 obtain rfl:dV = .none:=Dflts.none hD hdf
 obtain rfl:kV = .none:=Dflts.noKw hD
 obtain ⟨a,vs,ns,rfl,rfl,hobj,hints,hlen⟩:=DY hn hpre hwl
 refine enter_call (codeAny_mono (call w s₀ s₁ mg mb fa o pm cd doc a vs ns G Y ho (fd_plain hd) hcd hmg hobj hints hlen hg) fun r s' hq=>?_)
 obtain ⟨rfl,h2,h3,h4⟩:=hq
 exact ⟨.inl ⟨.bool true,.bool true,[],rfl,fun _=>rfl,.bool true,D_ l _,fun _=>⟨List.Pairwise.nil,fun _ hm=>(nomatch hm)⟩⟩,h2,h3,h4⟩
section
variable {prog:Program} {w:World} {A:Around} {E:Value→Shared→Prop} {s:Shared} {K:Frag}
end
end Att
namespace L2
open PySem PySem.Spec PyProof.Rows
theorem vX:∀ {vs:List Value} {ns:List Int},IntsAre vs ns→Vals (ns.map V.int) vs
 | _,_,.nil=>.nil
 | _,_,.cons n t h=>.cons ⟨t,rfl⟩ (vX h)
noncomputable def Only (H:Hp):Prop:=∀ b,H b=none∨∃ o xs,H b=some (.frz o (.lst xs))
noncomputable def ur (ts:List (Addr × Str × Pos)) (H:Hp):Hp:=fun b=>match ts.find? (fun t=>t.1 == b) with
 | some t=>some (.tbl t.2.1 t.2.2)
 | none=>H b
theorem Gk (ts:List (Addr × Str × Pos)) (H:Hp) (b:Addr):(ur ts H b=H b∧∀ t ∈ ts,t.1 ≠ b)∨∃ t ∈ ts,t.1=b∧ur ts H b=some (.tbl t.2.1 t.2.2):=by
 unfold ur
 cases e:ts.find? (fun t=>t.1 == b) with
 | none=>exact .inl ⟨rfl,fun t ht z=>by have:=List.find?_eq_none.mp e t ht;simp [z] at this⟩
 | some t =>
  have h1:=List.mem_of_find?_eq_some e
  have h2:=List.find?_some e
  exact .inr ⟨t,h1,by simpa using h2,rfl⟩
theorem Gm {P:Program} {w:World} {K:PySem.W.Frag} {mg mb:Str→Option Value} {CX:CXT} {k:Nat} {fa a:Addr} {fd:FuncData} {x:Str} {sp:Sp} {s₁:Shared} {vs:List Value} {ns:List Int}
 (KX:K.In s₁.heap) (hns:s₁.heap.Ns mainGlobals mg) (hb:s₁.heap.Ns builtinsNs mb) (hbb:∀ x:Str,x ≠ "__name__" → mb x=bootBuiltins x) (hlim:s₁.heap.NoLimit) (hbm:∃ bm ob,mg "__builtins__" = some (.ref bm)∧bm ≠ builtinsNs∧s₁.heap.get? bm=some ob∧ob.cls = .type "module" ∧ ob.dict=some builtinsNs∧ob.data = .plain) (hg:s₁.gens = #[])
 (ha:s₁.heap.get? a=some { cls:=.type "list", data:=.seq vs.toArray }) (hi:IntsAre vs ns) (hl:ns.length ≤ sizeLine) (hr:Room k callerA)
 (F:∀ base:Heap,K.In base→base.Ns mainGlobals mg→FnOk P w K mg base CX k fa fd [x] sp) (hbind:∀ (s:Shared) (u:Value),BindsTo s fd ⟨[u],[]⟩ [(x,u)])
 (ts:List (Addr × Str × Pos)) (hts:∀ t ∈ ts,s₁.heap.get? t.1=some { cls:=.none,data:=.fields #[] }) (hCT:∀ t ∈ ts,isCodeTable s₁.heap t.1) (hKt:∀ t ∈ ts,K.lookup t.1=none) (htu:∀ t ∈ ts,∀ t' ∈ ts,t.1=t'.1→t=t')
 (hsp:∀ H:Hp,(∀ t ∈ ts,H t.1=some (.tbl t.2.1 t.2.2))→SqL K H a (ns.map V.int)→sp [.ref a] H (fun v _=>v = .bl true) fun _ _ _=>False)
 (hCX:∀ H e s',CX [] H s₁ (fun _ _ _=>False) e s'→False) :
 codeAny (model P w) callerA (.call (.ref fa) ⟨[.ref a],[]⟩) (fun r s'=>r = .ok (.ret (.bool true))∧OldK s₁.heap s'.heap∧s'.os=s₁.os∧AllBare s'.gens) s₁:=by
 have rv:=vX hi
 have lenV:=hi.length
 have core:∀ H:Hp,(∀ b,H b=none∨(∃ o xs,H b=some (.frz o (.lst xs)))∨∃ t ∈ ts,t.1=b∧H b=some (.tbl t.2.1 t.2.2))→(∀ t ∈ ts,H t.1=some (.tbl t.2.1 t.2.2))→SqL K H a (ns.map V.int)→HOk P w H s₁.heap→(∀ b,H b ≠ none→b=a∨∃ t ∈ ts,t.1=b)→(H a ≠ none→K.lookup a=none) →
  codeAny (model P w) callerA (.call (.ref fa) ⟨[.ref a],[]⟩) (fun r s'=>r = .ok (.ret (.bool true))∧OldK s₁.heap s'.heap∧s'.os=s₁.os∧AllBare s'.gens) s₁:=by
  intro H hO hT hS hok hA hK
  have base_of:∀ {b:Addr} {o:Obj},s₁.heap.get? b=some o→H b=none→(wR s₁.heap H).get? b=some o:=fun e n=>Fv e n
  have noA:∀ {b:Addr} {o:Obj} {es:Array DictEntry} {ep:Nat},s₁.heap.get? b=some o→o.data = .dict es ep→H b=none:=fun {b o es ep} e d=>by
   cases q:H b with
   | none=>rfl
   | some u =>
    rcases hA b (by rw [q];simp) with e' | ⟨t,ht,e'⟩
    case inr =>
     subst e'
     rw [hts t ht] at e;cases e
     have d':Data.fields #[]=Data.dict es ep:=d
     cases d'
    subst e'
    rw [ha] at e;cases e
    have d':Data.seq vs.toArray _=Data.dict es ep:=d
    cases d'
  have nsK:∀ {b:Addr} {m:Str→Option Value},s₁.heap.Ns b m→(wR s₁.heap H).Ns b m:=fun {b m} ⟨o,es,ep,e,d,r⟩=>⟨o,es,ep,base_of e (noA e d),d,r⟩
  have hKb:K.In (wR s₁.heap H):=fun b o e=>base_of (KX b o e) (by
   cases q:H b with
   | none=>rfl
   | some u =>
    rcases hA b (by rw [q];simp) with e' | ⟨t,ht,e'⟩
    ·subst e'
     rw [hK (by rw [q];simp)] at e;cases e
    ·subst e'
     rw [hKt t ht] at e;cases e)
  have hM:Mod K mg (wR s₁.heap H):=⟨hKb,nsK hns,⟨mb,nsK hb,hbb⟩,let ⟨mc,h1,h2⟩:=hlim;⟨mc,nsK h1,h2⟩,let ⟨bm,ob,g1,g2,g3,g4,g5,g6⟩:=hbm;⟨bm,ob,g1,g2,base_of g3 (by
   cases q:H bm with
   | none=>rfl
   | some u =>
    rcases hA bm (by rw [q];simp) with e' | ⟨t,ht,e'⟩
    ·rw [e',ha] at g3;cases g3
     have z:Value.type "list" = Value.type "module" := g4
     injection z with z
     exact absurd z (by decide)
    ·rw [← e',hts t ht] at g3;cases g3
     cases g4),g4,g5,g6⟩⟩
  have e0:Env0 P w K mg (wR s₁.heap H) callerA [] s₁ H:=⟨rfl,hM,fun b o e=>IV e,Nat.le_of_eq (Dv _ _),trivial,fun b hb=>absurd (show b ∈ ([]:List Addr) from hb) (by simp),hok,.of_eq hg⟩
  refine codeAny_mono ((F _ hKb (nsK hns)).run callerA [] s₁ H ⟨[.ref a],[]⟩ [.ref a] [.ref a] _ _ hr e0 (hbind s₁ (.ref a)) (.cons rfl .nil) (hsp H hT hS)) fun r s' h=>?_
  cases r with
  | error e=>exact (hCX H e s' h).elim
  | ok fl =>
   cases fl with
   | next=>exact False.elim h
   | brk=>exact False.elim h
   | cont=>exact False.elim h
   | ret u =>
    obtain ⟨v,H',os,bare,un,hok',r',q⟩:=h
    have q':v = .bl true:=q
    subst q'
    obtain rfl:u=Value.bool true:=r'
    refine ⟨rfl,⟨fun b o e=>?_,fun b o e=>un.there b o e (by simp)⟩,os,bare⟩
    cases q:H b with
    | none=>exact .inl <| un.keep b o e q (by intro z;exact absurd (show b ∈ ([]:List Addr) from z) (by simp)) (by simp)
    | some u =>
     rcases hO b with z | ⟨ob,xs,z⟩ | ⟨t,ht,rfl,z⟩
     case inr.inr =>
      have z2:=un.tbls _ _ _ z
      obtain ⟨ps,e2,_⟩:=hok' _ _ z2
      rw [hts t ht] at e;cases e
      exact .inr (.inl ⟨hCT t ht,rfl,#[],ps,rfl,by rw [e2];simp⟩)
     ·rw [q] at z;cases z
     ·have z2:=un.frzs b ob _ z
      obtain ⟨e1,_⟩:=hok b _ z
      obtain ⟨e2,_⟩:=hok' b _ z2
      rw [e] at e1;cases e1
      exact .inl e2
 have core1:∀ H:Hp,Only H→SqL K H a (ns.map V.int)→HOk P w H s₁.heap→(∀ b,H b ≠ none→b=a)→(H a ≠ none→K.lookup a=none) →
  codeAny (model P w) callerA (.call (.ref fa) ⟨[.ref a],[]⟩) (fun r s'=>r = .ok (.ret (.bool true))∧OldK s₁.heap s'.heap∧s'.os=s₁.os∧AllBare s'.gens) s₁:=by
  intro H hO hS hok hA hK
  have na:∀ t ∈ ts,t.1 ≠ a:=fun t ht z=>by
   have z2:=hts t ht
   rw [z,ha] at z2
   cases z2
  have cs:∀ b,(ur ts H b=H b∧∀ t ∈ ts,t.1 ≠ b)∨∃ t ∈ ts,t.1=b∧ur ts H b=some (.tbl t.2.1 t.2.2):=Gk ts H
  have la:ur ts H a=H a:=by
   rcases cs a with z | ⟨t,ht,z,_⟩
   ·exact z.1
   ·exact absurd z (na t ht)
  have noown:∀ b x,H b ≠ some (.own x):=fun b x z=>by rcases hO b with y | ⟨_,_,y⟩ <;> (rw [y] at z;cases z)
  have notup:∀ b x,H b ≠ some (.tup x):=fun b x z=>by rcases hO b with y | ⟨_,_,y⟩ <;> (rw [y] at z;cases z)
  refine core (ur ts H) (fun b=>?_) (fun t ht=>?_) ?_ (fun b u z=>?_) (fun b z=>?_) (fun z=>hK (by rw [← la];exact z))
  ·rcases cs b with z | ⟨t,ht,z1,z2⟩
   ·rcases hO b with y | y
    ·exact .inl (z.1.trans y)
    ·obtain ⟨o,xs,y⟩:=y
     exact .inr (.inl ⟨o,xs,z.1.trans y⟩)
   ·exact .inr (.inr ⟨t,ht,z1,z2⟩)
  ·rcases cs t.1 with z | ⟨t',ht',z1,z2⟩
   ·exact absurd rfl (z.2 t ht)
   ·have:=htu t' ht' t ht z1
    subst this
    exact z2
  ·rcases hS with (z | ⟨o,z⟩) | z
   ·exact .inl (.inl (by rw [la];exact z))
   ·exact .inl (.inr ⟨o,by rw [la];exact z⟩)
   ·exact .inr z
  ·rcases cs b with y | ⟨t,ht,z1,z2⟩
   ·rw [y.1] at z
    exact (hok b u z).stay (fun _ _ _ q=>q) (fun c q=>absurd q (noown c b)) fun c xs q=>absurd q (notup c xs)
   ·rw [z2] at z
    cases z
    subst z1
    exact ⟨#[],hts t ht,.inl rfl⟩
  ·rcases cs b with y | ⟨t,ht,z1,z2⟩
   ·exact .inl (hA b (by rw [← y.1];exact z))
   ·exact .inr ⟨t,ht,z1⟩
 cases hk:K.lookup a with
 | some o =>
  have e:=KX a o hk
  rw [ha] at e
  cases e
  refine core1 (fun _=>none) (fun _=>.inl rfl) (.inr ⟨_,vs.toArray,_,hk,rfl,rfl,rfl,by rw [bD,lenV];exact hl,by simpa using rv⟩) (fun b u z=>by have z':(none:Option HO)=some u:=z;cases z') (fun b z=>absurd rfl z) fun z=>absurd rfl z
 | none =>
  refine core1 (fun b=>if b=a then some (.frz { cls:=.type "list", data:=.seq vs.toArray } (.lst (ns.map V.int))) else none) (fun b=>?_) (.inl (.inr ⟨{ cls:=.type "list", data:=.seq vs.toArray },if_pos rfl⟩)) (fun b u z=>?_) (fun b z=>?_) fun _=>hk
  ·by_cases hb:b=a
   ·exact .inr ⟨_,_,if_pos hb⟩
   ·exact .inl (if_neg hb)
  ·by_cases hb:b=a
   ·have z':=(if_pos hb).symm.trans z
    cases z'
    subst hb
    exact ⟨ha,by rw [aU];exact hl,vs,_,rv,ha⟩
   ·have z':=(if_neg hb).symm.trans z
    cases z'
  ·by_cases hb:b=a
   ·exact hb
   ·exact absurd (if_neg hb) z
end L2
namespace L2
open PySem PySem.Spec PyProof.Rows
noncomputable abbrev KOf {K:PySem.W.Frag} {h:Heap} (_:K.In h):PySem.W.Frag:=K
theorem Jo {l:PySem.W.OpenLaw} {n k:Nat} {q:Program} {loose:List Str} {XP:(Str→Option Value)→Heap→Prop} {YP:World→Heap→Prop} {d:DefRec} {K:Params→PySem.W.Frag} {CX:World→CXT} {sp:World→Sp} {x:Str}
 (hn:l.most=some n) (hn2:n ≤ sizeLine) (hdf:d.params.defaults=[]) (hr:Room k callerA)
 (hY:∀ (w:World) (h:Heap),YP w h→(K w.params).In h)
 (F:∀ (w:World) (mg:Str→Option Value) (fa:Addr) (h:Heap),(K w.params).In h→h.Ns mainGlobals mg→mg d.name=some (.ref fa) →
  ∃ fd:FuncData,(∀ (s:Shared) (u:Value),BindsTo s fd ⟨[u],[]⟩ [(x,u)]) ∧
   ∀ base:Heap,(K w.params).In base→base.Ns mainGlobals mg→FnOk l.prog w (K w.params) mg base (CX w) k fa fd [x] (sp w))
 (ts:List (Addr × Str × Pos)) (hts:∀ (w:World) (h:Heap),YP w h→(∀ t ∈ ts,h.get? t.1=some { cls:=.none,data:=.fields #[] })∧(∀ t ∈ ts,isCodeTable h t.1)∧∀ t ∈ ts,(K w.params).lookup t.1=none) (htu:∀ t ∈ ts,∀ t' ∈ ts,t.1=t'.1→t=t')
 (hsp:∀ (w:World) (H:Hp) (a:Addr) (ns:List Int),ns.length ≤ n→(∀ t ∈ ts,H t.1=some (.tbl t.2.1 t.2.2))→SqL (K w.params) H a (ns.map V.int)→sp w [.ref a] H (fun v _=>v = .bl true) fun _ _ _=>False)
 (hCX:∀ (w:World) (H:Hp) (s:Shared) (e:Value) (s':Shared),CX w [] H s (fun _ _ _=>False) e s'→False) :
 PySem.W.WalkO q loose XP YP l.row.toRowW d [] (fun f vs=>PySem.call f vs):=by
 refine Att.yR hn hdf fun w s₀ s₁ mg mb fa o pm cd doc a vs ns G Y ho hd hcd hmg hobj hints hlen hg=>?_
 have KX:=hY w _ Y
 obtain ⟨fd,hb,hF⟩:=F w mg fa _ KX G.T.g hmg
 exact Gm KX G.T.g G.T.b G.T.builtins G.T.nolimit G.T.bmain hg hobj hints (dB hlen hn2) hr hF hb ts (hts w _ Y).1 (hts w _ Y).2.1 (hts w _ Y).2.2 htu (fun H hO hS=>hsp w H a ns hlen hO hS) fun H e s'=>hCX w H s₁ e s'
theorem Gn {l:PySem.W.OpenLaw} {n k:Nat} {q:Program} {loose:List Str} {XP:(Str→Option Value)→Heap→Prop} {YP:World→Heap→Prop} {d:DefRec} {K:Params→PySem.W.Frag} {CX:CXT} {sp:PySem.W.Frag→Sp} {x:Str}
 (hn:l.most=some n) (hn2:n ≤ sizeLine) (hdf:d.params.defaults=[]) (hr:Room k callerA)
 (hY:∀ (w:World) (h:Heap),YP w h→(K w.params).In h)
 (F:∀ (w:World) (mg:Str→Option Value) (fa:Addr) (h:Heap),(K w.params).In h→h.Ns mainGlobals mg→mg d.name=some (.ref fa) →
  ∃ fd:FuncData,(∀ (s:Shared) (u:Value),BindsTo s fd ⟨[u],[]⟩ [(x,u)]) ∧
   ∀ base:Heap,(K w.params).In base→base.Ns mainGlobals mg→FnOk l.prog w (K w.params) mg base CX k fa fd [x] (sp (K w.params)))
 (ts:List (Addr × Str × Pos)) (hts:∀ (w:World) (h:Heap),YP w h→(∀ t ∈ ts,h.get? t.1=some { cls:=.none,data:=.fields #[] })∧(∀ t ∈ ts,isCodeTable h t.1)∧∀ t ∈ ts,(K w.params).lookup t.1=none) (htu:∀ t ∈ ts,∀ t' ∈ ts,t.1=t'.1→t=t')
 (hsp:∀ (K:PySem.W.Frag) (H:Hp) (a:Addr) (ns:List Int),ns.length ≤ n→(∀ t ∈ ts,H t.1=some (.tbl t.2.1 t.2.2))→SqL K H a (ns.map V.int)→sp K [.ref a] H (fun v _=>v = .bl true) fun _ _ _=>False)
 (hCX:∀ (H:Hp) (s:Shared) (e:Value) (s':Shared),CX [] H s (fun _ _ _=>False) e s'→False) :
 PySem.W.WalkO q loose XP YP l.row.toRowW d [] (fun f vs=>PySem.call f vs) :=
 Jo (K:=K) (CX:=fun _=>CX) (sp:=fun w=>sp (K w.params)) hn hn2 hdf hr hY F ts hts htu (fun w H a ns h1 h2 h3=>hsp (K w.params) H a ns h1 h2 h3) fun _ H s e s'=>hCX H s e s'
end L2
/- THE LAST THEOREM (shape;LID,My.* are yours):
   My.Adr: a structure of the addresses that your layer names (classes,functions);My.Txt K t: a structure (Prop) of the equations over K;
   My.txt_mk:{K} {implicit addresses ..} (e1:nsIn K mainGlobals "law" = some (some (.ref f))) (e2:K.lookup f=some ⟨oc,od,.func (fnOf "law" "law" params body scope dV kV doc pm an cdv ct),sl⟩) (e3:codeIn K cdv "law" = true) .. : ∃ t,My.Txt K t
set_option maxRecDepth 100000 in
set_option maxHeartbeats 0 in
(the tactic k_is has no namespace: write k_is) -/
namespace L2
open PySem PySem.Spec PyProof.Rows
noncomputable def pF (s:Stmt):Arguments:=match s with
 | .FunctionDef _ a _ _ _ _ _ _ _ _=>a
 | _=>{ posonlyargs:=[],args:=[],vararg:=none,kwonlyargs:=[],kw_defaults:=[],kwarg:=none,defaults:=[] }
noncomputable def j6 (s:Stmt):List Stmt:=match s with
 | .FunctionDef _ _ b _ _ _ _ _ _ _=>b
 | _=>[]
noncomputable def bA (s:Stmt):Scope:=match s with
 | .FunctionDef _ _ _ _ _ _ sc _ _ _=>sc
 | _=>{ kind:=.function,names:=[],isGenerator:=false,isCoroutine:=false }
noncomputable abbrev CX0:CXT:=fun _ _ _ _ _ _=>False
noncomputable abbrev E0:XK:=fun _ _ _=>False
theorem QK {X:Cx}:Passes CX0 X E0:=fun _ _ _ _ _ _ _ h=>h.elim
structure Fun (K:PySem.W.Frag) (x qual:Str) (st:Stmt) (f:Addr) (fd:FuncData):Prop where
 ex:∃ (oc:Value) (od:Option Addr) (kV doc pm:Value) (an:Option Addr) (cdv ct:Value) (osl:Array (Option Value)),
  fd=PySem.W.fnOf x qual (pF st) (j6 st) (bA st) .none kV doc pm an cdv ct∧K.lookup f=some ⟨oc,od,.func fd,osl⟩∧PySem.W.codeIn K cdv qual=true
 kp:PySem.W.keepIn K (.ref f)=true
section
variable {P:Program} {w:World} {K:PySem.W.Frag} {mg:Str→Option Value} {base:Heap}
end
section
variable {X:Cx}
end
theorem wZ {A B:Prop} (h:B):if false=true then A else B:=by
 rw [if_neg bC]
 exact h
theorem xg {A B:Prop} (h:A):if true=true then A else B:=by
 rw [if_pos rfl]
 exact h
noncomputable def Same (H H':Hp):Prop:=∀ b o,H b=some o→H' b=some o
theorem Same.refl (H:Hp):Same H H:=fun _ _ h=>h
theorem Same.trans {H H1 H2:Hp} (a:Same H H1) (b:Same H1 H2):Same H H2:=fun c o h=>b c o (a c o h)
theorem Same.free {H H':Hp} (e:Same H H') {l:Addr} (h:H' l=Option.none):H l=Option.none:=by
 cases q:H l with
 | none=>rfl
 | some o =>
  rw [e l o q] at h
  cases h
theorem Same.seq {K:PySem.W.Frag} {H H':Hp} {a:Addr} {xs:List V} (e:Same H H') (h:SqL K H a xs):SqL K H' a xs:=by
 rcases h with (h | ⟨o,h⟩) | h
 ·exact .inl (.inl (e _ _ h))
 ·exact .inl (.inr ⟨o,e _ _ h⟩)
 ·exact .inr h
end L2
namespace My
open PySem PySem.Spec PyProof.Rows L2
noncomputable abbrev St:=L2.St
theorem gW {H:Hp} {p:Addr} (h:H p=none) (o:HO):Same H (upd H p o):=fun b u q=>by rw [dG (kY q h)];exact q
theorem Gp {K:PySem.W.Frag} {H H':Hp} {a:Addr} {xs:List V} (e:Same H H') (h:SqT K H a xs):SqT K H' a xs:=by
 rcases h with (h | ⟨o,h⟩) | h
 ·exact .inl (.inl (e _ _ h))
 ·exact .inl (.inr ⟨o,e _ _ h⟩)
 ·exact .inr h
structure Df (K:PySem.W.Frag) (mg:Str→Option Value) (x:Str) (st:Stmt) (ps:List Str):Prop where
 ex:∃ (f:Addr) (fd:FuncData),Fun K x x st f fd∧Binds K fd ps []∧mg x=some (.ref f)
structure Has (P:Program) (w:World) (K:PySem.W.Frag) (mg:Str→Option Value) (base:Heap) (n:Nat) (x:Str) (ps:List Str) (sp:Sp):Prop where
 ex:∃ (f:Addr) (fd:FuncData),FnOk P w K mg base CX0 n f fd ps sp∧Binds K fd ps []∧PySem.W.keepIn K (.ref f)=true∧mg x=some (.ref f)
section
variable {P:Program} {w:World} {K:PySem.W.Frag} {mg:Str→Option Value} {base:Heap} {x:Str} {ps N:List Str} {sp:Sp} {st:Stmt} {k n:Nat}
theorem Has.mono (h:Has P w K mg base k x ps sp) (l:k ≤ n):Has P w K mg base n x ps sp:=by
 obtain ⟨f,fd,F,b,kp,m⟩:=h.ex
 exact ⟨f,fd,F.mono l,b,kp,m⟩
end
section
variable {X:Cx} {x:Str} {ps:List Str} {sp:Sp} {n:Nat} {p pos:Pos} {e:Expr} {es:List Expr} {t:TA}
theorem uw (h:Has X.prog X.w X.K X.mg X.base n x ps sp) (hr:Room n X.A) (ha:PA X (e :: es) t) (hg:Gl X x:=by rfl) (hdb:(x == ("__debug__" : Str))=false:=by decide)
 (he:starEach (e :: es) X.env=(false,eval e X.env) :: starEach es X.env:=by rfl) (hpl:(backTo pos (starEach es X.env)).any (·.1)=false:=by rfl) :
 PE X (.Call (.Name x p) (e :: es) [] pos) (Lj sp [] E0 t):=by
 obtain ⟨f,fd,F,b,kp,m⟩:=h.ex
 exact Jg F hr hg m kp b .nil QK ha hdb he hpl
end
mutual
inductive RdV (K:PySem.W.Frag) (H:Hp):V→PyData→Prop
 | non:RdV K H .non .none
 | bl (b:Bool):RdV K H (.bl b) (.bool b)
 | int (i:Int):RdV K H (.int i) (.int i)
 | str (x:Str):RdV K H (.str x) (.str x)
 | lst {a:Addr} {xs:List V} {ds:List PyData}:SqL K H a xs→RdVs K H xs ds→RdV K H (.ref a) (.list ds)
 | tup {a:Addr} {xs:List V} {ds:List PyData}:SqT K H a xs→RdVs K H xs ds→RdV K H (.ref a) (.tuple ds)
inductive RdVs (K:PySem.W.Frag) (H:Hp):List V→List PyData→Prop
 | nil:RdVs K H [] []
 | cons {v:V} {d:PyData} {vs:List V} {ds:List PyData}:RdV K H v d→RdVs K H vs ds→RdVs K H (v :: vs) (d :: ds)
end
section
variable {X:Cx} {pins:List (Addr × Obj)} {σ:St} {H:Hp} {s:Shared}
mutual
theorem RdV.reads (I:Inv X pins σ H s):∀ {v:V} {d:PyData},RdV X.K H v d→∀ {u:Value},RelV v u→∃ as,Reads s.heap u d as
 | _,_,.non,_,r=>by cases r;exact ⟨_,.none⟩
 | _,_,.bl b,_,r=>by cases r;exact ⟨_,.bool b⟩
 | _,_,.int i,_,r=>by obtain ⟨t,rfl⟩:=r;exact ⟨_,.int i t⟩
 | _,_,.str x,_,r=>by obtain ⟨t,rfl⟩:=r;exact ⟨_,.str x t⟩
 | _,_,.lst h q,_,r=>by
  cases r
  obtain ⟨its,rv,⟨o,n,e,c,_,d⟩,_⟩:=I.list h
  obtain ⟨as,z⟩:=RdVs.reads I q rv
  exact ⟨_,.list e c d (by simpa using z)⟩
 | _,_,.tup h q,_,r=>by
  cases r
  obtain ⟨its,rv,⟨o,e,c,n,d⟩,_⟩:=I.tuple h
  obtain ⟨as,z⟩:=RdVs.reads I q rv
  exact ⟨_,.tuple e c d (by simpa using z)⟩
theorem RdVs.reads (I:Inv X pins σ H s):∀ {vs:List V} {ds:List PyData},RdVs X.K H vs ds→∀ {us:List Value},Vals vs us→∃ as,ReadsAll s.heap us ds as
 | _,_,.nil,_,r=>by cases r;exact ⟨_,.nil⟩
 | _,_,.cons h q,_,r=>by
  cases r with
  | cons r1 r2 =>
   obtain ⟨as,z⟩:=RdV.reads I h r1
   obtain ⟨bs,y⟩:=RdVs.reads I q r2
   exact ⟨_,.cons z y⟩
end
end
section
variable {X:Cx}
noncomputable def QL (K:PySem.W.Frag):R2:=fun x y H Q=>∃ da db,RdV K H x da∧RdV K H y db∧SeqAt.shaped da=true∧SeqAt.shaped db=true∧Q (.bl (PyData.eqv da db)) H
noncomputable def QM (K:PySem.W.Frag):R2:=fun x y H Q=>∃ da db,RdV K H x da∧RdV K H y db∧SeqAt.shaped da=true∧SeqAt.shaped db=true∧Q (.bl (!PyData.eqv da db)) H
theorem lD (hu:X.A.units + 64 < cLine):OpR X (compareOp .Eq) (QL X.K):=by
 intro pins s σ H x y v u Q I rx ry h
 obtain ⟨da,db,ha,hb,sa,sb,q⟩:=h
 obtain ⟨as,za⟩:=ha.reads I rx
 obtain ⟨bs,zb⟩:=hb.reads I ry
 exact SeqAt.compareEq_shaped za zb sa sb hu ⟨.bl _,H,I,rfl,q⟩
theorem m_ (hu:X.A.units + 64 < cLine):OpR X (compareOp .NotEq) (QM X.K):=by
 intro pins s σ H x y v u Q I rx ry h
 obtain ⟨da,db,ha,hb,sa,sb,q⟩:=h
 obtain ⟨as,za⟩:=ha.reads I rx
 obtain ⟨bs,zb⟩:=hb.reads I ry
 exact SeqAt.compareNe_shaped za zb sa sb hu ⟨.bl _,H,I,rfl,q⟩
end
noncomputable def isT (c T:String):Bool:=T == c || (T == "bool" && c == "int")
section
variable {K:PySem.W.Frag}
theorem Nb (h:c = "int" ∨ c = "bool" ∨ c = "tuple" ∨ c = "list" ∨ c = "str") (g:T = "NoneType" ∨ T = "bool" ∨ T = "int" ∨ T = "str" ∨ T = "list" ∨ T = "tuple" ∨ T = "dict") :
 PySem.W.kitOne K (.type T) (.type c)=some (isT c T):=by
 rcases h with rfl | rfl | rfl | rfl | rfl <;> rcases g with rfl | rfl | rfl | rfl | rfl | rfl | rfl <;> kernel_rfl
end
section
variable {X:Cx}
end
end My
namespace My
open PySem PySem.Spec PyProof.Rows L2
section
variable {X:Cx} {a b c d:Expr} {ta tb tc td:TE} {pos:Pos}
noncomputable def Jp (r r' r'':R2) (ta tb tc td:TE):TE:=fun σ H Q=>ta σ H fun x H1=>tb σ H1 fun y H2=>r x y H2 fun z H3=>∃ k,z = .bl k ∧
 (if k=true then tc σ H3 fun w' H4=>r' y w' H4 fun z' H5=>∃ k',z' = .bl k'∧(if k'=true then td σ H5 fun v' H6=>r'' w' v' H6 Q else Q (.bl false) H5) else Q (.bl false) H3)
theorem Ea {op op' op'':CmpOp} {r r' r'':R2} (ho:OpR X (compareOp op) r) (ho':OpR X (compareOp op') r') (ho'':OpR X (compareOp op'') r'') (ha:PE X a ta) (hb:PE X b tb) (hc:PE X c tc) (hd:PE X d td)
 (hm:lastMarks [op,op',op''] [b,c,d]=false:=by with_unfolding_all rfl):PE X (.Compare a [op,op',op''] [b,c,d] pos) (Jp r r' r'' ta tb tc td):=by
 intro pins s σ H Q I h
 refine Compare_chain (thn (ha pins s σ H _ I h) fun v s1 ⟨x,H1,I1,r1,q1⟩=>chain_link (thn (hb pins s1 σ H1 _ I1 q1) fun u s2 ⟨y,H2,I2,r2,q2⟩ =>
  thn (ho pins s2 σ H2 x y v u _ I2 r1 r2 q2) fun d s3 ⟨z,H3,I3,r3,k,e,q3⟩=>?_)) hm
 subst e
 cases r3
 refine wpAny_truthy_bool ?_
 cases k with
 | false=>exact ite_ff ⟨.bl false,H3,I3,rfl,q3⟩
 | true =>
  refine ite_tt (chain_link (thn (hc pins s3 σ H3 _ I3 q3) fun w' s4 ⟨z',H4,I4,r4,q4⟩=>thn (ho' pins s4 σ H4 y z' u w' _ I4 r2 r4 q4) fun d' s5 ⟨z2,H5,I5,r5,k2,e2,q5⟩=>?_))
  subst e2
  cases r5
  refine wpAny_truthy_bool ?_
  cases k2 with
  | false=>exact ite_ff ⟨.bl false,H5,I5,rfl,q5⟩
  | true=>exact ite_tt (chain_last (thn (hd pins s5 σ H5 _ I5 q5) fun w3 s6 ⟨z3,H6,I6,r6,q6⟩=>ho'' pins s6 σ H6 z' z3 w' w3 Q I6 r4 r6 q6))
end
structure Blt (mg:Str→Option Value):Prop where
 len_:mg "len" = none
 range_:mg "range" = none
 abs_:mg "abs" = none
 isinstance_:mg "isinstance" = none
 int_:mg "int" = none
 bool_:mg "bool" = none
 tuple_:mg "tuple" = none
 max_:mg "max" = none
 min_:mg "min" = none
end My
namespace My
open PySem PySem.Spec PyProof.Rows L2
noncomputable abbrev cx (P:Program) (w:World) (K:PySem.W.Frag) (mg:Str→Option Value) (base:Heap) (N:List Str) (x:Str) (st:Stmt) (f:Addr) (cdv:Value) (A:Around) (outer:List Env) (s:Shared) (H:Hp) (E:XK):Cx :=
 (Aj CX0 P w K mg base N x (bA st) f cdv A outer s H E).nox
end My
namespace My
open PySem PySem.Spec PyProof.Rows L2
noncomputable def n_ (env:Env):List (Str × NameKind)→List (Str × Addr)→List (Str × Addr)
 | [],cs=>cs
 | (n,k) :: r,cs=>if (k == NameKind.free)=true then n_ env r ((n,(env.cells.lookup n).getD 0) :: cs) else n_ env r cs
theorem pZ {env:Env}:∀ (l:List (Str × NameKind)) (cs:List (Str × Addr)),(∀ x ∈ l,x.2 = .free→∃ c,env.cells.lookup x.1=some c) →
 (forIn l cs fun (x:Str × NameKind) (r:List (Str × Addr))=>(if (x.2 == NameKind.free)=true then (do let c ← cellOf env x.1;pure (ForInStep.yield ((x.1,c) :: r))) else pure (ForInStep.yield r):Sem (ForInStep (List (Str × Addr)))))=pure (n_ env l cs)
 | [],_,_=>rfl
 | (n,k) :: r,cs,h=>by
  rw [List.forIn_cons]
  by_cases hk:(k == NameKind.free)=true
  ·obtain ⟨c,hc⟩:=h (n,k) aN (beq_iff_eq.mp hk)
   have hc':cellOf env n=pure c:=by
    unfold cellOf
    rw [show env.cells.lookup n=some c from hc]
   show (do let x ← (if (k == NameKind.free)=true then (do let c ← cellOf env n;pure (ForInStep.yield ((n,c) :: cs))) else pure (ForInStep.yield cs):Sem (ForInStep (List (Str × Addr))));_)=_
   rw [if_pos hk,hc']
   have ih:=pZ r ((n,c) :: cs) fun x hx=>h x (aJ _ hx)
   rw [n_,if_pos hk,show env.cells.lookup n=some c from hc]
   exact ih
  ·show (do let x ← (if (k == NameKind.free)=true then (do let c ← cellOf env n;pure (ForInStep.yield ((n,c) :: cs))) else pure (ForInStep.yield cs):Sem (ForInStep (List (Str × Addr))));_)=_
   rw [if_neg hk]
   have ih:=pZ r cs fun x hx=>h x (aJ _ hx)
   rw [n_,if_neg hk]
   exact ih
theorem Am {env:Env} {scope:Scope} (h:∀ x ∈ scope.names,x.2 = .free→∃ c,env.cells.lookup x.1=some c):closureFor scope env=pure (n_ env scope.names []):=by
 have z:=pZ (env:=env) scope.names [] h
 show (forIn scope.names [] fun (x:Str × NameKind) (r:List (Str × Addr))=>(if (x.2 == NameKind.free)=true then (do let c ← cellOf env x.1;pure (ForInStep.yield ((x.1,c) :: r))) else pure (ForInStep.yield r):Sem (ForInStep (List (Str × Addr))))) >>= (fun cs=>pure cs)=_
 rw [z]
 rfl
theorem ux {env:Env}:∀ (l:List (Str × NameKind)) (cs:List (Str × Addr)),(∀ x ∈ l,x.2 = .free→∃ c,env.cells.lookup x.1=some c)→(∀ x c,cs.lookup x=some c→env.cells.lookup x=some c) →
 ∀ x c,(n_ env l cs).lookup x=some c→env.cells.lookup x=some c
 | [],_,_,hc,x,c,e=>hc x c e
 | (n,k) :: r,cs,h,hc,x,c,e=>by
  rw [n_] at e
  by_cases hk:(k == NameKind.free)=true
  ·rw [if_pos hk] at e
   obtain ⟨d,hd⟩:=h (n,k) aN (beq_iff_eq.mp hk)
   refine ux r _ (fun x hx=>h x (aJ _ hx)) (fun y c' e'=>?_) x c e
   rw [dw] at e'
   cases hy:y == n with
   | true =>
    rw [hy] at e'
    have:y=n:=beq_iff_eq.mp hy
    subst this
    rw [show env.cells.lookup y=some d from hd] at e' ⊢
    exact e'
   | false =>
    rw [hy] at e'
    exact hc y c' e'
  ·rw [if_neg hk] at e
   exact ux r cs (fun x hx=>h x (aJ _ hx)) hc x c e
theorem oY {env:Env}:∀ (l:List (Str × NameKind)) (cs:List (Str × Addr)) (x:Str),((x,NameKind.free) ∈ l∨∃ c,cs.lookup x=some c)→∃ c,(n_ env l cs).lookup x=some c
 | [],_,x,h=>by
  rcases h with h | h
  ·exact absurd h (by simp)
  ·exact h
 | (n,k) :: r,cs,x,h=>by
  rw [n_]
  by_cases hk:(k == NameKind.free)=true
  ·rw [if_pos hk]
   refine oY r _ x ?_
   by_cases e:x=n
   ·subst e
    exact .inr ⟨_,by rw [dw,beq_self_eq_true]⟩
   ·rcases h with h | ⟨c,h⟩
    ·rcases bQ.mp h with h | h
     ·exact absurd (congrArg Prod.fst h) e
     ·exact .inl h
    ·exact .inr ⟨c,by rw [dw,beq_eq_false_iff_ne.mpr e];exact h⟩
  ·rw [if_neg hk]
   refine oY r cs x ?_
   rcases h with h | h
   ·rcases bQ.mp h with h | h
    ·have:k = .free:=(congrArg Prod.snd h).symm
     subst this
     exact absurd rfl hk
    ·exact .inl h
   ·exact .inr h
noncomputable abbrev blk (X:Cx) (N':List Str) (scope:Scope) (cl:List (Str × Addr)) (C:Addr) (s3:Shared) (H3:Hp) (fp:List Addr):Cx :=
 { X with N:=N',s₀:=s3,H₀:=H3,env:=compEnvC scope cl C X.env,outer:=X.stack,ex:=fp,fn:=fun _=>false,xe:=fun _ _=>False }
noncomputable def uy (N:List Str) (kinds sn:List (Str × NameKind)):List Str→List Nat→Bool
 | [],[]=>true
 | x :: V,j :: ix=>(N[j]? == some x) && ((kinds.lookup x == some NameKind.cell) && ((sn.lookup x == some NameKind.free) && uy N kinds sn V ix))
 | _,_=>false
noncomputable def vC (t:Nat) (ix:List Nat) (σ:St):St:=aK t none++ix.map fun j=>(σ[j]?).getD none
theorem uz {N:List Str} {kinds sn:List (Str × NameKind)}:∀ {V:List Str} {ix:List Nat},uy N kinds sn V ix=true→ix.length=V.length∧∀ (k:Nat) (x:Str),V[k]? = some x→∃ j,ix[k]? = some j∧N[j]? = some x∧kinds.lookup x=some .cell∧sn.lookup x=some .free
 | [],[],_=>⟨rfl,fun k x h=>by simp at h⟩
 | x :: V,j :: ix,h=>by
  rw [uy,aR,aR,aR] at h
  obtain ⟨h1,h2,h3,h4⟩:=h
  obtain ⟨l,r⟩:=uz h4
  refine ⟨by simp [l],fun k y hy=>?_⟩
  cases k with
  | zero =>
   simp at hy
   subst hy
   exact ⟨j,rfl,beq_iff_eq.mp h1,beq_iff_eq.mp h2,beq_iff_eq.mp h3⟩
  | succ k=>exact r k y (by simpa using hy)
 | [],_ :: _,h=>by simp [uy] at h
 | _ :: _,[],h=>by simp [uy] at h
theorem qH {env:Env} (hf:env.scope.kind = .function):∀ {names:List (Str × NameKind)} {x:Str},names.lookup x=some .free→env.kindOf x=some .cell →
 (names.map fun (n,k)=>if (k == NameKind.free && env.scope.kind == .function && env.kindOf n == some .cell) then (n,NameKind.cell) else (n,k)).lookup x=some .cell
 | [],_,h,_=>by simp at h
 | (n,k) :: r,x,h,hc=>by
  have ih:=@qH env hf r x
  show List.lookup x ((if (k == NameKind.free && env.scope.kind == .function && env.kindOf n == some .cell)=true then (n,NameKind.cell) else (n,k)) :: _)=_
  cases hx:x == n with
  | true =>
   have e:x=n:=beq_iff_eq.mp hx
   subst e
   simp only [dw,hx] at h
   cases h
   rw [if_pos (by rw [hf,hc];rfl)]
   simp [dw]
  | false =>
   simp only [dw,hx] at h
   by_cases hq:(k == NameKind.free && env.scope.kind == .function && env.kindOf n == some .cell)=true
   ·rw [if_pos hq];simp only [dw,hx];exact ih h hc
   ·rw [if_neg hq];simp only [dw,hx];exact ih h hc
theorem oh {env:Env}:∀ {names:List (Str × NameKind)} {x:Str} {k:NameKind},(∀ y ∈ names,y.2 ≠ .cell)→(k = .cell∨k = .free) →
 (names.map fun (n,k)=>if (k == NameKind.free && env.scope.kind == .function && env.kindOf n == some .cell) then (n,NameKind.cell) else (n,k)).lookup x=some k→(x,NameKind.free) ∈ names
 | [],_,_,_,_,h=>by simp at h
 | (n,k') :: r,x,k,hc,hk,h=>by
  have ih:=@oh env r x k (fun y hy=>hc y (aJ _ hy)) hk
  have h':List.lookup x ((if (k' == NameKind.free && env.scope.kind == .function && env.kindOf n == some .cell)=true then (n,NameKind.cell) else (n,k')) :: (r.map fun (n,k)=>if (k == NameKind.free && env.scope.kind == .function && env.kindOf n == some .cell) then (n,NameKind.cell) else (n,k)))=some k:=h
  by_cases hq:(k' == NameKind.free && env.scope.kind == .function && env.kindOf n == some .cell)=true
  ·rw [if_pos hq] at h'
   have kf:k' = .free:=by
    rw [aR,aR] at hq
    exact beq_iff_eq.mp hq.1.1
   cases hx:x == n with
   | true =>
    have e:x=n:=beq_iff_eq.mp hx
    subst e
    subst kf
    exact aN
   | false =>
    simp only [dw,hx] at h'
    exact aJ _ (ih h')
  ·rw [if_neg hq] at h'
   cases hx:x == n with
   | true =>
    have e:x=n:=beq_iff_eq.mp hx
    subst e
    simp only [dw,hx] at h'
    cases h'
    rcases hk with hk | hk
    ·exact absurd hk (hc _ aN)
    ·subst hk
     exact aN
   | false =>
    simp only [dw,hx] at h'
    exact aJ _ (ih h')
section
variable {X:Cx} {pins:List (Addr × Obj)} {σ:St} {H:Hp} {s:Shared}
theorem Inv.forget {σ':St} (I:Inv X pins σ H s) (hl:σ'.length=X.N.length) (h:∀ (i:Nat) (v:V),σ'[i]? = some (some v)→σ[i]? = some (some v)):Inv X pins σ' H s:=by
 obtain ⟨m,hn,hx⟩:=I.loc
 exact ⟨I.ok,I.os,I.bare,I.base,⟨m,hn,fun i x v e1 e2 e3=>hx i x v e1 (h i v e2) e3⟩,I.cell,I.free,I.freeC,I.pin,I.hok,hl⟩
end
end My
namespace My
open PySem PySem.Spec PyProof.Rows L2
theorem yS {prog:Program} {w:World} {A:Around} {R:Result→Shared→Prop} {elt target iter:Expr} {ifs:List Expr} {scope:Scope} {pos:Pos} {it acc:Value} {env:Env} {s:Shared} (I:Nat→Shared→Prop)
 (turn:∀ n s,I n s→wpAny (model prog w) A (pyNext it) (fun r s₁=>match r with
  | none=>R (.ok .next) s₁
  | some v=>wpAny (model prog w) A (letOwnedTupleGo target it v) (fun _ s₁'=>wpAny (model prog w) A (assign target env v) (fun _ s₂ =>
   wpAny (model prog w) A (forIn ifs true fun c r=>if r=true then do let ok ← isTrue c env (eval c env);pure (ForInStep.yield ok) else pure (ForInStep.yield r)) (fun ok s₃ =>
    if ok=true then wpAny (model prog w) A (eval elt env) (fun x s₄ =>
     wpAny (model prog w) A (call (.builtin "list.append") [acc,x]) (fun _ s₅=>∃ m,m < n∧I m s₅) (fun _ _=>False) s₄) (fun _ _=>False) s₃
    else ∃ m,m < n∧I m s₃) (fun _ _=>False) s₂) (fun _ _=>False) s₁') (fun _ _=>False) s₁) (fun _ _=>False) s)
 (n:Nat) (h:I n s) :
 codeAny (model prog w) A (.compLoop (.ListComp elt [⟨target,iter,ifs,0⟩] scope pos) 0 it acc env) R s:=by
 refine codeAny_loop rfl I (fun n s hI=>?_) n h
 show wpAny _ A ((compTurn (.ListComp elt [⟨target,iter,ifs,0⟩] scope pos) 0 it acc env).onRaise (fun x=>do noteFrame x env;theTreesLotGoes x)) _ _ s
 refine wpAny_noted ?_
 rw [compTurn_list]
 refine wpAny_bind (wpAny_standAt (wpAny_bind (wpAny_mono (turn n s hI) (fun r s₁ h₁=>?_) fun _ _ h'=>h'.elim)))
 cases r with
 | none=>exact wpAny_pure h₁
 | some v =>
  refine wpAny_bind (wpAny_mono h₁ (fun _ s₁' h₁'=>?_) fun _ _ h'=>h'.elim)
  refine wpAny_bind (wpAny_mono h₁' (fun _ s₂ h₂=>wpAny_bind (wpAny_mono h₂ (fun ok s₃ h₃=>?_) fun _ _ h'=>h'.elim)) fun _ _ h'=>h'.elim)
  cases ok with
  | false=>exact wpAny_pure ⟨rfl,h₃⟩
  | true =>
   exact wpAny_bind (wpAny_bind (wpAny_mono h₃ (fun x s₄ h₄=>wpAny_bind (wpAny_mono h₄ (fun _ s₅ h₅=>wpAny_pure (wpAny_pure ⟨rfl,h₅⟩)) fun _ _ h'=>h'.elim)) fun _ _ h'=>h'.elim))
section
variable {X:Cx} {pins:List (Addr × Obj)} {σ:St} {H:Hp}
theorem Eb {T V:List Str} {ix:List Nat} {scope:Scope} {s3:Shared} {fp:List Addr} {h₁:Heap} {tk:Nat} {m:Str→Option Value}
 (I:Inv X pins σ H s3) (hf:∀ b ∈ fp,rM X pins H b) (ho:∀ b ∈ fp,∃ o,s3.heap.get? b=some o)
 (hk:scope.kind = .function) (hcell:∀ y ∈ scope.names,y.2 ≠ .cell) (hfr:∀ x ∈ scope.names,x.2 = .free→x.1 ∈ V) (hB:uy X.N X.env.scope.names scope.names V ix=true)
 (hns:h₁.Ns s3.heap.objs.size m) (keep:∀ b o,s3.heap.get? b=some o→h₁.get? b=some o) :
 Inv (blk X (T++V) scope (n_ X.env scope.names []) s3.heap.objs.size s3 H fp) pins (vC T.length ix σ) H { s3 with heap:=h₁,toks:=tk }:=by
 obtain ⟨lV,capV⟩:=uz hB
 have hcl:∀ x ∈ scope.names,x.2 = .free→∃ c,X.env.cells.lookup x.1=some c:=fun x hx e=>by
  obtain ⟨k,ek⟩:=oW (hfr x hx e)
  obtain ⟨j,_,_,hc,_⟩:=capV k _ ek
  exact I.ok.has _ (.inl hc)
 have sub:=ux (env:=X.env) scope.names [] hcl (fun x c e=>by simp at e)
 have stkSub:∀ b,b ∈ frs X.stack→b=X.env.locals∨b ∈ X.fs:=fun b z=>bQ.mp (I.stkSub b z)
 have lt:∀ b o,s3.heap.get? b=some o→b ≠ s3.heap.objs.size:=fun b o e=>cL (Heap.lt_size e)
 have cellK:∀ c v,s3.heap.IsCell c v→h₁.IsCell c v:=fun c v ⟨o,e,d⟩=>⟨o,keep c o e,d⟩
 refine ⟨⟨I.ok.mod,hk,I.ok.glob,I.ok.blt,bG _,fun x y c e1 e2=>I.ok.inj x y c (sub x c e1) (sub y c e2),fun x hx=>?_,fun x c hx=>?_,I.ok.hd,I.ok.frames,.inl rfl,fun b hb=>⟨?_,fun x c e=>?_⟩,I.bs,dB I.ok.bsz I.sz,fun b o e hb=>?_,fun b hb z=>?_,I.stack,I.stkFree⟩,
  rfl,I.bare,Un.kept keep,⟨m,hns,fun i x v e1 e2 e3=>?_⟩,fun x c e=>?_,I.hok.fresh (bG _),fun x c e=>I.freeC x c (sub x c e),fun p hp=>?_,I.hok.kept keep,?_⟩
 ·rcases hx with hx | hx
  ·exact oY _ _ x (.inl (oh hcell (.inl rfl) hx))
  ·exact oY _ _ x (.inl (oh hcell (.inr rfl) hx))
 ·exact absurd hx (by simp)
 ·obtain ⟨o,e⟩:=ho b hb
  exact lt b o e
 ·exact (hf b hb).2.2.2.2.1 x c (sub x c e)
 ·rcases (hf b hb).2.2.2.1 with z | z
  ·exact I.ok.noex b o e z
  ·exact absurd (bN (Heap.lt_size e) (dB I.ok.bsz z)) (jJ _)
 ·rcases stkSub b z with z | z
  ·exact (hf b hb).2.1 z
  ·exact (hf b hb).2.2.1 z
 ·by_cases hi:i < T.length
  ·have e2':(aK T.length none++ix.map fun j=>(σ[j]?).getD none)[i]? = some (some v):=e2
   rw [cj (by rw [aQ];exact hi),cT,if_pos hi] at e2'
   exact absurd e2' (by simp)
  ·have e1':(T++V)[i]? = some x:=e1
   rw [cR (by omega)] at e1'
   obtain ⟨j,hj,hN,hc,hfree⟩:=capV _ x e1'
   have e2':(aK T.length none++ix.map fun j=>(σ[j]?).getD none)[i]? = some (some v):=e2
   rw [cR (by rw [aQ];omega),aQ,bf,hj] at e2'
   have e2'':(σ[j]?).getD none=some v:=by simpa using e2'
   have e3':σ[j]? = some (some v):=by
    cases q:σ[j]? with
    | none=>rw [q] at e2'';exact absurd e2'' (by simp)
    | some o=>rw [q] at e2'';simp at e2'';rw [e2'']
   obtain ⟨m0,hn0,hl⟩:=I.loc
   obtain ⟨u,r,l⟩:=hl j x v hN e3' (.inr (.inl hc))
   rcases l with ⟨z,_⟩ | ⟨_,c,ec,hcell'⟩
   ·have z':X.env.scope.names.lookup x=some .local:=z
    rw [hc] at z'
    exact absurd z' (by simp)
   ·obtain ⟨c',ec'⟩:=oY (env:=X.env) scope.names [] x (.inl (PySem.mem_of_lookup hfree))
    have:c'=c:=by
     have q:=sub x c' ec'
     rw [ec] at q
     exact (dH.inj q).symm
    subst this
    exact ⟨u,r,.inr ⟨.inl (qH I.ok.kind hfree hc),c',ec',cellK _ _ hcell'⟩⟩
 ·obtain ⟨v,z⟩:=I.cell x c (sub x c e)
  exact ⟨v,cellK c v z⟩
 ·obtain ⟨e,n,ne,nf,d⟩:=I.pin p hp
  refine ⟨keep _ _ e,n,lt _ _ e,fun z=>?_,d⟩
  rcases stkSub p.1 z with z | z
  ·exact ne z
  ·exact nf z
 ·show (aK T.length none++ix.map fun j=>(σ[j]?).getD none).length=(T++V).length
  rw [cI,aQ,aU,cI,lV]
theorem Gq {N':List Str} {scope:Scope} {cl:List (Str × Addr)} {pins':List (Addr × Obj)} {σ':St} {H3 H':Hp} {s3 s':Shared} {fp:List Addr} (I3:Inv X pins σ H3 s3) (hf:∀ b ∈ fp,rM X pins H3 b)
 (I':Inv (blk X N' scope cl s3.heap.objs.size s3 H3 fp) pins' σ' H' s'):Inv X pins σ H' s'∧rM X pins H' s3.heap.objs.size:=by
 have fr:H' s3.heap.objs.size=none:=I'.free
 refine ⟨?_,I3.fpOk (bG _) fr⟩
 have os:s'.os=s3.os:=I'.os
 have u:Un (frs X.stack) fp H3 H' s3.heap s'.heap:=I'.base
 have ho:=I'.hok
 have hb:=I'.bare
 obtain ⟨hh,g,d,t,os'⟩:=s'
 obtain rfl:os'=s3.os:=os
 exact I3.call (h':=hh) (g':=g) (d':=d) (t':=t) (ch:=fp) u ho hb fun b hb'=>⟨(hf b hb').2.2.2.1,(hf b hb').2.1,(hf b hb').2.2.2.2.1,(hf b hb').2.2.2.2.2⟩
end
noncomputable def PTs (X:Cx) (ifs:List Expr) (t:TT):Prop :=
 ∀ (pins:List (Addr × Obj)) (s:Shared) (σ:St) (H:Hp) (Q:Bool→Hp→Prop),Inv X pins σ H s→t σ H Q →
  wpAny (model X.prog X.w) X.A (forIn ifs true fun c r=>if r=true then do let ok ← isTrue c X.env (eval c X.env);pure (ForInStep.yield ok) else pure (ForInStep.yield r)) (TP X pins σ Q) X.xe s
noncomputable def gq:TT:=fun _ H Q=>Q true H
theorem Jq {X:Cx}:PTs X [] gq:=fun _ _ _ H _ I h=>wpAny_tests_nil ⟨H,I,h⟩
theorem mL {X:Cx} {c:Expr} {t:TT} (h:PT X c t):PTs X [c] t:=fun pins s σ H Q I q=>wpAny_tests_one (h pins s σ H Q I q)
noncomputable def Ci (wi:TI) (g:TG) (tt:TT) (te:TE) (t:Nat) (cap:St→St):TE:=fun σ H Q=>wi σ H fun J H1=>∀ D,H1 D=none→∃ W:Nat→Nat→List V→Hp→Prop,(∃ m,W 0 m [] (upd H1 D (.lst []))) ∧
 ∀ i m xs H2,W i m xs H2→H2 D=some (.lst xs)∧((J.stop i H2∧Q (.ref D) H2)∨(J.go i H2∧xs.length < sizeLine∧∀ x H3,J.yld i H2 x H3→g x (cap σ) H3 fun σ4 H4=>σ4.drop t=(cap σ).drop t ∧
  tt σ4 H4 fun b H5=>if b=true then te σ4 H5 fun v H6=>H6 D=some (.lst xs)∧∃ m',m' < m∧W (i + 1) m' (xs++[v]) (upd H6 D (.lst (xs++[v]))) else ∃ m',m' < m∧W (i + 1) m' xs H5))
section
variable {X:Cx} {elt tg iter:Expr} {ifs:List Expr} {scope:Scope} {pos:Pos} {T V:List Str} {ix:List Nat} {wi:TI} {g:TG} {tt:TT} {te:TE}
theorem vY (hc:X.calm=true) (hi:PI X tg iter wi)
 (hg:∀ cl C s3 H3 fp,PG (blk X (T++V) scope cl C s3 H3 fp) tg g) (ht:∀ cl C s3 H3 fp,PTs (blk X (T++V) scope cl C s3 H3 fp) ifs tt) (he:∀ cl C s3 H3 fp,PE (blk X (T++V) scope cl C s3 H3 fp) elt te)
 (hB:uy X.N X.env.scope.names scope.names V ix=true) (hk:scope.kind = .function) (hcell:∀ y ∈ scope.names,y.2 ≠ .cell) (hnames:∀ x ∈ scope.names,x.2 = .local→scope.names.lookup x.1=some .local)
 (hfr:∀ x ∈ scope.names,x.2 = .free→x.1 ∈ V) (hs:∀ x,foldedSetIterable iter X.env x=pure x) {p:Pos}
 {pins:List (Addr × Obj)} {s:Shared} {σ:St} {H:Hp} (I:Inv X pins σ H s) {use:Option (Value→Sem Unit)} {Qp:Value→Shared→Prop} {Qv:VK} (h:Ci wi g tt te T.length (vC T.length ix) σ H Qv)
 (fin:∀ (D C:Addr) (H':Hp) (s':Shared) (m:Str→Option Value),Inv X pins σ H' s'→rM X pins H' C→s'.heap.Ns C m→Qv (.ref D) H'→compPost (model X.prog X.w) X.A X.xe use Qp (.ref D) C (.ok .next) s') :
 wpAny (model X.prog X.w) X.A (comprehension (.ListComp elt [⟨tg,iter,ifs,0⟩] scope pos) scope X.env p (newList []) false (eval iter X.env) use) Qp X.xe s:=by
 obtain ⟨lV,capV⟩:=uz hB
 have hcl:∀ x ∈ scope.names,x.2 = .free→∃ c,X.env.cells.lookup x.1=some c:=fun x hx e=>by
  obtain ⟨k,ek⟩:=oW (hfr x hx e)
  obtain ⟨j,_,_,hc',_⟩:=capV k _ ek
  exact I.ok.has _ (.inl hc')
 refine wpAny_comprehension_free rfl hs (Am hcl) hk hnames ?_
 refine thn (hi pins s σ H _ I h) fun v s1 h1=>thn h1 fun itv s2 h2=>?_
 obtain ⟨it,fp,tn,J,H2,e,I2,Tn,st2,f2,R⟩:=h2
 subst e
 refine wpAny_newObj_type (hd:=by size_fits) ?_
 have hD:H2 s2.heap.objs.size=none:=I2.hok.fresh (bG _)
 have I3:Inv X pins σ (upd H2 s2.heap.objs.size (.lst [])) { s2 with heap:=s2.heap.push { cls:=.type "list", dict:=none,data:=.seq ([]:List Value).toArray } } :=
  I2.laid (t':=s2.toks) (fun b o e=>Heap.get?_push_of_some _ e) (bG _) ⟨iJ _,[],0,.nil,Heap.get?_push_size _ rfl⟩
 obtain ⟨W,⟨m0,w0⟩,turn⟩:=R s2.heap.objs.size hD
 generalize hs3:({ s2 with heap:=s2.heap.push { cls:=.type "list", dict:=none,data:=.seq ([]:List Value).toArray } }:Shared)=s3 at I3 ⊢
 have st3:tn 0 s3.heap:=by
  rw [← hs3]
  exact Tn.keep 0 s2.heap _ st2 fun b hb o e=>Heap.get?_push_of_some _ e
 have f3:∀ b ∈ fp,rM X pins (upd H2 s2.heap.objs.size (.lst [])) b:=fun b hb=>by
  obtain ⟨z0,z1⟩:=f2 b hb
  refine ⟨?_,z1⟩
  obtain ⟨o,eo,_⟩:=Tn.obj 0 _ st2 b hb
  rw [dG (cL (Heap.lt_size eo))]
  exact z0
 generalize hH3:upd H2 s2.heap.objs.size (.lst [])=H3 at I3 f3 w0
 generalize hDn:s2.heap.objs.size=D at turn
 refine wpAny_newFunctionEnv hcell (by intro y hy;simp at hy) (fun h₁ hns₁ hsb₁=>?_) hk
 have keep:∀ b o,s3.heap.get? b=some o→h₁.get? b=some o:=fun b o e=>hsb₁.extBut b o (cL (Heap.lt_size e)) (Heap.get?_push_of_some _ e)
 have I4:=Eb (T:=T) (tk:=s3.toks + ([]:List (Str × Value)).length) I3 f3 (fun b hb=>let ⟨o,eo,_⟩:=Tn.obj 0 _ st3 b hb;⟨o,eo⟩) hk hcell hfr hB hns₁ keep
 have st4:tn 0 h₁:=Tn.keep 0 _ _ st3 fun b hb o e=>keep b o e
 have loop:codeAny (model X.prog X.w) X.A (.compLoop (.ListComp elt [⟨tg,iter,ifs,0⟩] scope pos) 0 (.ref it) (.ref D) (compEnvC scope (n_ X.env scope.names []) s3.heap.objs.size X.env))
  (compPost (model X.prog X.w) X.A X.xe use Qp (.ref D) s3.heap.objs.size) { s3 with heap:=h₁,toks:=s3.toks + ([]:List (Str × Value)).length }:=by
  refine yS (fun n s'=>∃ i xs H',Inv (blk X (T++V) scope (n_ X.env scope.names []) s3.heap.objs.size s3 H3 fp) pins (vC T.length ix σ) H' s'∧tn i s'.heap∧(∀ b ∈ fp,H' b=none)∧W i n xs H') ?_ m0
   ⟨0,[],H3,I4,st4,fun b hb=>(f3 b hb).1,w0⟩
  rintro n s5 ⟨i,xs,H5,I5,st5,fr5,w5⟩
  have stat:∀ {H':Hp} {pins':List (Addr × Obj)} {σ':St} {s':Shared},Inv (blk X (T++V) scope (n_ X.env scope.names []) s3.heap.objs.size s3 H3 fp) pins σ' H' s'→(∀ b ∈ fp,H' b=none)→∀ b ∈ fp,rM (blk X (T++V) scope (n_ X.env scope.names []) s3.heap.objs.size s3 H3 fp) pins H' b:=fun I' hn b hb=>by
   obtain ⟨x1,x2⟩:=I'.ok.exf b hb
   refine ⟨hn b hb,x1,I'.ok.exfs b hb,.inl hb,x2,fun q hq=>?_⟩
   exact (f3 b hb).2.2.2.2.2 q hq
  obtain ⟨hD5,r5⟩:=turn i n xs H5 w5
  rcases r5 with ⟨stop,q⟩ | ⟨go,hz,step⟩
  ·refine thn (Tn.done (blk X (T++V) scope (n_ X.env scope.names []) s3.heap.objs.size s3 H3 fp) rfl rfl rfl hc i pins s5 _ H5 _ I5 (stat (pins':=pins) I5 fr5) st5 stop) fun r s6 ⟨hr,I6⟩=>?_
   subst hr
   obtain ⟨Ib,fC⟩:=Gq I3 f3 I6
   obtain ⟨m,hn,_⟩:=I6.loc
   exact fin D _ H5 s6 m Ib fC hn q
  ·refine thn (Tn.item (blk X (T++V) scope (n_ X.env scope.names []) s3.heap.objs.size s3 H3 fp) rfl rfl rfl hc i pins s5 _ H5 _ I5 (stat (pins':=pins) I5 fr5) st5 go) fun r s6 ⟨u,hr,h6⟩=>?_
   subst hr
   refine thn h6 fun _ s7 ⟨x,H7,I7,rx,y7,st7,fr7⟩=>?_
   have I7':=I7.pinned (stat (pins':=pins) I7 fr7) (Tn.obj _ _ st7)
   refine thn (hg _ _ _ _ _ _ s7 _ H7 x u _ I7' rx (step x H7 y7)) fun _ s8 ⟨σ8,H8,I8,k8,q8⟩=>?_
   have again:∀ {H9:Hp} {s9:Shared},Inv (blk X (T++V) scope (n_ X.env scope.names []) s3.heap.objs.size s3 H3 fp) (pins++uh fp s7.heap) σ8 H9 s9 →
    Inv (blk X (T++V) scope (n_ X.env scope.names []) s3.heap.objs.size s3 H3 fp) pins (vC T.length ix σ) H9 s9∧tn (i + 1) s9.heap∧∀ b ∈ fp,H9 b=none:=fun {H9 s9} I9=>by
    refine ⟨Inv.forget I9.unpinned I4.len fun j v e=>?_,Tn.keep _ _ _ st7 fun b hb o e=>(I9.pin (b,o) (bB _ (bB _ (n8 hb e)))).1,fun b hb=>?_⟩
    ·by_cases hj:j < T.length
     ·have e':(aK T.length none++ix.map fun j=>(σ[j]?).getD none)[j]? = some (some v):=e
      rw [cj (by rw [aQ];exact hj),cT,if_pos hj] at e'
      exact absurd e' (by simp)
     ·have ej:j=T.length + (j - T.length):=by omega
      rw [ej,← iV] at e ⊢
      rw [k8]
      exact e
    ·obtain ⟨o,e,d⟩:=Tn.obj _ _ st7 b hb
     exact (I9.pin (b,o) (bB _ (bB _ (n8 hb e)))).2.1
   refine thn (ht _ _ _ _ _ _ s8 σ8 H8 _ I8 q8) fun ok s9 ⟨H9,I9,q9⟩=>?_
   cases ok with
   | false =>
    obtain ⟨m',lm,w9⟩:=q9
    obtain ⟨a1,a2,a3⟩:=again I9
    exact ⟨m',lm,i + 1,xs,H9,a1,a2,a3,w9⟩
   | true =>
    refine thn (he _ _ _ _ _ _ s9 σ8 H9 _ I9 q9) fun y s10 ⟨v,H10,I10,ry,hD10,m',lm,w10⟩=>?_
    refine thn (vW _ s10 σ8 H10 (.ref D) [v] (.ref D) [y] (fun _ Hn=>Hn=upd H10 D (.lst (xs++[v]))) I10 rfl (.cons ry .nil) ⟨D,xs,v,rfl,rfl,hD10,hz,rfl⟩) fun _ s11 ⟨_,H11,I11,_,e11⟩=>?_
    subst e11
    obtain ⟨a1,a2,a3⟩:=again I11
    exact ⟨m',lm,i + 1,_,_,a1,a2,a3,w10⟩
 exact codeAny_compStart_list loop (Tn.self _ 0 _ _ _ st4 loop)
theorem Jr (hc:X.calm=true) (T V:List Str) (ix:List Nat) (hi:PI X tg iter wi)
 (hg:∀ cl C s3 H3 fp,PG (blk X (T++V) scope cl C s3 H3 fp) tg g) (ht:∀ cl C s3 H3 fp,PTs (blk X (T++V) scope cl C s3 H3 fp) ifs tt) (he:∀ cl C s3 H3 fp,PE (blk X (T++V) scope cl C s3 H3 fp) elt te)
 (hB:uy X.N X.env.scope.names scope.names V ix=true:=by rfl) (hk:scope.kind = .function:=by rfl) (hcell:∀ y ∈ scope.names,y.2 ≠ .cell:=by decide +kernel)
 (hnames:∀ x ∈ scope.names,x.2 = .local→scope.names.lookup x.1=some .local:=by decide +kernel)
 (hfr:∀ x ∈ scope.names,x.2 = .free→x.1 ∈ V:=by decide +kernel) (hs:∀ x,foldedSetIterable iter X.env x=pure x:=by intro _;rfl) :
 PE X (.ListComp elt [⟨tg,iter,ifs,0⟩] scope pos) (Ci wi g tt te T.length (vC T.length ix)):=by
 intro pins s σ H Q I h
 rw [eval_ListComp]
 refine vY (use:=none) hc hi hg ht he hB hk hcell hnames hfr hs I h fun D C H' s' m I' fC hn q=>⟨m,hn,fun h' sb=>⟨.ref D,H',?_,rfl,q⟩⟩
 obtain ⟨z0,z1,z2,z3,z4,z5⟩:=fC
 exact I'.turned (t':=s'.toks) (fun b o hb e=>sb.extBut b o hb e) z0 z1 z3 z4 z5
theorem Js {i:Nat} {x:Str} {pos' spos:Pos} (hN:X.N.Nodup) (hi':X.N[i]? = some x) (hx:X.env.scope.names.lookup x=some .local) (hc:X.calm=true) (T V:List Str) (ix:List Nat) (hi:PI X tg iter wi)
 (hg:∀ cl C s3 H3 fp,PG (blk X (T++V) scope cl C s3 H3 fp) tg g) (ht:∀ cl C s3 H3 fp,PTs (blk X (T++V) scope cl C s3 H3 fp) ifs tt) (he:∀ cl C s3 H3 fp,PE (blk X (T++V) scope cl C s3 H3 fp) elt te)
 (hsw:swapsWith (.ListComp elt [⟨tg,iter,ifs,0⟩] scope pos) (some (.Name x pos')) spos.line X.env=pure true:=by rfl)
 (hB:uy X.N X.env.scope.names scope.names V ix=true:=by rfl) (hk:scope.kind = .function:=by rfl) (hcell:∀ y ∈ scope.names,y.2 ≠ .cell:=by decide +kernel)
 (hnames:∀ x ∈ scope.names,x.2 = .local→scope.names.lookup x.1=some .local:=by decide +kernel)
 (hfr:∀ x ∈ scope.names,x.2 = .free→x.1 ∈ V:=by decide +kernel) (hs:∀ x,foldedSetIterable iter X.env x=pure x:=by intro _;rfl) :
 PS X (.Assign [.Name x pos'] (.ListComp elt [⟨tg,iter,ifs,0⟩] scope pos) spos) (MJ (Ci wi g tt te T.length (vC T.length ix)) (Fy i)):=by
 intro pins s σ H D I h
 rw [exec_Assign_Name_used _ _ _ _ hsw]
 refine wpAny_bind (wpAny_standAt (wpAny_bind ?_))
 show wpAny _ X.A (do let _ ← comprehension (.ListComp elt [⟨tg,iter,ifs,0⟩] scope pos) scope X.env _ (newList []) false (eval iter X.env) (some (assign (.Name x pos') X.env))) _ _ s
 refine wpAny_bind (wpAny_mono (vY (use:=some (assign (.Name x pos') X.env)) (Qp:=fun _ s'=>SP X pins D .next s') hc hi hg ht he hB hk hcell hnames hfr hs I h fun A' C H' s' m I' fC hn q=>?_) (fun _ s' hq=>wpAny_pure (wpAny_pure hq)) fun _ _ e=>e)
 obtain ⟨z0,z1,z2,z3,z4,z5⟩:=fC
 refine wpAny_assign_Name (vN I' hN hi' (.inl hx) (v:=.ref A') rfl (fun s'' I'' ⟨a,sb,ha⟩=>⟨m,hn.sameBut sb ?_,fun h' sb'=>⟨_,H',?_,q⟩⟩) (.inr hx))
 ·rcases ha with ha | ha
  ·rw [ha];exact z1
  ·exact Ne.symm (z4 x a ha)
 ·exact I''.turned (t':=s''.toks) (fun b o hb e=>sb'.extBut b o hb e) z0 z1 z3 z4 z5
end
section
variable {X:Cx} {K:PySem.W.Frag}
end
end My
namespace D3
open PySem
noncomputable abbrev D:=PyData
inductive U where
 | d (x:D)
 | x (c f:Str) (v:D)
noncomputable abbrev DS:=List (Option U)
inductive Oc where
 | nx (δ:DS)
 | rt (d:D)
 | bk (δ:DS)
 | ct (δ:DS)
 | ex (c f:Str) (v:D)
noncomputable abbrev FE:=DS→Option D
noncomputable abbrev FA:=DS→Option (List D)
noncomputable abbrev FT:=DS→Option Bool
noncomputable abbrev FS:=DS→Option Oc
noncomputable abbrev FG:=D→DS→Option DS
mutual
noncomputable def flat:D→Bool
 | .none=>true
 | .bool _=>true
 | .int _=>true
 | .str _=>true
 | .list _=>false
 | .tuple xs=>flats xs
 | .dict _=>false
noncomputable def flats:List D→Bool
 | []=>true
 | x :: r=>flat x && flats r
end
mutual
noncomputable def nl:D→Nat
 | .none=>0
 | .bool _=>0
 | .int _=>0
 | .str _=>0
 | .list xs=>nls xs + 1
 | .tuple xs=>nls xs
 | .dict _=>1
noncomputable def nls:List D→Nat
 | []=>0
 | x :: r=>nl x + nls r
end
noncomputable def fl1:D→Bool
 | .list xs=>flats xs
 | d=>flat d
noncomputable def ao (i:Nat):FE:=fun δ=>match δ[i]? with
 | some (some (.d x))=>some x
 | _=>none
noncomputable def dC (d:D):FE:=fun _=>some d
noncomputable def dOp (g:D→D→Option D) (fa fb:FE):FE:=fun δ=>(fa δ).bind fun x=>(fb δ).bind fun y=>g x y
noncomputable def dUn (g:D→Option D) (fa:FE):FE:=fun δ=>(fa δ).bind g
noncomputable def aM:FA:=fun _=>some []
noncomputable def aF (fa:FE) (fr:FA):FA:=fun δ=>(fa δ).bind fun x=>(fr δ).bind fun r=>some (x :: r)
noncomputable def dTup (fa:FA):FE:=fun δ=>(fa δ).bind fun l=>if l.length ≤ sizeLine then some (.tuple l) else none
noncomputable def dR (fa:FA):FE:=fun δ=>(fa δ).bind fun l=>if l.length ≤ sizeLine then some (.list l) else none
noncomputable def dCall (F:List D→Option D) (fa:FA):FE:=fun δ=>(fa δ).bind F
noncomputable def dW (fa:FE):FE:=fun δ=>(fa δ).bind fun d=>if flat d=true then some d else none
noncomputable def dN1 (fa:FE):FE:=fun δ=>(fa δ).bind fun d=>if decide (nl d ≤ 1)=true then some d else none
noncomputable def lJ (fa:FE):FE:=fun δ=>(fa δ).bind fun d=>if fl1 d=true then some d else none
noncomputable def lu (fa fb:FE):FE:=fun δ=>(fa δ).bind fun x=>match x with
 | .bool true=>fb δ
 | .bool false=>some (.bool false)
 | _=>none
noncomputable def dOr (fa fb:FE):FE:=fun δ=>(fa δ).bind fun x=>match x with
 | .bool true=>some (.bool true)
 | .bool false=>fb δ
 | _=>none
noncomputable def Gr (fa:FE):FE:=fun δ=>(fa δ).bind fun x=>match x with
 | .bool b=>some (.bool (!b))
 | _=>none
noncomputable def dIf (c:FT) (fa fb:FE):FE:=fun δ=>(c δ).bind fun b=>if b=true then fa δ else fb δ
noncomputable def aP (fa:FE):FT:=fun δ=>(fa δ).bind fun x=>match x with
 | .bool b=>some b
 | _=>none
noncomputable def jf (a b:FT):FT:=fun δ=>(a δ).bind fun x=>if x=true then b δ else some false
noncomputable def tOr (a b:FT):FT:=fun δ=>(a δ).bind fun x=>if x=true then some true else b δ
noncomputable def iI (a:FT):FT:=fun δ=>(a δ).map fun x=>!x
noncomputable def dF:FS:=fun δ=>some (.nx δ)
noncomputable def aY (a b:FS):FS:=fun δ=>(a δ).bind fun o=>match o with
 | .nx δ'=>b δ'
 | o=>some o
noncomputable def Nf (i:Nat) (fe:FE):FS:=fun δ=>(fe δ).bind fun d=>some (.nx (δ.set i (some (.d d))))
noncomputable def sIf (c:FT) (a b:FS):FS:=fun δ=>(c δ).bind fun t=>if t=true then a δ else b δ
noncomputable def b_ (fe:FE):FS:=fun δ=>(fe δ).bind fun d=>some (.rt d)
noncomputable def QS:FS:=fun _=>some (.rt .none)
noncomputable def sS (fe:FE):FS:=fun δ=>(fe δ).bind fun _=>some (.nx δ)
noncomputable def sBk:FS:=fun δ=>some (.bk δ)
noncomputable def sCt:FS:=fun δ=>some (.ct δ)
noncomputable def gN (i:Nat):FG:=fun d δ=>some (δ.set i (some (.d d)))
noncomputable def gA:List D→DS→Option DS:=fun l δ=>match l with
 | []=>some δ
 | _=>none
noncomputable def bT (g:FG) (r:List D→DS→Option DS):List D→DS→Option DS:=fun l δ=>match l with
 | d :: l'=>(g d δ).bind fun δ'=>r l' δ'
 | []=>none
noncomputable def Ao (fe:FE) (g:FG):FS:=fun δ=>(fe δ).bind fun d=>(g d δ).bind fun δ'=>some (.nx δ')
noncomputable def jY (g:FG) (b:FS):List D→DS→Option Oc
 | [],δ=>some (.nx δ)
 | d :: r,δ=>(g d δ).bind fun δ1=>(b δ1).bind fun o=>match o with
  | .nx δ'=>jY g b r δ'
  | .ct δ'=>jY g b r δ'
  | .bk δ'=>some (.nx δ')
  | .rt v=>some (.rt v)
  | .ex c f v=>some (.ex c f v)
noncomputable def ou (fi:FA) (g:FG) (b:FS):FS:=fun δ=>(fi δ).bind fun l=>jY g b l δ
noncomputable def fJ (c:FT) (b:FS):Nat→DS→Option Oc
 | 0,_=>none
 | n + 1,δ=>(c δ).bind fun t=>if t=true then (b δ).bind fun o=>match o with
     | .nx δ'=>fJ c b n δ'
     | .ct δ'=>fJ c b n δ'
     | .bk δ'=>some (.nx δ')
     | .rt v=>some (.rt v)
     | .ex c f v=>some (.ex c f v)
  else some (.nx δ)
theorem mO {c:FT} {b:FS}:∀ {n:Nat} {δ:DS} {o:Oc},fJ c b n δ=some o→∀ {m:Nat},n ≤ m→fJ c b m δ=some o
 | 0,_,_,h,_,_=>by simp [fJ] at h
 | n + 1,δ,o,h,0,l=>by omega
 | n + 1,δ,o,h,m + 1,l=>by
  rw [fJ] at h ⊢
  cases hc:c δ with
  | none=>rw [hc] at h;simp at h
  | some t =>
   rw [hc] at h
   simp only [aH] at h ⊢
   cases t with
   | false=>exact h
   | true =>
    simp only [if_pos] at h ⊢
    cases hb:b δ with
    | none=>rw [hb] at h;simp at h
    | some q =>
     rw [hb] at h
     simp only [aH] at h ⊢
     cases q with
     | nx δ'=>exact mO h (by omega)
     | ct δ'=>exact mO h (by omega)
     | bk δ'=>exact h
     | rt v=>exact h
     | ex c f v=>exact h
theorem Aq {c:FT} {b:FS} {n m:Nat} {δ:DS} {o o':Oc} (h:fJ c b n δ=some o) (h':fJ c b m δ=some o'):o=o':=by
 have a:=mO h (Nat.le_max_left n m)
 have a':=mO h' (Nat.le_max_right n m)
 rw [a] at a'
 exact dH.inj a'
open Classical in
noncomputable def p7 (c:FT) (b:FS):FS:=fun δ=>if h:∃ o n,fJ c b n δ=some o then some (Classical.choose h) else none
theorem vZ {c:FT} {b:FS} {n:Nat} {δ:DS} {o:Oc} (h:fJ c b n δ=some o):p7 c b δ=some o:=by
 have e:∃ o n,fJ c b n δ=some o:=⟨o,n,h⟩
 unfold p7
 rw [dif_pos e]
 obtain ⟨m,hm⟩:=Classical.choose_spec e
 rw [Aq hm h]
theorem Ar {c:FT} {b:FS} {δ:DS} {o:Oc} (h:p7 c b δ=some o):∃ n,fJ c b n δ=some o:=by
 unfold p7 at h
 by_cases e:∃ o n,fJ c b n δ=some o
 ·rw [dif_pos e] at h
  have:=Classical.choose_spec e
  rw [dH.inj h] at this
  exact this
 ·rw [dif_neg e] at h
  cases h
noncomputable def fnD (p q:Nat) (b:FS):List D→Option D:=fun ds=>if ds.length=p then match b (ds.map (fun d=>some (.d d))++aK q none) with
 | some (.rt d)=>some d
 | some (.nx _)=>some .none
 | _=>none
 else none
noncomputable def jg (t:Nat) (ix:List Nat) (δ:DS):DS:=aK t none++ix.map fun j=>(δ[j]?).getD none
noncomputable def jW (g:FG) (c:FT) (e:FE) (δ:DS):List D→Option (List D)
 | []=>some []
 | d :: r=>(g d δ).bind fun δ1=>(c δ1).bind fun b=>if b=true then (e δ1).bind fun x=>(jW g c e δ r).bind fun l=>some (x :: l) else jW g c e δ r
noncomputable def gb (fi:FA) (g:FG) (c:FT) (e:FE) (t:Nat) (ix:List Nat):FE:=fun δ=>(fi δ).bind fun l=>if l.length ≤ 100000 then (jW g c e (jg t ix δ) l).bind fun r=>some (.list r) else none
noncomputable def gq:FT:=fun _=>some true
noncomputable def gI (g:Int→Int→Option D):D→D→Option D:=fun x y=>match x,y with
 | .int i,.int j=>g i j
 | _,_=>none
noncomputable def pIx (n:Nat) (i:Int):Option Nat:=if 0 ≤ i then (if i < n then some i.toNat else none) else if -(n:Int) ≤ i then some (i + n).toNat else none
noncomputable def pAt (xs:List D) (i:Int):Option D:=(pIx xs.length i).bind fun j=>xs[j]?
noncomputable def isT (c T:String):Bool:=T == c || (T == "bool" && c == "int")
noncomputable def bh (i:Nat) (fe:FE):FS:=fun δ=>if i < δ.length then Nf i fe δ else none
noncomputable def fu:D→D→Option D:=gI fun i j=>some (.int (i + j))
noncomputable def m8:D→D→Option D:=gI fun i j=>some (.int (i - j))
noncomputable def uD (i j:Int):Bool:=decide (i.natAbs < 2 ^ 64) || decide (j.natAbs < 2 ^ 64) || (decide (i.natAbs < 2 ^ 30000) && decide (j.natAbs < 2 ^ 30000))
noncomputable def kZ:D→D→Option D:=gI fun i j=>if uD i j=true then some (.int (i * j)) else none
noncomputable def Av (_ j:Int):Bool:=decide (j ≠ 0) && decide (j.natAbs < 2 ^ 9000)
noncomputable def yU:D→D→Option D:=gI fun i j=>if Av i j=true then some (.int (i.fdiv j)) else none
noncomputable def eN:D→D→Option D:=gI fun i j=>if decide (j ≠ 0)=true then some (.int (i.fmod j)) else none
noncomputable def Ng (i j:Int):Bool:=decide (0 ≤ j) && decide (j ≤ 1000) && decide (i.natAbs < 2 ^ 64)
noncomputable def oZ:D→D→Option D:=gI fun i j=>if Ng i j=true then some (.int (i ^ j.toNat)) else none
noncomputable def gLt:D→D→Option D:=gI fun i j=>some (.bool (decide (i < j)))
noncomputable def gLe:D→D→Option D:=gI fun i j=>some (.bool (decide (i ≤ j)))
noncomputable def gGt:D→D→Option D:=gI fun i j=>some (.bool (decide (j < i)))
noncomputable def gGe:D→D→Option D:=gI fun i j=>some (.bool (decide (j ≤ i)))
noncomputable def gEq:D→D→Option D:=fun x y=>if (SeqAt.shaped x && SeqAt.shaped y)=true then some (.bool (PyData.eqv x y)) else none
noncomputable def gNe:D→D→Option D:=fun x y=>if (SeqAt.shaped x && SeqAt.shaped y)=true then some (.bool (!PyData.eqv x y)) else none
noncomputable def gNl (i:Nat):FG:=fun d δ=>if i < δ.length then gN i d δ else none
noncomputable def gTn (n:Nat) (g:List D→DS→Option DS):FG:=fun d δ=>match d with
 | .tuple l=>if l.length=n then g l δ else none
 | _=>none
noncomputable def o7 (i:Nat) (f:FE):FS:=fun δ=>(ao i δ).bind fun x=>(f δ).bind fun d=>match x with
 | .list l=>if l.length < 1000000 then some (.nx (δ.set i (some (.d (.list (l++[d])))))) else none
 | _=>none
noncomputable def oU (i:Nat) (fk f:FE):FS:=fun δ=>(f δ).bind fun d=>(ao i δ).bind fun x=>(fk δ).bind fun k=>match x,k with
 | .list l,.int j=>(pIx l.length j).bind fun n=>some (.nx (δ.set i (some (.d (.list (l.set n d))))))
 | _,_=>none
noncomputable def Aw:D→Option (List D)
 | .list l=>some l
 | .tuple l=>some l
 | _=>none
noncomputable def putAt (x:D) (n:Nat) (d:D):D:=match x with
 | .list l=>.list (l.set n d)
 | .tuple l=>.tuple (l.set n d)
 | x=>x
noncomputable def Nh (g:List D→D→Option (List D)) (i:Nat) (fk f:FE):FS:=fun δ=>(ao i δ).bind fun x=>(fk δ).bind fun k=>(f δ).bind fun d=>(Aw x).bind fun l=>match k with
 | .int j=>(pIx l.length j).bind fun n=>match l[n]? with
  | some (.list m)=>(g m d).bind fun m'=>some (.nx (δ.set i (some (.d (putAt x n (.list m'))))))
  | _=>none
 | _=>none
noncomputable def pO (i:Nat) (fk:FE):FS:=Nh (fun _ _=>some []) i fk (dC .none)
noncomputable def asList:D→Option (List D)
 | .list l=>some l
 | _=>none
noncomputable def mz (f:FE):FA:=fun δ=>(f δ).bind asList
noncomputable def fU (lo hi:Int):List D:=(aZ (hi - lo).toNat).map fun (k:Nat)=>.int (lo + (k:Int))
noncomputable def uE (i:Int):Bool:=decide (-(2 ^ 62) ≤ i) && decide (i < 2 ^ 62)
noncomputable def lG (fa:FA):FA:=fun δ=>(fa δ).bind fun l=>match l with
 | [.int j]=>if uE j=true then some (fU 0 j) else none
 | _=>none
noncomputable def Lk (fa:FA):FA:=fun δ=>(fa δ).bind fun l=>match l with
 | [.int i,.int j]=>if (uE i && uE j)=true then some (fU i j) else none
 | _=>none
noncomputable def gIx:D→D→Option D:=fun x y=>match x,y with
 | .list l,.int i=>pAt l i
 | .tuple l,.int i=>pAt l i
 | _,_=>none
noncomputable def iG (g g':D→D→Option D) (fa fb fc:FE):FE:=fun δ=>(fa δ).bind fun x=>(fb δ).bind fun y=>(g x y).bind fun z=>match z with
 | .bool true=>(fc δ).bind fun w=>g' y w
 | .bool false=>some (.bool false)
 | _=>none
noncomputable def tV (g g' g'':D→D→Option D) (fa fb fc fd:FE):FE:=fun δ=>(fa δ).bind fun x=>(fb δ).bind fun y=>(g x y).bind fun z=>match z with
 | .bool true=>(fc δ).bind fun w=>(g' y w).bind fun z'=>match z' with
  | .bool true=>(fd δ).bind fun u=>g'' w u
  | .bool false=>some (.bool false)
  | _=>none
 | .bool false=>some (.bool false)
 | _=>none
noncomputable def isNone:D→Bool
 | .none=>true
 | _=>false
noncomputable def xq:D→Option D:=fun x=>some (.bool (isNone x))
noncomputable def pP:D→Option D:=fun x=>some (.bool (!isNone x))
noncomputable def iW:List D→Option D
 | [.list l]=>some (.int l.length)
 | [.tuple l]=>some (.int l.length)
 | _=>none
noncomputable def pQ:List D→Option (List Int)
 | []=>some []
 | .int i :: r=>(pQ r).map (i :: ·)
 | _=>none
noncomputable def xr:List D→Option D
 | [.list l]=>(pQ l).map fun ns=>.int ns.sum
 | _=>none
noncomputable def Tg:List D→Option D
 | [.int i]=>some (.int (if i < 0 then -i else i))
 | _=>none
noncomputable def yV:List D→Option D
 | [.int i,.int j]=>some (.int (if j > i then j else i))
 | _=>none
noncomputable def uF:List D→Option D
 | [.int i,.int j]=>some (.int (if j < i then j else i))
 | _=>none
noncomputable def tyD:D→String
 | .none => "NoneType"
 | .bool _ => "bool"
 | .int _ => "int"
 | .str _ => "str"
 | .list _ => "list"
 | .tuple _ => "tuple"
 | .dict _ => "dict"
noncomputable def gIs (c:String):D→Option D:=fun d=>some (.bool (isT c (tyD d)))
noncomputable def Jt:D→Option D
 | .int i=>some (.int (-i))
 | _=>none
noncomputable def qJ:D→D→Option D:=fun x y=>match x,y with
 | .list l,.list m=>if l.length + m.length ≤ 1000000 then some (.list (l++m)) else none
 | _,_=>none
noncomputable def rN:D→D→Option D:=fun x y=>match x,y with
 | .list l,.int k=>if l.length * k.toNat ≤ 1000000∧-(2 ^ 63) ≤ k∧k < 2 ^ 63 then some (.list (aK k.toNat l).flatten) else none
 | _,_=>none
noncomputable def gY:D→Option D
 | .list l=>some (.list l)
 | .tuple l=>some (.list l)
 | _=>none
noncomputable abbrev FO:=DS→Option (Option Int)
noncomputable def Cj:FO:=fun _=>some none
noncomputable def yW (f:FE):FO:=fun δ=>(f δ).bind fun x=>match x with
 | .int i=>some (some i)
 | _=>none
noncomputable def pSx (n d:Nat):Option Int→Nat
 | none=>d
 | some i=>if i < 0 then (i + n).toNat else min i.toNat n
noncomputable def cutD (xs:List D) (lo hi:Option Int):List D:=(xs.drop (pSx xs.length 0 lo)).take (pSx xs.length xs.length hi - pSx xs.length 0 lo)
noncomputable def dSl (f:FE) (lo hi:FO):FE:=fun δ=>(f δ).bind fun x=>(lo δ).bind fun a=>(hi δ).bind fun b=>match x with
 | .list l=>some (.list (cutD l a b))
 | _=>none
noncomputable def QT (i j:Nat) (fa:FA):FS:=fun δ=>(fa δ).bind fun l=>match l with
 | [x,y]=>if i < δ.length∧j < δ.length then some (.nx ((δ.set i (some (.d x))).set j (some (.d y)))) else none
 | _=>none
noncomputable def mC (l:List D):List D:=l.mapIdx fun i x=>.tuple [.int (i:Int),x]
noncomputable def sU (f:FE):FA:=fun δ=>(f δ).bind fun d=>match d with
 | .list l=>some (mC l)
 | _=>none
noncomputable def nu:List D→Option (List Bool)
 | []=>some []
 | .bool b :: r=>(nu r).map (b :: ·)
 | _=>none
noncomputable def vD:List D→Option D
 | [.list l]=>(nu l).map fun bs=>.bool (bs.all id)
 | _=>none
noncomputable def o8:List D→List D→List D
 | x :: r,y :: s=>.tuple [x,y] :: o8 r s
 | _,_=>[]
noncomputable def Ju (f g:FE):FA:=fun δ=>(f δ).bind fun d=>(g δ).bind fun e=>match d,e with
 | .list l,.list m=>some (o8 l m)
 | _,_=>none
noncomputable def Ni (f:FE):FA:=fun δ=>(f δ).bind fun d=>match d with
 | .list l=>some l.reverse
 | _=>none
noncomputable def mQ:D→Option D
 | .bool b=>some (.bool (!b))
 | _=>none
end D3
namespace D3
open PySem PySem.Spec PyProof.Rows L2 My
noncomputable abbrev Ok:=Addr→Prop
noncomputable abbrev St:=L2.St
class Chg (u:HO):Prop where
 ch:(∃ xs,u = .lst xs)∨(∃ kvs,u = .dK kvs)∨∃ kvs,u = .dT kvs
instance (xs:List V):Chg (.lst xs):=⟨.inl ⟨xs,rfl⟩⟩
instance (kvs:List (Key × V)):Chg (.dK kvs):=⟨.inr (.inl ⟨kvs,rfl⟩)⟩
instance (kvs:List (List Key × V)):Chg (.dT kvs):=⟨.inr (.inr ⟨kvs,rfl⟩)⟩
theorem Chg.frz {o:Obj} {u:HO} (h:Chg (.frz o u)):False:=by
 rcases h.ch with ⟨_,z⟩ | ⟨_,z⟩ | ⟨_,z⟩ <;> cases z
theorem Chg.tup {xs:List V} (h:Chg (.tup xs)):False:=by
 rcases h.ch with ⟨_,z⟩ | ⟨_,z⟩ | ⟨_,z⟩ <;> cases z
noncomputable def Chd (o:Option HO):Prop:=∃ u,o=some u∧Chg u
theorem Chd.ne {o:Option HO} (h:Chd o):o ≠ none:=by
 obtain ⟨u,rfl,_⟩:=h
 simp
noncomputable def SqK (K:PySem.W.Frag) (H:Hp) (a:Addr) (xs:List V):Prop:=(∃ o,H a=some (.frz o (.lst xs))) ∨
 ∃ (o:Obj) (its:Array Value) (n:Nat),K.lookup a=some o∧o.cls = .type "list" ∧ o.dict=none∧o.data = .seq its n∧its.size ≤ sizeLine∧Vals xs its.toList
theorem SqK.sq {K:PySem.W.Frag} {H:Hp} {a:Addr} {xs:List V} (h:SqK K H a xs):SqL K H a xs:=by
 rcases h with ⟨o,h⟩ | h
 ·exact .inl (.inr ⟨o,h⟩)
 ·exact .inr h
noncomputable def j7 (H:Hp) (a:Addr) (xs:List V):Prop:=H a=some (.tup xs)
theorem j7.sq {K:PySem.W.Frag} {H:Hp} {a:Addr} {xs:List V} (h:j7 H a xs):SqT K H a xs:=.inl (.inl h)
theorem j7.same {H H':Hp} {a:Addr} {xs:List V} (e:Same H H') (h:j7 H a xs):j7 H' a xs:=e _ _ h
theorem j7.upd {H:Hp} {a b:Addr} {xs:List V} {u o:HO} [cu:Chg u] (h:H a=some u) (q:j7 H b xs):j7 (upd H a o) b xs:=by
 unfold j7
 rw [dG (Fq q h (by intro z;subst z;exact cu.tup))]
 exact q
noncomputable def dk0:List (D × D)→List (Key × V)
 | []=>[]
 | (.int i,.int j) :: r=>(.inl i,.int j) :: dk0 r
 | (.int i,.bool true) :: r=>(.inl i,.bl true) :: dk0 r
 | _ :: r=>(.inl 0,.non) :: dk0 r
noncomputable def tkK:List D→Option (List Key)
 | []=>some []
 | .int i :: r=>(tkK r).map (.inl i :: ·)
 | _=>none
noncomputable def tkD:List (D × D)→Option (List (List Key × V))
 | []=>some []
 | (.tuple l,.bool true) :: r=>(tkK l).bind fun k=>(tkD r).map ((k,.bl true) :: ·)
 | _=>none
noncomputable def dh0 (kvs:List (D × D)):HO:=match kvs with
 | []=>.dK []
 | q :: r=>match tkD (q :: r) with
  | some ts=>.dT ts
  | none=>.dK (dk0 (q :: r))
theorem Gu (kvs:List (D × D)):(∃ ks,dh0 kvs = .dK ks)∨∃ ks,dh0 kvs = .dT ks:=by
 cases kvs with
 | nil=>exact .inl ⟨_,rfl⟩
 | cons q r =>
  unfold dh0
  dsimp only
  split
  ·exact .inr ⟨_,rfl⟩
  ·exact .inl ⟨_,rfl⟩
instance (kvs:List (D × D)):Chg (dh0 kvs):=⟨by
 rcases Gu kvs with ⟨ks,z⟩ | ⟨ks,z⟩
 ·exact .inr (.inl ⟨ks,z⟩)
 ·exact .inr (.inr ⟨ks,z⟩)⟩
noncomputable def scV:D→V
 | .int i=>.int i
 | _=>.non
noncomputable def scs:List D→Bool
 | []=>true
 | .int _ :: r=>scs r
 | .none :: r=>scs r
 | _=>false
noncomputable def TV (H:Hp) (v:V) (d:D):Prop:=(v = .non∧d = .none)∨∃ b ds,v = .ref b∧d = .tuple ds∧j7 H b (ds.map scV)∧scs ds=true
inductive TVs (H:Hp):List (Key × V)→List (D × D)→Prop
 | nil:TVs H [] []
 | cons {i:Int} {v:V} {d:D} {r:List (Key × V)} {r':List (D × D)}:TV H v d→TVs H r r'→TVs H ((.inl i,v) :: r) ((.int i,d) :: r')
theorem TV.imp {H H':Hp} (h:∀ b xs,j7 H b xs→j7 H' b xs) {v:V} {d:D} (q:TV H v d):TV H' v d:=by
 rcases q with q | ⟨b,ds,h1,h2,h3,h4⟩
 ·exact .inl q
 ·exact .inr ⟨b,ds,h1,h2,h _ _ h3,h4⟩
theorem TVs.imp {H H':Hp} (h:∀ b xs,j7 H b xs→j7 H' b xs) {ks:List (Key × V)} {kvs:List (D × D)} (q:TVs H ks kvs):TVs H' ks kvs:=by
 induction q with
 | nil=>exact .nil
 | cons t _ ih=>exact .cons (t.imp h) ih
noncomputable def Jv:List (D × D)→Bool
 | []=>true
 | (_,.int _) :: r=>Jv r
 | (_,.bool _) :: r=>Jv r
 | _=>false
noncomputable def DH (H:Hp) (u:HO) (kvs:List (D × D)):Prop:=(Jv kvs=true∧u=dh0 kvs)∨∃ ks,u = .dK ks∧TVs H ks kvs
theorem DH.imp {H H':Hp} (h:∀ b xs,j7 H b xs→j7 H' b xs) {u:HO} {kvs:List (D × D)} (q:DH H u kvs):DH H' u kvs:=by
 rcases q with q | ⟨ks,q1,q2⟩
 ·exact .inl q
 ·exact .inr ⟨ks,q1,q2.imp h⟩
theorem DH.same {H H':Hp} {u:HO} {kvs:List (D × D)} (q:DH H u kvs) (e:Same H H'):DH H' u kvs:=q.imp fun _ _ h=>j7.same e h
theorem DH.upd {H:Hp} {a:Addr} {u o u':HO} [cu:Chg u] {kvs:List (D × D)} (q:DH H u' kvs) (h:H a=some u):DH (upd H a o) u' kvs:=q.imp fun _ _ z=>j7.upd h z
theorem DH.or {H:Hp} {u:HO} {kvs:List (D × D)} (q:DH H u kvs):(∃ ks,u = .dK ks)∨∃ ks,u = .dT ks:=by
 rcases q with ⟨_,rfl⟩ | ⟨ks,rfl,_⟩
 ·exact Gu kvs
 ·exact .inl ⟨ks,rfl⟩
theorem DH.chg {H:Hp} {u:HO} {kvs:List (D × D)} (q:DH H u kvs):Chg u:=⟨.inr q.or⟩
theorem DH.old {H:Hp} {u:HO} {kvs:List (D × D)} (q:DH H u kvs) (h:Jv kvs=true):u=dh0 kvs:=by
 rcases q with q | ⟨ks,rfl,q⟩
 ·exact q.2
 ·cases q with
  | nil=>rfl
  | cons t _ =>
   rcases t with ⟨_,rfl⟩ | ⟨_,_,_,rfl,_,_⟩ <;> cases h
mutual
inductive RA (K:PySem.W.Frag) (ok:Ok) (pl:Bool) (H:Hp):V→D→Prop
 | non:RA K ok pl H .non .none
 | bl (b:Bool):RA K ok pl H (.bl b) (.bool b)
 | int (i:Int):RA K ok pl H (.int i) (.int i)
 | str (x:Str):RA K ok pl H (.str x) (.str x)
 | lst {a:Addr} {xs:List V} {ds:List D}:H a=some (.lst xs)→ok a→RAs K ok pl H xs ds→RA K ok pl H (.ref a) (.list ds)
 | lsk {a:Addr} {xs:List V} {ds:List D}:SqK K H a xs→pl=true→RAs K ok pl H xs ds→RA K ok pl H (.ref a) (.list ds)
 | tup {a:Addr} {xs:List V} {ds:List D}:j7 H a xs→RAs K ok pl H xs ds→RA K ok pl H (.ref a) (.tuple ds)
 | dic {a:Addr} {u:HO} {kvs:List (D × D)}:H a=some u→DH H u kvs→ok a→RA K ok pl H (.ref a) (.dict kvs)
 | dik {a:Addr} {u:HO} {kvs:List (D × D)} {o:Obj}:H a=some (.frz o u)→DH H u kvs→pl=true→RA K ok pl H (.ref a) (.dict kvs)
inductive RAs (K:PySem.W.Frag) (ok:Ok) (pl:Bool) (H:Hp):List V→List D→Prop
 | nil:RAs K ok pl H [] []
 | cons {v:V} {d:D} {vs:List V} {ds:List D}:RA K ok pl H v d→RAs K ok pl H vs ds→RAs K ok pl H (v :: vs) (d :: ds)
end
section
variable {K:PySem.W.Frag} {ok ok':Ok} {pl pl':Bool} {H H':Hp}
theorem RA.ind {P:V→D→Prop} {Q:List V→List D→Prop} (c1:P .non .none) (c2:∀ b,P (.bl b) (.bool b)) (c3:∀ i,P (.int i) (.int i)) (c4:∀ x,P (.str x) (.str x))
 (c5:∀ {a:Addr} {xs:List V} {ds:List D},H a=some (.lst xs)→ok a→Q xs ds→P (.ref a) (.list ds)) (c6:∀ {a:Addr} {xs:List V} {ds:List D},SqK K H a xs→pl=true→Q xs ds→P (.ref a) (.list ds)) (c7:∀ {a:Addr} {xs:List V} {ds:List D},j7 H a xs→Q xs ds→P (.ref a) (.tuple ds))
 (c8:∀ {a:Addr} {u:HO} {kvs:List (D × D)},H a=some u→DH H u kvs→ok a→P (.ref a) (.dict kvs)) (c9:∀ {a:Addr} {u:HO} {kvs:List (D × D)} {o:Obj},H a=some (.frz o u)→DH H u kvs→pl=true→P (.ref a) (.dict kvs)) (c10:Q [] []) (c11:∀ {v:V} {d:D} {vs:List V} {ds:List D},P v d→Q vs ds→Q (v :: vs) (d :: ds)) :
 (∀ {v:V} {d:D},RA K ok pl H v d→P v d)∧∀ {v:List V} {d:List D},RAs K ok pl H v d→Q v d :=
 ⟨fun h=>RA.rec (motive_1:=fun v d _=>P v d) (motive_2:=fun v d _=>Q v d) c1 c2 c3 c4 (fun h o _ q=>c5 h o q) (fun h o _ q=>c6 h o q) (fun h _ q=>c7 h q) (fun h g o=>c8 h g o) (fun h g o=>c9 h g o) c10 (fun _ _ a q=>c11 a q) h,
  fun h=>RAs.rec (motive_1:=fun v d _=>P v d) (motive_2:=fun v d _=>Q v d) c1 c2 c3 c4 (fun h o _ q=>c5 h o q) (fun h o _ q=>c6 h o q) (fun h _ q=>c7 h q) (fun h g o=>c8 h g o) (fun h g o=>c9 h g o) c10 (fun _ _ a q=>c11 a q) h⟩
theorem RA.imp2 (ho:∀ a,ok a→ok' a) (hp:pl=true→pl'=true):(∀ {v:V} {d:D},RA K ok pl H v d→RA K ok' pl' H v d)∧∀ {v:List V} {d:List D},RAs K ok pl H v d→RAs K ok' pl' H v d :=
 RA.ind .non .bl .int .str (fun h o q=>.lst h (ho _ o) q) (fun h o q=>.lsk h (hp o) q) (fun h q=>.tup h q) (fun h g o=>.dic h g (ho _ o)) (fun h g o=>.dik h g (hp o)) .nil .cons
theorem RA.imp (ho:∀ a,ok a→ok' a) (hp:pl=true→pl'=true) {v:V} {d:D} (h:RA K ok pl H v d):RA K ok' pl' H v d:=(RA.imp2 ho hp).1 h
theorem RAs.imp (ho:∀ a,ok a→ok' a) (hp:pl=true→pl'=true) {v:List V} {d:List D} (h:RAs K ok pl H v d):RAs K ok' pl' H v d:=(RA.imp2 ho hp).2 h
theorem SqK.same {a:Addr} {xs:List V} (e:Same H H') (h:SqK K H a xs):SqK K H' a xs:=by
 rcases h with ⟨o,h⟩ | h
 ·exact .inl ⟨o,e _ _ h⟩
 ·exact .inr h
theorem RA.same2 (e:Same H H'):(∀ {v:V} {d:D},RA K ok pl H v d→RA K ok pl H' v d)∧∀ {v:List V} {d:List D},RAs K ok pl H v d→RAs K ok pl H' v d :=
 RA.ind .non .bl .int .str (fun h o q=>.lst (e _ _ h) o q) (fun h o q=>.lsk (h.same e) o q) (fun h q=>.tup (j7.same e h) q) (fun h g o=>.dic (e _ _ h) (g.same e) o) (fun h g o=>.dik (e _ _ h) (g.same e) o) .nil .cons
theorem RA.same (e:Same H H') {v:V} {d:D} (h:RA K ok pl H v d):RA K ok pl H' v d:=(RA.same2 e).1 h
theorem RAs.same (e:Same H H') {v:List V} {d:List D} (h:RAs K ok pl H v d):RAs K ok pl H' v d:=(RA.same2 e).2 h
theorem RA.flat2:(∀ {v:V} {d:D},RA K ok pl H v d→flat d=true→RA K ok' pl' H v d)∧∀ {v:List V} {d:List D},RAs K ok pl H v d→flats d=true→RAs K ok' pl' H v d :=
 RA.ind (fun _=>.non) (fun b _=>.bl b) (fun i _=>.int i) (fun x _=>.str x) (fun _ _ _ h=>by simp [D3.flat] at h) (fun _ _ _ h=>by simp [D3.flat] at h) (fun t q h=>.tup t (q (by simpa [D3.flat] using h))) (fun _ _ _ h=>by simp [D3.flat] at h) (fun _ _ _ h=>by simp [D3.flat] at h) (fun _=>.nil) fun a q h=>by
  rw [flats,aR] at h
  exact .cons (a h.1) (q h.2)
theorem RA.flat {v:V} {d:D} (hf:flat d=true) (h:RA K ok pl H v d):RA K ok' pl' H v d:=RA.flat2.1 h hf
theorem RAs.flat {v:List V} {d:List D} (hf:flats d=true) (h:RAs K ok pl H v d):RAs K ok' pl' H v d:=RA.flat2.2 h hf
theorem SqK.upd {a b:Addr} {xs:List V} {u o:HO} [cu:Chg u] (h:H a=some u) (q:SqK K H b xs):SqK K (upd H a o) b xs:=by
 rcases q with ⟨o',q⟩ | q
 ·refine .inl ⟨o',?_⟩
  rw [dG (Fq q h (by intro z;subst z;first | exact cu.frz | exact cu.tup))]
  exact q
 ·exact .inr q
theorem RA.upd2 {a:Addr} {u o:HO} [cu:Chg u] (h:H a=some u) (na:¬ ok a):(∀ {v:V} {d:D},RA K ok pl H v d→RA K ok pl (upd H a o) v d)∧∀ {v:List V} {d:List D},RAs K ok pl H v d→RAs K ok pl (upd H a o) v d :=
 RA.ind .non .bl .int .str (fun e k q=>.lst (by rw [dG (by intro z;subst z;exact na k)];exact e) k q) (fun e k q=>.lsk (e.upd h) k q) (fun e q=>.tup (j7.upd h e) q) (fun e g k=>.dic (by rw [dG (by intro z;subst z;exact na k)];exact e) (g.upd h) k) (fun e g k=>.dik (by rw [dG (Fq e h (by intro z;subst z;exact cu.frz))];exact e) (g.upd h) k) .nil .cons
theorem RA.upd {a:Addr} {u o:HO} [cu:Chg u] (h:H a=some u) (na:¬ ok a) {v:V} {d:D} (r:RA K ok pl H v d):RA K ok pl (upd H a o) v d:=(RA.upd2 h na).1 r
theorem RAs.upd {a:Addr} {u o:HO} [cu:Chg u] (h:H a=some u) (na:¬ ok a) {v:List V} {d:List D} (r:RAs K ok pl H v d):RAs K ok pl (upd H a o) v d:=(RA.upd2 h na).2 r
theorem RA.track2:(∀ {v:V} {d:D},RA K ok pl H v d→RA K (fun b=>ok b∧H b ≠ none) pl H v d)∧∀ {v:List V} {d:List D},RAs K ok pl H v d→RAs K (fun b=>ok b∧H b ≠ none) pl H v d :=
 RA.ind .non .bl .int .str (fun e k q=>.lst e ⟨k,by rw [e];simp⟩ q) (fun e k q=>.lsk e k q) (fun e q=>.tup e q) (fun e g k=>.dic e g ⟨k,by rw [e];simp⟩) (fun e g k=>.dik e g k) .nil .cons
theorem RA.track {v:V} {d:D} (h:RA K ok pl H v d):RA K (fun b=>ok b∧H b ≠ none) pl H v d:=RA.track2.1 h
theorem RAs.track {v:List V} {d:List D} (h:RAs K ok pl H v d):RAs K (fun b=>ok b∧H b ≠ none) pl H v d:=RA.track2.2 h
theorem RAs.length:∀ {v:List V} {d:List D},RAs K ok pl H v d→v.length=d.length
 | _,_,.nil=>rfl
 | _,_,.cons _ q=>by simp [RAs.length q]
theorem RAs.get:∀ {v:List V} {d:List D} {i:Nat} {x:D},RAs K ok pl H v d→d[i]? = some x→∃ y,v[i]? = some y∧RA K ok pl H y x
 | _,_,_,_,.nil,h=>by simp at h
 | _,_,0,_,.cons a _,h=>by simp at h;subst h;exact ⟨_,rfl,a⟩
 | _,_,i + 1,_,.cons _ q,h=>by
  obtain ⟨y,e,r⟩:=RAs.get (i:=i) q (by simpa using h)
  exact ⟨y,by simpa using e,r⟩
theorem RAs.append:∀ {v v':List V} {d d':List D},RAs K ok pl H v d→RAs K ok pl H v' d'→RAs K ok pl H (v++v') (d++d')
 | _,_,_,_,.nil,q=>q
 | _,_,_,_,.cons a r,q=>.cons a (RAs.append r q)
theorem RAs.set {x:V} {y:D} (r:RA K ok pl H x y):∀ {v:List V} {d:List D} (i:Nat),RAs K ok pl H v d→RAs K ok pl H (v.set i x) (d.set i y)
 | _,_,_,.nil=>.nil
 | _,_,0,.cons _ q=>.cons r q
 | _,_,i + 1,.cons a q=>.cons a (RAs.set r i q)
theorem RAs.take:∀ {v:List V} {d:List D} (n:Nat),RAs K ok pl H v d→RAs K ok pl H (v.take n) (d.take n)
 | _,_,0,_=>by simp;exact .nil
 | _,_,_ + 1,.nil=>.nil
 | _,_,n + 1,.cons a q=>.cons a (RAs.take n q)
theorem RAs.drop:∀ {v:List V} {d:List D} (n:Nat),RAs K ok pl H v d→RAs K ok pl H (v.drop n) (d.drop n)
 | _,_,0,q=>q
 | _,_,_ + 1,.nil=>.nil
 | _,_,n + 1,.cons _ q=>RAs.drop n q
theorem RAs.reverse:∀ {v:List V} {d:List D},RAs K ok pl H v d→RAs K ok pl H v.reverse d.reverse
 | _,_,.nil=>.nil
 | _,_,.cons a q=>by
  rw [jZ,jZ]
  exact (RAs.reverse q).append (.cons a .nil)
theorem RA.rd2:(∀ {v:V} {d:D},RA K ok pl H v d→d.canLay0=true→RdV K H v d)∧∀ {v:List V} {d:List D},RAs K ok pl H v d→PyData.canLayAll0 d=true→RdVs K H v d :=
 RA.ind (fun _=>.non) (fun b _=>.bl b) (fun i _=>.int i) (fun x _=>.str x) (fun e _ q h=>.lst (SqL.of e) (q (by simpa [PyData.canLay0] using h))) (fun e _ q h=>.lst e.sq (q (by simpa [PyData.canLay0] using h))) (fun e q h=>.tup e.sq (q (by simpa [PyData.canLay0] using h))) (fun _ _ _ h=>by simp [PyData.canLay0] at h) (fun _ _ _ h=>by simp [PyData.canLay0] at h) (fun _=>.nil) fun a q h=>by
  rw [PyData.canLayAll0,aR] at h
  exact .cons (a h.1) (q h.2)
theorem RA.rd {v:V} {d:D} (hf:d.canLay0=true) (h:RA K ok pl H v d):RdV K H v d:=RA.rd2.1 h hf
theorem RA.intE {v:V} {i:Int} (h:RA K ok pl H v (.int i)):v = .int i:=by cases h;rfl
theorem RA.blE {v:V} {b:Bool} (h:RA K ok pl H v (.bool b)):v = .bl b:=by cases h;rfl
theorem RA.lstE {v:V} {ds:List D} (h:RA K ok pl H v (.list ds)):∃ a xs,v = .ref a∧SqL K H a xs∧RAs K ok pl H xs ds:=by
 cases h with
 | lst e k q=>exact ⟨_,_,rfl,SqL.of e,q⟩
 | lsk e k q=>exact ⟨_,_,rfl,e.sq,q⟩
theorem RA.tupE {v:V} {ds:List D} (h:RA K ok pl H v (.tuple ds)):∃ a xs,v = .ref a∧SqT K H a xs∧RAs K ok pl H xs ds:=by
 cases h with
 | tup e q=>exact ⟨_,_,rfl,e.sq,q⟩
end
inductive Fl where
 | A
 | O
 | L
 | N
 | M
 deriving DecidableEq
noncomputable def isN:Option Fl→Bool
 | some .N=>true
 | some .M=>true
 | _=>false
mutual
inductive RT (K:PySem.W.Frag) (H:Hp):V→D→List Addr→Prop
 | non:RT K H .non .none []
 | bl (b:Bool):RT K H (.bl b) (.bool b) []
 | int (i:Int):RT K H (.int i) (.int i) []
 | str (x:Str):RT K H (.str x) (.str x) []
 | lst {a:Addr} {xs:List V} {ds:List D} {as:List Addr}:H a=some (.lst xs)→RTs K H xs ds as→RT K H (.ref a) (.list ds) (a :: as)
 | tup {a:Addr} {xs:List V} {ds:List D} {as:List Addr}:j7 H a xs→RTs K H xs ds as→RT K H (.ref a) (.tuple ds) as
 | dic {a:Addr} {u:HO} {kvs:List (D × D)}:H a=some u→DH H u kvs→RT K H (.ref a) (.dict kvs) [a]
inductive RTs (K:PySem.W.Frag) (H:Hp):List V→List D→List Addr→Prop
 | nil:RTs K H [] [] []
 | cons {v:V} {d:D} {vs:List V} {ds:List D} {as bs:List Addr}:RT K H v d as→RTs K H vs ds bs→RTs K H (v :: vs) (d :: ds) (as++bs)
end
section
variable {K:PySem.W.Frag} {H H':Hp}
theorem RT.ind {P:V→D→List Addr→Prop} {Q:List V→List D→List Addr→Prop} (c1:P .non .none []) (c2:∀ b,P (.bl b) (.bool b) []) (c3:∀ i,P (.int i) (.int i) []) (c4:∀ x,P (.str x) (.str x) [])
 (c5:∀ {a:Addr} {xs:List V} {ds:List D} {as:List Addr},H a=some (.lst xs)→Q xs ds as→P (.ref a) (.list ds) (a :: as)) (c7:∀ {a:Addr} {xs:List V} {ds:List D} {as:List Addr},j7 H a xs→Q xs ds as→P (.ref a) (.tuple ds) as)
 (c8:∀ {a:Addr} {u:HO} {kvs:List (D × D)},H a=some u→DH H u kvs→P (.ref a) (.dict kvs) [a]) (c10:Q [] [] []) (c11:∀ {v:V} {d:D} {vs:List V} {ds:List D} {as bs:List Addr},P v d as→Q vs ds bs→Q (v :: vs) (d :: ds) (as++bs)) :
 (∀ {v:V} {d:D} {as:List Addr},RT K H v d as→P v d as)∧∀ {v:List V} {d:List D} {as:List Addr},RTs K H v d as→Q v d as :=
 ⟨fun h=>RT.rec (motive_1:=fun v d as _=>P v d as) (motive_2:=fun v d as _=>Q v d as) c1 c2 c3 c4 (fun h _ q=>c5 h q) (fun h _ q=>c7 h q) (fun h g=>c8 h g) c10 (fun _ _ a q=>c11 a q) h,
  fun h=>RTs.rec (motive_1:=fun v d as _=>P v d as) (motive_2:=fun v d as _=>Q v d as) c1 c2 c3 c4 (fun h _ q=>c5 h q) (fun h _ q=>c7 h q) (fun h g=>c8 h g) c10 (fun _ _ a q=>c11 a q) h⟩
theorem RT.ra2 {ok:Ok} {pl:Bool}:(∀ {v:V} {d:D} {as:List Addr},RT K H v d as→(∀ a ∈ as,ok a)→RA K ok pl H v d)∧∀ {v:List V} {d:List D} {as:List Addr},RTs K H v d as→(∀ a ∈ as,ok a)→RAs K ok pl H v d :=
 RT.ind (fun _=>.non) (fun b _=>.bl b) (fun i _=>.int i) (fun x _=>.str x) (fun e q h=>.lst e (h _ aN) (q fun a ha=>h a (aJ _ ha))) (fun e q h=>.tup e (q h)) (fun e g h=>.dic e g (h _ aN)) (fun _=>.nil) fun e q h=>.cons (e fun a ha=>h a (dX _ ha)) (q fun a ha=>h a (bB _ ha))
theorem RT.ra {ok:Ok} {pl:Bool} {v:V} {d:D} {as:List Addr} (r:RT K H v d as) (h:∀ a ∈ as,ok a):RA K ok pl H v d:=RT.ra2.1 r h
theorem RTs.ra {ok:Ok} {pl:Bool} {v:List V} {d:List D} {as:List Addr} (r:RTs K H v d as) (h:∀ a ∈ as,ok a):RAs K ok pl H v d:=RT.ra2.2 r h
theorem RT.same2 (s:Same H H'):(∀ {v:V} {d:D} {as:List Addr},RT K H v d as→RT K H' v d as)∧∀ {v:List V} {d:List D} {as:List Addr},RTs K H v d as→RTs K H' v d as :=
 RT.ind .non .bl .int .str (fun e q=>.lst (s _ _ e) q) (fun e q=>.tup (j7.same s e) q) (fun e g=>.dic (s _ _ e) (g.same s)) .nil .cons
theorem RT.same (s:Same H H') {v:V} {d:D} {as:List Addr} (h:RT K H v d as):RT K H' v d as:=(RT.same2 s).1 h
theorem RTs.same (s:Same H H') {v:List V} {d:List D} {as:List Addr} (h:RTs K H v d as):RTs K H' v d as:=(RT.same2 s).2 h
theorem RT.upd2 {a:Addr} {u o:HO} [cu:Chg u] (h:H a=some u):(∀ {v:V} {d:D} {as:List Addr},RT K H v d as→a ∉ as→RT K (upd H a o) v d as)∧∀ {v:List V} {d:List D} {as:List Addr},RTs K H v d as→a ∉ as→RTs K (upd H a o) v d as :=
 RT.ind (fun _=>.non) (fun b _=>.bl b) (fun i _=>.int i) (fun x _=>.str x) (fun e q na=>.lst (by rw [dG (fun z=>na (by rw [← z];exact aN))];exact e) (q fun z=>na (aJ _ z))) (fun e q na=>.tup (j7.upd h e) (q na)) (fun e g na=>.dic (by rw [dG (fun z=>na (by rw [← z];exact aN))];exact e) (g.upd h)) (fun _=>.nil) fun e q na=>.cons (e fun z=>na (dX _ z)) (q fun z=>na (bB _ z))
theorem RT.upd {a:Addr} {u o:HO} [cu:Chg u] (h:H a=some u) {v:V} {d:D} {as:List Addr} (na:a ∉ as) (r:RT K H v d as):RT K (upd H a o) v d as:=(RT.upd2 h).1 r na
theorem RTs.upd {a:Addr} {u o:HO} [cu:Chg u] (h:H a=some u) {v:List V} {d:List D} {as:List Addr} (na:a ∉ as) (r:RTs K H v d as):RTs K (upd H a o) v d as:=(RT.upd2 h).2 r na
theorem RT.chd2:(∀ {v:V} {d:D} {as:List Addr},RT K H v d as→∀ a ∈ as,Chd (H a))∧∀ {v:List V} {d:List D} {as:List Addr},RTs K H v d as→∀ a ∈ as,Chd (H a) :=
 RT.ind (fun _ h=>by cases h) (fun _ _ h=>by cases h) (fun _ _ h=>by cases h) (fun _ _ h=>by cases h) (fun e q a h=>by
  rcases bQ.mp h with rfl | z
  ·exact ⟨_,e,inferInstance⟩
  ·exact q a z) (fun _ q=>q) (fun e g a h=>by rw [bW.mp h];exact ⟨_,e,g.chg⟩) (fun _ h=>by cases h) fun e q a h=>by
  rcases cV.mp h with z | z
  ·exact e a z
  ·exact q a z
theorem RT.chd {v:V} {d:D} {as:List Addr} (r:RT K H v d as):∀ a ∈ as,Chd (H a):=RT.chd2.1 r
theorem RTs.chd {v:List V} {d:List D} {as:List Addr} (r:RTs K H v d as):∀ a ∈ as,Chd (H a):=RT.chd2.2 r
theorem RT.tracked {v:V} {d:D} {as:List Addr} (h:RT K H v d as) (a:Addr) (ha:a ∈ as):H a ≠ none:=(h.chd a ha).ne
theorem RTs.tracked {v:List V} {d:List D} {as:List Addr} (h:RTs K H v d as) (a:Addr) (ha:a ∈ as):H a ≠ none:=(h.chd a ha).ne
theorem RA.rt2 {ok:Ok}:(∀ {v:V} {d:D},RA K ok false H v d→∃ as,RT K H v d as∧as.length=nl d∧∀ a ∈ as,ok a)∧∀ {v:List V} {d:List D},RAs K ok false H v d→∃ as,RTs K H v d as∧as.length=nls d∧∀ a ∈ as,ok a :=
 RA.ind ⟨[],.non,rfl,fun _ h=>by cases h⟩ (fun b=>⟨[],.bl b,rfl,fun _ h=>by cases h⟩) (fun i=>⟨[],.int i,rfl,fun _ h=>by cases h⟩) (fun x=>⟨[],.str x,rfl,fun _ h=>by cases h⟩) (fun e k q=>by
  obtain ⟨as,h1,h2,h3⟩:=q
  refine ⟨_ :: as,.lst e h1,by rw [dY,h2,nl],fun a ha=>?_⟩
  rcases bQ.mp ha with rfl | z
  ·exact k
  ·exact h3 a z) (fun _ k _=>by cases k) (fun e q=>by
  obtain ⟨as,h1,h2,h3⟩:=q
  exact ⟨as,.tup e h1,by rw [h2,nl],h3⟩) (fun e g k=>⟨[_],.dic e g,by simp [nl],fun a ha=>by rw [bW.mp ha];exact k⟩) (fun _ _ k=>by cases k) ⟨[],.nil,rfl,fun _ h=>by cases h⟩ fun e q=>by
  obtain ⟨as,h1,h2,h3⟩:=e
  obtain ⟨bs,g1,g2,g3⟩:=q
  refine ⟨as++bs,.cons h1 g1,by rw [cI,h2,g2,nls],fun a ha=>?_⟩
  rcases cV.mp ha with z | z
  ·exact h3 a z
  ·exact g3 a z
theorem RA.rt {ok:Ok} {v:V} {d:D} (h:RA K ok false H v d):∃ as,RT K H v d as∧as.length=nl d∧∀ a ∈ as,ok a:=RA.rt2.1 h
theorem RAs.rts {ok:Ok} {v:List V} {d:List D} (h:RAs K ok false H v d):∃ as,RTs K H v d as∧as.length=nls d∧∀ a ∈ as,ok a:=RA.rt2.2 h
end
noncomputable def tabs:List (Addr × Str × Pos):=[]
noncomputable def Tb (H:Hp):Prop:=∀ t ∈ tabs,H t.1=some (.tbl t.2.1 t.2.2)
theorem Tb.same {H H':Hp} (t:Tb H) (s:Same H H'):Tb H':=fun x hx=>s _ _ (t x hx)
structure Gh where
 H0:Hp
 HF:Hp
 pk:Nat→Option Addr
 pn:Nat→List Addr
 tb:Tb H0
structure Ow where
 s:Nat→Option Addr
 n:Nat→List Addr:=fun _=>[]
instance:CoeFun Ow (fun _=>Nat→Option Addr):=⟨Ow.s⟩
noncomputable abbrev ow0:Ow:=⟨fun _=>none,fun _=>[]⟩
noncomputable def okA (ow:Ow):Ok:=fun a=>(∀ i,ow i ≠ some a)∧∀ i,a ∉ ow.n i
structure Rel (K:PySem.W.Frag) (fl:List Fl) (G:Gh) (ow:Ow) (σ:St) (H:Hp) (δ:DS):Prop where
 s0:Same G.H0 G.HF
 s1:Same G.HF H
 len:σ.length=δ.length
 own:∀ i a,ow i=some a→G.H0 a=none∧((fl[i]? = some .O∧G.HF a=none)∨(fl[i]? = some .L∧∃ xs,G.HF a=some (.lst xs))) ∧
  ∃ xs ds,σ[i]? = some (some (.ref a))∧H a=some (.lst xs)∧RAs K (okA ow) true H xs ds∧δ[i]? = some (some (.d (.list ds)))
 inj:∀ i j a,ow i=some a→ow j=some a→i=j
 pin:∀ i,fl[i]? = some .L→ow i=G.pk i
 dat:∀ i d,δ[i]? = some (some (.d d))→isN fl[i]? = false→ow i=none→∃ v,σ[i]? = some (some v)∧RA K (okA ow) true H v d
 oo:∀ i d,δ[i]? = some (some (.d d))→isN fl[i]? = false→fl[i]? ≠ some .A→ow i=none→flat d=true
 nt:∀ i a,a ∈ ow.n i→G.H0 a=none∧Chd (H a)∧((fl[i]? = some .N∧G.HF a=none)∨fl[i]? = some .M)
 nd:∀ i j a,a ∈ ow.n i→a ∈ ow.n j→i=j
 ns:∀ i j a,a ∈ ow.n i→ow j ≠ some a
 np:∀ i,fl[i]? = some .M→ow.n i=G.pn i
 nr:∀ i d,isN fl[i]? = true→δ[i]? = some (some (.d d))→∃ v,σ[i]? = some (some v)∧RT K H v d (ow.n i)∧(ow.n i).Nodup
theorem Rel.tb {K:PySem.W.Frag} {fl:List Fl} {G:Gh} {ow:Ow} {σ:St} {H:Hp} {δ:DS} (R:Rel K fl G ow σ H δ):Tb H:=G.tb.same (R.s0.trans R.s1)
theorem Rel.same0 {K:PySem.W.Frag} {fl:List Fl} {G:Gh} {ow:Ow} {σ:St} {H:Hp} {δ:DS} (R:Rel K fl G ow σ H δ):Same G.H0 H:=R.s0.trans R.s1
theorem Rel.grow {K:PySem.W.Frag} {fl:List Fl} {G:Gh} {ow:Ow} {σ:St} {H H':Hp} {δ:DS} (R:Rel K fl G ow σ H δ) (e:Same H H'):Rel K fl G ow σ H' δ :=
 ⟨R.s0,R.s1.trans e,R.len,fun i a h=>by
  obtain ⟨h0,hf,xs,ds,h1,h2,h3,h4⟩:=R.own i a h
  exact ⟨h0,hf,xs,ds,h1,e _ _ h2,h3.same e,h4⟩,R.inj,R.pin,fun i d h1 hn h2=>by
  obtain ⟨v,h3,h4⟩:=R.dat i d h1 hn h2
  exact ⟨v,h3,h4.same e⟩,R.oo,fun i a h=>by
  obtain ⟨h1,h2,h3⟩:=R.nt i a h
  exact ⟨h1,(let ⟨u,z,c⟩:=h2;⟨u,e _ _ z,c⟩),h3⟩,R.nd,R.ns,R.np,fun i d h1 h2=>by
  obtain ⟨v,h3,h4,h5⟩:=R.nr i d h1 h2
  exact ⟨v,h3,h4.same e,h5⟩⟩
inductive Kd where
 | P
 | B (L:List Nat)
 | A
 | R
 | F
 | C
 | FC
 | T
noncomputable def ok1:Ok:=fun _=>True
noncomputable def ok0:Ok:=fun _=>False
noncomputable def okN (H:Hp):Ok:=fun a=>H a=none
noncomputable def Rs (K:PySem.W.Frag) (H0:Hp) (ow:Ow) (Hb H:Hp):Kd→V→D→Prop
 | .P,v,d=>RA K ok1 true H v d
 | .B L,v,d=>RA K (okA ow) true H v d∨∃ i ∈ L,∃ a xs ds,ow i=some a∧v = .ref a∧d = .list ds∧H a=some (.lst xs)∧RAs K (okA ow) true H xs ds
 | .A,v,d=>RA K (okA ow) true H v d
 | .R,v,d=>RA K (okN H0) false H v d
 | .F,v,d=>(flat d=true∧RA K ok0 false H v d)∨∃ a xs ds,v = .ref a∧d = .list ds∧Hb a=none∧H a=some (.lst xs)∧RAs K (fun b=>okA ow b∧b ≠ a) true H xs ds
 | .C,v,d=>RA K (okN Hb) false H v d
 | .T,v,d=>∃ as,RT K H v d as∧as.Nodup∧∀ a ∈ as,Hb a=none
 | .FC,v,d=>(flat d=true∧RA K ok0 false H v d)∨∃ a xs ds,v = .ref a∧d = .list ds∧Hb a=none∧H a=some (.lst xs)∧RAs K (fun b=>okN Hb b∧b ≠ a) false H xs ds
section
variable {K:PySem.W.Frag} {Hb H H':Hp} {fl:List Fl} {G:Gh} {ow:Ow} {σ:St} {δ:DS} {v:V} {d:D}
theorem xu (R:Rel K fl G ow σ Hb δ) {a:Addr} (h:Hb a=none):okA ow a:=⟨fun i e=>(by
 obtain ⟨_,_,xs,_,_,h2,_⟩:=R.own i a e
 rw [h] at h2
 cases h2),fun i e=>(R.nt i a e).2.1.ne h⟩
theorem QV (R:Rel K fl G ow σ Hb δ) {a:Addr} (h:Hb a=none):okN G.H0 a:=R.same0.free h
theorem Rs.FC_F (R:Rel K fl G ow σ Hb δ) (h:Rs K G.H0 ow Hb H .FC v d):Rs K G.H0 ow Hb H .F v d:=by
 rcases h with h | ⟨a,xs,ds,h1,h2,h3,h4,h5⟩
 ·exact .inl h
 ·exact .inr ⟨a,xs,ds,h1,h2,h3,h4,h5.imp (fun b z=>⟨xu R z.1,z.2⟩) (fun _=>rfl)⟩
theorem Rs.FC_C (h:Rs K G.H0 ow Hb H .FC v d):Rs K G.H0 ow Hb H .C v d:=by
 rcases h with h | ⟨a,xs,ds,rfl,rfl,h3,h4,h5⟩
 ·exact RA.flat h.1 h.2
 ·exact .lst h4 h3 (h5.imp (fun b z=>z.1) (fun z=>z))
theorem Rs.F_A (R:Rel K fl G ow σ Hb δ) (h:Rs K G.H0 ow Hb H .F v d):Rs K G.H0 ow Hb H .A v d:=by
 rcases h with h | ⟨a,xs,ds,rfl,rfl,h3,h4,h5⟩
 ·exact RA.flat h.1 h.2
 ·exact .lst h4 (xu R h3) (h5.imp (fun b z=>z.1) (fun z=>z))
theorem Rs.C_A (R:Rel K fl G ow σ Hb δ) (h:Rs K G.H0 ow Hb H .C v d):Rs K G.H0 ow Hb H .A v d:=RA.imp (fun _ z=>xu R z) (fun _=>rfl) h
theorem Rs.C_R (R:Rel K fl G ow σ Hb δ) (h:Rs K G.H0 ow Hb H .C v d):Rs K G.H0 ow Hb H .R v d:=RA.imp (fun _ z=>QV R z) (fun z=>z) h
theorem Rs.A_B (L:List Nat) (h:Rs K G.H0 ow Hb H .A v d):Rs K G.H0 ow Hb H (.B L) v d:=.inl h
theorem Rs.B_P {L:List Nat} (h:Rs K G.H0 ow Hb H (.B L) v d):Rs K G.H0 ow Hb H .P v d:=by
 rcases h with h | ⟨i,_,a,xs,ds,_,rfl,rfl,h4,h5⟩
 ·exact RA.imp (fun _ _=>trivial) (fun z=>z) h
 ·exact .lst h4 trivial (h5.imp (fun _ _=>trivial) (fun z=>z))
theorem Rs.P_flat (hf:flat d=true) (h:Rs K G.H0 ow Hb H .P v d):Rs K G.H0 ow Hb H .FC v d:=.inl ⟨hf,RA.flat hf h⟩
theorem Rs.F_fl1 (hf:fl1 d=true) (h:Rs K G.H0 ow Hb H .F v d):Rs K G.H0 ow Hb H .FC v d:=by
 rcases h with h | ⟨a,xs,ds,h1,h2,h3,h4,h5⟩
 ·exact .inl h
 ·subst h2
  exact .inr ⟨a,xs,ds,h1,rfl,h3,h4,RAs.flat hf h5⟩
end
noncomputable def tD (K:PySem.W.Frag) (fl:List Fl) (k:Kd) (f:FE):TE:=fun σ H Q=>∃ G ow δ d,Rel K fl G ow σ H δ∧f δ=some d∧∀ v H',Same H H'→Rs K G.H0 ow H H' k v d→Q v H'
noncomputable abbrev DE (X:Cx) (fl:List Fl) (k:Kd) (e:Expr) (f:FE):Prop:=PE X e (tD X.K fl k f)
noncomputable def tDA (K:PySem.W.Frag) (fl:List Fl) (f:FA):TA:=fun σ H Q=>∃ G ow δ ds,Rel K fl G ow σ H δ∧f δ=some ds∧∀ vs H',Same H H'→RAs K ok1 true H' vs ds→Q vs H'
noncomputable abbrev DA (X:Cx) (fl:List Fl) (es:List Expr) (f:FA):Prop:=PA X es (tDA X.K fl f)
noncomputable def tDT (K:PySem.W.Frag) (fl:List Fl) (f:FT):TT:=fun σ H Q=>∃ G ow δ b,Rel K fl G ow σ H δ∧f δ=some b∧∀ H',Same H H'→Q b H'
noncomputable abbrev DT (X:Cx) (fl:List Fl) (e:Expr) (f:FT):Prop:=PT X e (tDT X.K fl f)
noncomputable abbrev DW (X:Cx) (fl:List Fl) (e:Expr) (f:FT):Prop:=PW X e (tDT X.K fl f)
noncomputable def xG (K:PySem.W.Frag) (fl:List Fl) (G:Gh) (Dn:Ends):Oc→Prop
 | .nx δ'=>∀ ow' σ' H',Rel K fl G ow' σ' H' δ'→Dn.nx σ' H'
 | .rt d=>∀ v H',Same G.H0 H'→RA K (okN G.H0) false H' v d→Dn.rt v H'
 | .bk δ'=>∀ ow' σ' H',Rel K fl G ow' σ' H' δ'→Dn.bk σ' H'
 | .ct δ'=>∀ ow' σ' H',Rel K fl G ow' σ' H' δ'→Dn.ct σ' H'
 | .ex _ _ d=>∀ v H',Same G.H0 H'→RA K ok1 true H' v d→Dn.rt v H'
noncomputable def tDS (K:PySem.W.Frag) (fl:List Fl) (f:FS):TS:=fun Dn σ H=>∃ G ow δ o,Rel K fl G ow σ H δ∧f δ=some o∧xG K fl G Dn o
noncomputable abbrev DS1 (X:Cx) (fl:List Fl) (s:Stmt) (f:FS):Prop:=PS X s (tDS X.K fl f)
noncomputable abbrev DSs (X:Cx) (fl:List Fl) (s:List Stmt) (f:FS):Prop:=PSs X s (tDS X.K fl f)
noncomputable def tDG (K:PySem.W.Frag) (fl:List Fl) (tg:List Nat) (g:FG):TG:=fun v σ H Q=>∃ G ow δ d δ',Rel K fl G ow σ H δ∧RA K (okA ow) true H v d∧g d δ=some δ'∧∀ σ',Rel K fl G ow σ' H δ'→(∀ j,j ∉ tg→σ'[j]? = σ[j]?)→Q σ' H
noncomputable abbrev DG (X:Cx) (fl:List Fl) (tg:List Nat) (e:Expr) (g:FG):Prop:=PG X e (tDG X.K fl tg g)
section
variable {X:Cx} {e:Expr} {es:List Expr} {st:Stmt} {sts:List Stmt}
theorem PE.imp {t t':TE} (h:PE X e t) (i:∀ σ H Q,t' σ H Q→t σ H Q):PE X e t':=fun pins s σ H Q I q=>h pins s σ H Q I (i σ H Q q)
theorem PT.imp {t t':TT} (h:PT X e t) (i:∀ σ H Q,t' σ H Q→t σ H Q):PT X e t':=fun pins s σ H Q I q=>h pins s σ H Q I (i σ H Q q)
theorem PW.imp {t t':TT} (h:PW X e t) (i:∀ σ H Q,t' σ H Q→t σ H Q):PW X e t':=fun w pins s σ H Q I q=>h w pins s σ H Q I (i σ H Q q)
theorem PA.imp {t t':TA} (h:PA X es t) (i:∀ σ H Q,t' σ H Q→t σ H Q):PA X es t':=fun p pins s σ H Q I q=>h p pins s σ H Q I (i σ H Q q)
theorem PS.imp {t t':TS} (h:PS X st t) (i:∀ D σ H,t' D σ H→t D σ H):PS X st t':=fun pins s σ H D I q=>h pins s σ H D I (i D σ H q)
theorem PSs.imp {t t':TS} (h:PSs X sts t) (i:∀ D σ H,t' D σ H→t D σ H):PSs X sts t':=fun pins s σ H D I q=>h pins s σ H D I (i D σ H q)
theorem PG.imp {t t':TG} (h:PG X e t) (i:∀ v σ H Q,t' v σ H Q→t v σ H Q):PG X e t':=fun pins s σ H v u Q I r q=>h pins s σ H v u Q I r (i v σ H Q q)
end
end D3
namespace D3
open PySem PySem.Spec PyProof.Rows L2 My
section
variable {X:Cx} {fl:List Fl} {e a b c:Expr} {es:List Expr} {k:Kd} {f fa fb fc:FE} {pos:Pos}
theorem mR {i:Nat} {δ:DS} {d:D} (h:ao i δ=some d):δ[i]? = some (some (.d d)):=by
 unfold ao at h
 split at h
 ·next x e=>rw [e];cases h;rfl
 ·cases h
theorem j8 (i:Nat) {x:Str} (hN:X.N[i]? = some x:=by rfl) (hv:Vis X.env.scope x:=by first | exact Or.inl rfl | exact Or.inr (Or.inl rfl) | exact Or.inr (Or.inr rfl)) (hd:(x == ("__debug__" : Str))=false:=by decide)
 (hcd:(x == ("__classdict__" : Str))=false:=by decide) (hn:isN fl[i]? = false:=by rfl):DE X fl (.B [i]) (.Name x pos) (ao i):=by
 refine PE.imp (lC hN hv hd hcd) fun σ H Q h=>?_
 obtain ⟨G,ow,δ,d,R,hf,q⟩:=h
 have e:=mR hf
 cases ho:ow i with
 | none =>
  obtain ⟨v,h1,h2⟩:=R.dat i d e hn ho
  exact ⟨v,h1,q v H (Same.refl H) (.inl h2)⟩
 | some a =>
  obtain ⟨h0,_,xs,ds,h1,h2,h3,h4⟩:=R.own i a ho
  rw [e] at h4
  cases h4
  exact ⟨_,h1,q _ H (Same.refl H) (.inr ⟨i,bW.mpr rfl,a,xs,ds,ho,rfl,rfl,h2,h3⟩)⟩
theorem xH (i:Nat) (hfl:fl[i]? = some .A) {x:Str} (hN:X.N[i]? = some x:=by rfl) (hv:Vis X.env.scope x:=by first | exact Or.inl rfl | exact Or.inr (Or.inl rfl) | exact Or.inr (Or.inr rfl)) (hd:(x == ("__debug__" : Str))=false:=by decide)
 (hcd:(x == ("__classdict__" : Str))=false:=by decide):DE X fl .A (.Name x pos) (ao i):=by
 refine PE.imp (lC hN hv hd hcd) fun σ H Q h=>?_
 obtain ⟨G,ow,δ,d,R,hf,q⟩:=h
 have e:=mR hf
 cases ho:ow i with
 | none =>
  obtain ⟨v,h1,h2⟩:=R.dat i d e (by rw [hfl];rfl) ho
  exact ⟨v,h1,q v H (Same.refl H) h2⟩
 | some a =>
  obtain ⟨h0,hz,_⟩:=R.own i a ho
  rw [hfl] at hz
  rcases hz with ⟨z,_⟩ | ⟨z,_⟩ <;> cases z
theorem tW (i:Nat) (hfl:fl[i]? ≠ some .A) {x:Str} (hN:X.N[i]? = some x:=by rfl) (hv:Vis X.env.scope x:=by first | exact Or.inl rfl | exact Or.inr (Or.inl rfl) | exact Or.inr (Or.inr rfl)) (hd:(x == ("__debug__" : Str))=false:=by decide)
 (hcd:(x == ("__classdict__" : Str))=false:=by decide) (hn:isN fl[i]? = false:=by rfl):DE X fl .R (.Name x pos) (lJ (ao i)):=by
 refine PE.imp (lC hN hv hd hcd) fun σ H Q h=>?_
 obtain ⟨G,ow,δ,d,R,hf,q⟩:=h
 unfold lJ at hf
 cases hv':ao i δ with
 | none=>rw [hv'] at hf;cases hf
 | some d' =>
  rw [hv',aH] at hf
  by_cases hc:fl1 d'=true
  ·rw [if_pos hc] at hf
   cases hf
   have e:=mR hv'
   cases ho:ow i with
   | none =>
    obtain ⟨v,h1,h2⟩:=R.dat i d e hn ho
    exact ⟨v,h1,q v H (Same.refl H) (RA.flat (R.oo i d e hn hfl ho) h2)⟩
   | some a =>
    obtain ⟨h0,_,xs,ds,h1,h2,h3,h4⟩:=R.own i a ho
    rw [e] at h4
    cases h4
    exact ⟨_,h1,q _ H (Same.refl H) (.lst h2 h0 (RAs.flat hc h3))⟩
  ·rw [if_neg hc] at hf
   cases hf
theorem mU {k k':Kd} (h:DE X fl k e f) (hc:∀ (Hb H:Hp) (G:Gh) (ow:Ow) (σ:St) (δ:DS) (v:V) (d:D),Rel X.K fl G ow σ Hb δ→Rs X.K G.H0 ow Hb H k v d→Rs X.K G.H0 ow Hb H k' v d):DE X fl k' e f:=by
 refine PE.imp h fun σ H Q h=>?_
 obtain ⟨G,ow,δ,d,R,hf,q⟩:=h
 exact ⟨G,ow,δ,d,R,hf,fun v H' s r=>q v H' s (hc _ _ G ow σ δ v d R r)⟩
theorem uG {k k':Kd} {p:D→Bool} (h:DE X fl k e f) (hc:∀ (Hb H:Hp) (G:Gh) (ow:Ow) (σ:St) (δ:DS) (v:V) (d:D),p d=true→Rel X.K fl G ow σ Hb δ→Rs X.K G.H0 ow Hb H k v d→Rs X.K G.H0 ow Hb H k' v d) :
 DE X fl k' e (fun δ=>(f δ).bind fun d=>if p d=true then some d else none):=by
 refine PE.imp h fun σ H Q h=>?_
 obtain ⟨G,ow,δ,d,R,hf,q⟩:=h
 dsimp only at hf
 cases hv:f δ with
 | none=>rw [hv] at hf;cases hf
 | some d' =>
  rw [hv,aH] at hf
  by_cases hp:p d'=true
  ·rw [if_pos hp] at hf
   cases hf
   exact ⟨G,ow,δ,d,R,hv,fun v H' s r=>q v H' s (hc _ _ G ow σ δ v d hp R r)⟩
  ·rw [if_neg hp] at hf
   cases hf
theorem nA (h:DE X fl .FC e f):DE X fl .F e f:=mU h fun _ _ _ _ _ _ _ _ R r=>r.FC_F R
theorem cW (h:DE X fl .FC e f):DE X fl .C e f:=mU h fun _ _ _ _ _ _ _ _ R r=>r.FC_C
theorem pR (h:DE X fl .F e f):DE X fl .A e f:=mU h fun _ _ _ _ _ _ _ _ R r=>r.F_A R
theorem o9 (h:DE X fl .C e f):DE X fl .A e f:=mU h fun _ _ _ _ _ _ _ _ R r=>r.C_A R
theorem sV (h:DE X fl .C e f):DE X fl .R e f:=mU h fun _ _ _ _ _ _ _ _ R r=>r.C_R R
theorem jE (h:DE X fl .A e f):DE X fl (.B []) e f:=mU h fun _ _ _ _ _ _ _ _ R r=>Rs.A_B [] r
theorem oM {L:List Nat} (h:DE X fl (.B L) e f):DE X fl .P e f:=mU h fun _ _ _ _ _ _ _ _ R r=>r.B_P
theorem fY (h:DE X fl .P e f):DE X fl .FC e (dW f):=uG h fun _ _ _ _ _ _ _ _ hf R r=>r.P_flat hf
theorem uH (h:DE X fl .F e f):DE X fl .FC e (lJ f):=uG h fun _ _ _ _ _ _ _ _ hf R r=>r.F_fl1 hf
theorem dN (h:DE X fl .FC e f):DE X fl .A e f:=pR (nA h)
theorem bU (h:DE X fl .FC e f):DE X fl .R e f:=sV (cW h)
theorem bL (h:DE X fl .A e f):DE X fl .P e f:=oM (jE h)
theorem eO (h:DE X fl .C e f):DE X fl .P e f:=bL (o9 h)
theorem aW (h:DE X fl .FC e f):DE X fl .P e f:=bL (dN h)
theorem yX (h:DE X fl .F e f):DE X fl .P e f:=bL (pR h)
theorem xJ {v:V} {d:D} (h:PE X e (tC v)) (hf:flat d=true) (hr:∀ H,RA X.K ok0 false H v d):DE X fl .FC e (dC d):=by
 refine PE.imp h fun σ H Q h=>?_
 obtain ⟨G,ow,δ,d',R,hd,q⟩:=h
 cases hd
 exact q v H (Same.refl H) (.inl ⟨hf,hr H⟩)
theorem mD {i j pos}:DE X fl .FC (.Constant (.int i) j pos) (dC (.int i)):=xJ Mj rfl fun _=>.int _
theorem jF {b j pos}:DE X fl .FC (.Constant (.bool b) j pos) (dC (.bool b)):=xJ Qj rfl fun _=>.bl _
theorem xK {j pos}:DE X fl .FC (.Constant .none j pos) (dC .none):=xJ Ml rfl fun _=>.non
theorem Jw {x:Str} {i:Int} {pos:Pos} (h:∃ t,X.mg x=some (.int i t)) (hg:Gl X x:=by rfl) (hd:(x == ("__debug__" : Str))=false:=by decide):DE X fl .FC (.Name x pos) (dC (.int i)):=by
 obtain ⟨t,h⟩:=h
 exact xJ (IW (v:=.int i) hg h ⟨t,rfl⟩ hd) rfl fun _=>.int _
noncomputable def BrO (K:PySem.W.Frag) (r:R2) (g:D→D→Option D):Prop:=∀ (H:Hp) (x y:V) (dx dy d:D) (Q:VK),RA K ok1 true H x dx→RA K ok1 true H y dy→g dx dy=some d→(∀ v,flat d=true→RA K ok0 false H v d→Q v H)→r x y H Q
theorem yZ {fa fb:FE} {g:D→D→Option D} {δ:DS} {d:D} (h:dOp g fa fb δ=some d):∃ x y,fa δ=some x∧fb δ=some y∧g x y=some d:=by
 unfold dOp at h
 cases ha:fa δ with
 | none=>rw [ha] at h;cases h
 | some x =>
  rw [ha,aH] at h
  cases hb:fb δ with
  | none=>rw [hb] at h;cases h
  | some y =>
   rw [hb,aH] at h
   exact ⟨x,y,rfl,rfl,h⟩
theorem bind1 {α β:Type} {x:Option α} {g:α→Option β} {d:β} (h:x.bind g=some d):∃ y,x=some y∧g y=some d:=by
 cases x with
 | none=>cases h
 | some y=>exact ⟨y,rfl,h⟩
theorem rO {r:R2} {g:D→D→Option D} {σ:St} {H:Hp} {Q:VK} (hb:BrO X.K r g) (h:tD X.K fl .FC (dOp g fa fb) σ H Q):tOp r (tD X.K fl .P fa) (tD X.K fl .P fb) σ H Q:=by
 obtain ⟨G,ow,δ,d,R,hf,q⟩:=h
 obtain ⟨x,y,e1,e2,e3⟩:=yZ hf
 refine ⟨G,ow,δ,x,R,e1,fun v H1 s1 r1=>⟨G,ow,δ,y,R.grow s1,e2,fun u H2 s2 r2=>?_⟩⟩
 exact hb H2 v u x y d Q (RA.same s2 r1) r2 e3 fun z hz rz=>q z H2 (s1.trans s2) (.inl ⟨hz,rz⟩)
theorem bV {op:Operator} {r:R2} {g:D→D→Option D} (ho:OpR X (binaryOp op) r) (hb:BrO X.K r g) (h1:DE X fl .P a fa) (h2:DE X fl .P b fb):DE X fl .FC (.BinOp a op b pos) (dOp g fa fb) :=
 PE.imp (FP ho h1 h2) fun _ _ _ h=>rO hb h
theorem nC {op:CmpOp} {r:R2} {g:D→D→Option D} (ho:OpR X (compareOp op) r) (hb:BrO X.K r g) (h1:DE X fl .P a fa) (h2:DE X fl .P b fb) (hm:behindInMarks op b=false):DE X fl .FC (.Compare a [op] [b] pos) (dOp g fa fb) :=
 PE.imp (Jd ho h1 h2 hm) fun _ _ _ h=>rO hb h
theorem cO {op:CmpOp} {r:R2} {g:D→D→Option D} (ho:OpR X (compareOp op) r) (hb:BrO X.K r g) (h1:DE X fl .P a fa) (h2:DE X fl .P b fb) (hm:behindInMarks op b=false):DT X fl (.Compare a [op] [b] pos) (aP (dOp g fa fb)):=by
 refine PT.imp (Je ho h1 h2 hm) fun σ H Q h=>?_
 obtain ⟨G,ow,δ,c,R,hf,q⟩:=h
 obtain ⟨d,e1,e2⟩:=bind1 hf
 cases d <;> first | (cases e2;done) | skip
 cases e2
 refine rO (fl:=fl) (fa:=fa) (fb:=fb) hb ⟨G,ow,δ,_,R,e1,fun v H' s r=>?_⟩
 obtain rfl:=(Rs.FC_C r).blE
 exact ⟨_,rfl,q H' s⟩
theorem jr (h:DE X fl .P e f) (he:∀ whole,isTrue e X.env whole=(do let v ← whole;standAt e.pos;holding [v] (truthy v)):=by intro _;rfl):DT X fl e (aP f):=by
 refine PT.imp (Mq h he) fun σ H Q h=>?_
 obtain ⟨G,ow,δ,c,R,hf,q⟩:=h
 obtain ⟨d,e1,e2⟩:=bind1 hf
 cases d <;> first | (cases e2;done) | skip
 cases e2
 refine ⟨G,ow,δ,_,R,e1,fun v H' s r=>?_⟩
 obtain rfl:=RA.blE r
 exact ⟨_,rfl,q H' s⟩
theorem v5 {K:PySem.W.Frag} {h:Int→Int→V} {g:Int→Int→D} (hf:∀ i j,flat (g i j)=true) (hr:∀ H i j,RA K ok0 false H (h i j) (g i j)):BrO K (rI0 h) (gI fun i j=>some (g i j)):=by
 intro H x y dx dy d Q rx ry e q
 unfold gI at e
 split at e
 ·next i j =>
  cases e
  exact ⟨i,j,rx.intE,ry.intE,q _ (hf i j) (hr H i j)⟩
 ·cases e
theorem Jx {K:PySem.W.Frag} {C:Int→Int→Prop} {h:Int→Int→V} {g:Int→Int→D} {c:Int→Int→Bool} (hc:∀ i j,c i j=true→C i j) (hf:∀ i j,flat (g i j)=true) (hr:∀ H i j,RA K ok0 false H (h i j) (g i j)) :
 BrO K (rI C h) (gI fun i j=>if c i j=true then some (g i j) else none):=by
 intro H x y dx dy d Q rx ry e q
 unfold gI at e
 split at e
 ·next i j =>
  dsimp only at e
  by_cases z:c i j=true
  ·rw [if_pos z] at e
   cases e
   exact ⟨i,j,rx.intE,ry.intE,hc i j z,q _ (hf i j) (hr H i j)⟩
  ·rw [if_neg z] at e
   cases e
 ·cases e
end
section
variable {X:Cx} {K:PySem.W.Frag}
theorem Jy {i j:Int} (h:uD i j=true):IntMulOk i j:=by
 unfold uD at h
 rw [jd,jd,aR] at h
 rcases h with (h | h) | ⟨h1,h2⟩
 ·exact IntMulOk.of_left (PySem.intBits_le_iff.mpr (of_decide_eq_true h))
 ·exact IntMulOk.of_right (PySem.intBits_le_iff.mpr (of_decide_eq_true h))
 ·exact PySem.IntMulOk.of_le (PySem.intBits_le_iff.mpr (of_decide_eq_true h1)) (PySem.intBits_le_iff.mpr (of_decide_eq_true h2)) (by decide)
theorem j9:OpR X (binaryOp .Mult) (rI (fun i j=>uD i j=true) fun i j=>.int (i * j)):=opI fun _ _ _ _ _ _ _ hc q=>mul_int q (Jy hc)
theorem Ck:OpR X (binaryOp .FloorDiv) (rI (fun i j=>Av i j=true) fun i j=>.int (i.fdiv j)):=opI fun i j _ _ _ _ _ hc q=>by
 unfold Av at hc
 rw [aR] at hc
 have h1:=of_decide_eq_true hc.1
 have h2:=of_decide_eq_true hc.2
 refine floordiv_int h1 q (.inl (PyProof.noPylong_of_log2 ?_))
 exact (Nat.log2_lt (by omega)).mpr h2
theorem Jz {i j:Int} (h:Ng i j=true):M5 i j:=by
 unfold Ng at h
 rw [aR,aR] at h
 have h1:=of_decide_eq_true h.1.1
 have h2:=of_decide_eq_true h.1.2
 exact ⟨h1,by omega,of_decide_eq_true h.2⟩
theorem jw:BrO K (rI0 fun i j=>.int (i + j)) fu:=v5 (fun _ _=>rfl) fun _ _ _=>.int _
theorem uI:BrO K (rI0 fun i j=>.int (i - j)) m8:=v5 (fun _ _=>rfl) fun _ _ _=>.int _
theorem o_:BrO K (rI (fun i j=>uD i j=true) fun i j=>.int (i * j)) kZ:=Jx (fun _ _ h=>h) (fun _ _=>rfl) fun _ _ _=>.int _
theorem Ln:BrO K (rI (fun i j=>Av i j=true) fun i j=>.int (i.fdiv j)) yU:=Jx (fun _ _ h=>h) (fun _ _=>rfl) fun _ _ _=>.int _
theorem gZ:BrO K (rI (fun _ j=>j ≠ 0) fun i j=>.int (i.fmod j)) eN:=Jx (fun _ _ h=>of_decide_eq_true h) (fun _ _=>rfl) fun _ _ _=>.int _
theorem zc:BrO K (rI M5 fun i j=>.int (i ^ j.toNat)) oZ:=Jx (fun _ _ h=>Jz h) (fun _ _=>rfl) fun _ _ _=>.int _
theorem b_lt:BrO K (rI0 fun i j=>.bl (decide (i < j))) gLt:=v5 (fun _ _=>rfl) fun _ _ _=>.bl _
theorem p8:BrO K (rI0 fun i j=>.bl (decide (i ≤ j))) gLe:=v5 (fun _ _=>rfl) fun _ _ _=>.bl _
theorem Ax:BrO K (rI0 fun i j=>.bl (decide (j < i))) gGt:=v5 (fun _ _=>rfl) fun _ _ _=>.bl _
theorem Nj:BrO K (rI0 fun i j=>.bl (decide (j ≤ i))) gGe:=v5 (fun _ _=>rfl) fun _ _ _=>.bl _
theorem tK:BrO K (QL K) gEq:=by
 intro H x y dx dy d Q rx ry e q
 unfold gEq at e
 by_cases z:(SeqAt.shaped dx && SeqAt.shaped dy)=true
 ·rw [if_pos z] at e
  cases e
  rw [aR] at z
  exact ⟨dx,dy,rx.rd (SeqAt.canLay_of_shaped z.1),ry.rd (SeqAt.canLay_of_shaped z.2),z.1,z.2,q _ rfl (.bl _)⟩
 ·rw [if_neg z] at e
  cases e
theorem vG:BrO K (QM K) gNe:=by
 intro H x y dx dy d Q rx ry e q
 unfold gNe at e
 by_cases z:(SeqAt.shaped dx && SeqAt.shaped dy)=true
 ·rw [if_pos z] at e
  cases e
  rw [aR] at z
  exact ⟨dx,dy,rx.rd (SeqAt.canLay_of_shaped z.1),ry.rd (SeqAt.canLay_of_shaped z.2),z.1,z.2,q _ rfl (.bl _)⟩
 ·rw [if_neg z] at e
  cases e
end
end D3
namespace D3
open PySem PySem.Spec PyProof.Rows L2 My
section
variable {X:Cx} {fl:List Fl} {e a b c:Expr} {es:List Expr} {st:Stmt} {sts body orelse:List Stmt} {k:Kd} {f fa fb fc:FE} {fs gs:FS} {ft gt:FT} {pos:Pos}
theorem xG.nx_imp {K:PySem.W.Frag} {G:Gh} {Dn:Ends} {N:St→Hp→Prop} {o:Oc} (h:xG K fl G Dn o) (hn:∀ δ',o ≠ .nx δ'):xG K fl G { Dn with nx:=N } o:=by
 cases o with
 | nx δ'=>exact absurd rfl (hn δ')
 | rt d=>exact h
 | bk δ'=>exact h
 | ct δ'=>exact h
 | ex c f v=>exact h
theorem dh:DSs X fl [] dF:=PSs.imp BZ fun Dn σ H h=>by
 obtain ⟨G,ow,δ,o,R,hf,q⟩:=h
 cases hf
 exact q ow σ H R
theorem aV (h1:DS1 X fl st fs) (h2:DSs X fl sts gs):DSs X fl (st :: sts) (aY fs gs):=PSs.imp (yM h1 h2) fun Dn σ H h=>by
 obtain ⟨G,ow,δ,o,R,hf,q⟩:=h
 obtain ⟨o1,e1,e2⟩:=bind1 hf
 refine ⟨G,ow,δ,o1,R,e1,?_⟩
 cases o1 with
 | nx δ'=>exact fun ow' σ' H' R'=>⟨G,ow',δ',o,R',e2,q⟩
 | rt d=>cases e2;exact xG.nx_imp q (fun _ z=>by cases z)
 | bk d=>cases e2;exact xG.nx_imp q (fun _ z=>by cases z)
 | ct d=>cases e2;exact xG.nx_imp q (fun _ z=>by cases z)
 | ex c f v=>cases e2;exact q
theorem aX (h1:DS1 X fl st fs):DSs X fl [st] fs:=PSs.imp (B_ h1) fun _ _ _ h=>h
theorem bO (h:DE X fl .R e f):DS1 X fl (.Return (some e) pos) (b_ f):=PS.imp (wU h) fun Dn σ H h=>by
 obtain ⟨G,ow,δ,o,R,hf,q⟩:=h
 obtain ⟨d,e1,e2⟩:=bind1 hf
 cases e2
 exact ⟨G,ow,δ,d,R,e1,fun v H' s r=>q v H' (R.same0.trans s) r⟩
theorem xM (h:DE X fl .P e f) (hs:swapsWith e none pos.line X.env=pure false:=by rfl):DS1 X fl (.Expr e pos) (sS f):=PS.imp (tR h hs) fun Dn σ H h=>by
 obtain ⟨G,ow,δ,o,R,hf,q⟩:=h
 obtain ⟨d,e1,e2⟩:=bind1 hf
 cases e2
 exact ⟨G,ow,δ,d,R,e1,fun v H' s r=>q ow σ H' (R.grow s)⟩
theorem gB (hc:DT X fl c ft) (h1:DSs X fl body fs) (h2:DSs X fl orelse gs):DS1 X fl (.If c body orelse pos) (sIf ft fs gs):=PS.imp (Lh hc h1 h2) fun Dn σ H h=>by
 obtain ⟨G,ow,δ,o,R,hf,q⟩:=h
 obtain ⟨t,e1,e2⟩:=bind1 hf
 refine ⟨G,ow,δ,t,R,e1,fun H' s=>?_⟩
 cases t with
 | true=>exact xg ⟨G,ow,δ,o,R.grow s,e2,q⟩
 | false=>exact wZ ⟨G,ow,δ,o,R.grow s,e2,q⟩
theorem fO {α:Type} {l:List (Option α)} {i j:Nat} {x y:α} (h:(l.set i (some x))[j]? = some (some y)):(j=i∧x=y)∨(j ≠ i∧l[j]? = some (some y)):=by
 rw [j4] at h
 by_cases e:i=j
 ·subst e
  rw [if_pos rfl] at h
  by_cases z:i < l.length
  ·rw [if_pos z] at h
   cases h
   exact .inl ⟨rfl,rfl⟩
  ·rw [if_neg z] at h
   cases h
 ·rw [if_neg e] at h
  exact .inr ⟨fun z=>e z.symm,h⟩
theorem Rel.setA {K:PySem.W.Frag} {G:Gh} {ow:Ow} {σ:St} {H:Hp} {δ:DS} {i:Nat} {v:V} {d:D} (R:Rel K fl G ow σ H δ) (hfl:fl[i]? = some .A) (hi:i < σ.length) (r:RA K (okA ow) true H v d) :
 Rel K fl G ow (σ.set i (some v)) H (δ.set i (some (.d d))):=by
 have no:∀ a,ow i ≠ some a:=fun a z=>by
  obtain ⟨_,hz,_⟩:=R.own i a z
  rw [hfl] at hz
  rcases hz with ⟨z,_⟩ | ⟨z,_⟩ <;> cases z
 refine ⟨R.s0,R.s1,by rw [bM,bM];exact R.len,fun j a h=>?_,R.inj,R.pin,fun j d' h1 hn h2=>?_,fun j d' h1 hn h2 h3=>?_,R.nt,R.nd,R.ns,R.np,fun j d' hn h1=>?_⟩
 ·have hj:j ≠ i:=fun z=>no a (z ▸ h)
  obtain ⟨h0,hf,xs,ds,h1,h2,h3,h4⟩:=R.own j a h
  exact ⟨h0,hf,xs,ds,by rw [aL (Ne.symm hj)];exact h1,h2,h3,by rw [aL (Ne.symm hj)];exact h4⟩
 ·rcases fO h1 with ⟨rfl,e⟩ | ⟨hj,e⟩
  ·cases e
   exact ⟨v,by rw [bH hi],r⟩
  ·obtain ⟨v',h3,h4⟩:=R.dat j d' e hn h2
   exact ⟨v',by rw [aL (Ne.symm hj)];exact h3,h4⟩
 ·rcases fO h1 with ⟨rfl,e⟩ | ⟨hj,e⟩
  ·exact absurd hfl h2
  ·exact R.oo j d' e hn h2 h3
 ·rcases fO h1 with ⟨rfl,e⟩ | ⟨hj,e⟩
  ·rw [hfl] at hn;cases hn
  ·obtain ⟨v',h3,h4⟩:=R.nr j d' hn e
   exact ⟨v',by rw [aL (Ne.symm hj)];exact h3,h4⟩
noncomputable def sW (ow:Ow) (i:Nat) (a:Option Addr):Ow:=⟨fun j=>if j=i then a else ow j,ow.n⟩
theorem ji {ow:Ow} {i:Nat} {a:Option Addr}:sW ow i a i=a:=if_pos rfl
theorem fK {ow:Ow} {i j:Nat} {a:Option Addr} (h:j ≠ i):sW ow i a j=ow j:=if_neg h
theorem Rel.setO {K:PySem.W.Frag} {G:Gh} {ow:Ow} {σ:St} {H H':Hp} {δ:DS} {i:Nat} {v:V} {d:D} (R:Rel K fl G ow σ H δ) (s:Same H H') (hfl:fl[i]? = some .O) (hi:i < σ.length) (r:Rs K G.H0 ow H H' .F v d) :
 ∃ ow',Rel K fl G ow' (σ.set i (some v)) H' (δ.set i (some (.d d))):=by
 have R':=R.grow s
 have sub0:∀ b,okA ow b→okA (sW ow i none) b:=fun b z=>⟨fun j e=>by
  by_cases hj:j=i
  ·subst hj;rw [ji] at e;cases e
  ·rw [fK hj] at e;exact z.1 j e,z.2⟩
 have nrs:∀ j d',isN fl[j]? = true→(δ.set i (some (.d d)))[j]? = some (some (.d d'))→∃ v',(σ.set i (some v))[j]? = some (some v')∧RT K H' v' d' (ow.n j)∧(ow.n j).Nodup:=fun j d' hn h1=>by
  rcases fO h1 with ⟨rfl,e⟩ | ⟨hj,e⟩
  ·rw [hfl] at hn;cases hn
  ·obtain ⟨v',h3,h4⟩:=R'.nr j d' hn e
   exact ⟨v',by rw [aL (Ne.symm hj)];exact h3,h4⟩
 rcases r with ⟨hfd,r⟩ | ⟨a,xs,ds,rfl,rfl,ha,hx,hr⟩
 ·refine ⟨sW ow i none,R'.s0,R'.s1,by rw [bM,bM];exact R.len,fun j a h=>?_,fun j j' a h h'=>?_,fun j h=>?_,fun j d' h1 hn h2=>?_,fun j d' h1 hn h2 h3=>?_,R'.nt,R'.nd,fun j j' a h h'=>?_,R'.np,nrs⟩
  ·have hj:j ≠ i:=fun z=>by subst z;rw [ji] at h;cases h
   rw [fK hj] at h
   obtain ⟨h0,hf,xs,ds,h1,h2,h3,h4⟩:=R'.own j a h
   exact ⟨h0,hf,xs,ds,by rw [aL (Ne.symm hj)];exact h1,h2,h3.imp sub0 (fun z=>z),by rw [aL (Ne.symm hj)];exact h4⟩
  ·have hj:j ≠ i:=fun z=>by subst z;rw [ji] at h;cases h
   have hj':j' ≠ i:=fun z=>by subst z;rw [ji] at h';cases h'
   rw [fK hj] at h
   rw [fK hj'] at h'
   exact R.inj j j' a h h'
  ·have hj:j ≠ i:=fun z=>by subst z;rw [hfl] at h;cases h
   rw [fK hj]
   exact R.pin j h
  ·rcases fO h1 with ⟨rfl,e⟩ | ⟨hj,e⟩
   ·cases e
    exact ⟨v,by rw [bH hi],RA.flat hfd r⟩
   ·rw [fK hj] at h2
    obtain ⟨v',h3,h4⟩:=R'.dat j d' e hn h2
    exact ⟨v',by rw [aL (Ne.symm hj)];exact h3,h4.imp sub0 (fun z=>z)⟩
  ·rcases fO h1 with ⟨rfl,e⟩ | ⟨hj,e⟩
   ·cases e
    exact hfd
   ·rw [fK hj] at h3
    exact R.oo j d' e hn h2 h3
  ·by_cases hj:j'=i
   ·subst hj;rw [ji] at h';cases h'
   ·rw [fK hj] at h';exact R.ns j j' a h h'
 ·have sub:∀ b,okA ow b∧b ≠ a→okA (sW ow i (some a)) b:=fun b z=>⟨fun j e=>by
   by_cases hj:j=i
   ·subst hj;rw [ji] at e;exact z.2 (dH.inj e).symm
   ·rw [fK hj] at e;exact z.1.1 j e,z.1.2⟩
  have old:∀ {v:V} {d:D},RA K (okA ow) true H v d→RA K (okA (sW ow i (some a))) true H' v d:=fun r=>(r.track.imp (fun b z=>sub b ⟨z.1,fun e=>z.2 (e ▸ ha)⟩) (fun z=>z)).same s
  have olds:∀ {v:List V} {d:List D},RAs K (okA ow) true H v d→RAs K (okA (sW ow i (some a))) true H' v d:=fun r=>(r.track.imp (fun b z=>sub b ⟨z.1,fun e=>z.2 (e ▸ ha)⟩) (fun z=>z)).same s
  have nota:∀ j,ow j ≠ some a:=fun j z=>by
   obtain ⟨_,_,_,_,_,h2,_⟩:=R.own j a z
   rw [ha] at h2
   cases h2
  have hF:G.HF a=none:=R.s1.free ha
  refine ⟨sW ow i (some a),R'.s0,R'.s1,by rw [bM,bM];exact R.len,fun j b h=>?_,fun j j' b h h'=>?_,fun j h=>?_,fun j d' h1 hn h2=>?_,fun j d' h1 hn h2 h3=>?_,R'.nt,R'.nd,fun j j' b h h'=>?_,R'.np,nrs⟩
  ·by_cases hj:j=i
   ·subst hj
    rw [ji] at h
    cases h
    exact ⟨R.same0.free ha,.inl ⟨hfl,hF⟩,xs,ds,by rw [bH hi],hx,hr.imp sub (fun z=>z),by rw [bH (by rw [← R.len];exact hi)]⟩
   ·rw [fK hj] at h
    obtain ⟨h0,hf,ys,ds',h1,h2,h3,h4⟩:=R.own j b h
    exact ⟨h0,hf,ys,ds',by rw [aL (Ne.symm hj)];exact h1,s _ _ h2,olds h3,by rw [aL (Ne.symm hj)];exact h4⟩
  ·by_cases hj:j=i
   ·by_cases hj':j'=i
    ·rw [hj,hj']
    ·subst hj
     rw [ji] at h
     cases h
     rw [fK hj'] at h'
     exact absurd h' (nota j')
   ·rw [fK hj] at h
    by_cases hj':j'=i
    ·subst hj'
     rw [ji] at h'
     cases h'
     exact absurd h (nota j)
    ·rw [fK hj'] at h'
     exact R.inj j j' b h h'
  ·have hj:j ≠ i:=fun z=>by subst z;rw [hfl] at h;cases h
   rw [fK hj]
   exact R.pin j h
  ·rcases fO h1 with ⟨rfl,e⟩ | ⟨hj,e⟩
   ·rw [ji] at h2;cases h2
   ·rw [fK hj] at h2
    obtain ⟨v',h3,h4⟩:=R.dat j d' e hn h2
    exact ⟨v',by rw [aL (Ne.symm hj)];exact h3,old h4⟩
  ·rcases fO h1 with ⟨rfl,e⟩ | ⟨hj,e⟩
   ·rw [ji] at h3;cases h3
   ·rw [fK hj] at h3
    exact R.oo j d' e hn h2 h3
  ·by_cases hj:j'=i
   ·subst hj
    rw [ji] at h'
    cases h'
    exact (R.nt j a h).2.1.ne ha
   ·rw [fK hj] at h';exact R.ns j j' b h h'
theorem Rel.mut {K:PySem.W.Frag} {G:Gh} {ow:Ow} {σ:St} {H:Hp} {δ:DS} {i:Nat} {a:Addr} {ys:List V} {ds:List D} (R:Rel K fl G ow σ H δ) (hfl:fl[i]? = some .O) (ho:ow i=some a) (r:RAs K (okA ow) true H ys ds) :
 Rel K fl G ow σ (upd H a (.lst ys)) (δ.set i (some (.d (.list ds)))):=by
 obtain ⟨h0,hz,xs,ds0,e1,e2,e3,e4⟩:=R.own i a ho
 have na:¬ okA ow a:=fun z=>z.1 i ho
 have hF:G.HF a=none:=by
  rcases hz with ⟨_,z⟩ | ⟨z,_⟩
  ·exact z
  ·rw [hfl] at z;cases z
 have hi:i < δ.length:=by
  rcases qp i δ.length with z | z
  ·exact z
  ·rw [bK z] at e4;cases e4
 refine ⟨R.s0,fun b o hb=>?_,by rw [bM];exact R.len,fun j b h=>?_,R.inj,R.pin,fun j d' h1 hn h2=>?_,fun j d' h1 hn h2 h3=>?_,fun j b h=>?_,R.nd,R.ns,R.np,fun j d' hn h1=>?_⟩
 ·rw [dG (fun z=>by subst z;rw [hF] at hb;cases hb)]
  exact R.s1 b o hb
 ·by_cases hj:j=i
  ·subst hj
   rw [ho] at h
   cases h
   exact ⟨h0,hz,ys,ds,e1,fH,r.upd e2 na,by rw [bH hi]⟩
  ·obtain ⟨h0',hf',zs,ds',h1,h2,h3,h4⟩:=R.own j b h
   have hb:b ≠ a:=fun z=>hj (R.inj j i a (z ▸ h) ho)
   exact ⟨h0',hf',zs,ds',h1,by rw [dG hb];exact h2,h3.upd e2 na,by rw [aL (Ne.symm hj)];exact h4⟩
 ·rcases fO h1 with ⟨rfl,e⟩ | ⟨hj,e⟩
  ·rw [ho] at h2;cases h2
  ·obtain ⟨v',h3,h4⟩:=R.dat j d' e hn h2
   exact ⟨v',h3,h4.upd e2 na⟩
 ·rcases fO h1 with ⟨rfl,e⟩ | ⟨hj,e⟩
  ·rw [ho] at h3;cases h3
  ·exact R.oo j d' e hn h2 h3
 ·obtain ⟨g1,g2,g3⟩:=R.nt j b h
  refine ⟨g1,?_,g3⟩
  by_cases hb:b=a
  ·rw [hb,fH];exact ⟨_,rfl,inferInstance⟩
  ·rw [dG hb];exact g2
 ·rcases fO h1 with ⟨rfl,e⟩ | ⟨hj,e⟩
  ·rw [hfl] at hn;cases hn
  ·obtain ⟨v',h3,h4,h5⟩:=R.nr j d' hn e
   exact ⟨v',h3,h4.upd e2 (fun z=>R.ns j i a z ho),h5⟩
theorem pG {K:PySem.W.Frag} {G:Gh} {ow:Ow} {σ:St} {H:Hp} {δ:DS} {i:Nat} (R:Rel K fl G ow σ H δ) (h:i < δ.length):i < σ.length:=by rw [R.len];exact h
theorem JB {i:Nat} {x:Str} {pos':Pos} (hfl:fl[i]? = some .A) (hN:X.N.Nodup) (hi:X.N[i]? = some x) (hv:X.env.scope.names.lookup x=some .local∨X.env.scope.names.lookup x=some .cell) (h:DE X fl .A e f)
 (hs:swapsWith e (some (.Name x pos')) pos.line X.env=pure false:=by rfl) (hfn:X.fn x=true∨X.env.scope.names.lookup x=some .local:=by first | exact .inl rfl | exact .inr rfl) :
 DS1 X fl (.Assign [.Name x pos'] e pos) (bh i f):=PS.imp (wV (i:=i) hN hi hv h hs hfn) fun Dn σ H h=>by
 obtain ⟨G,ow,δ,o,R,hf,q⟩:=h
 unfold bh at hf
 by_cases hl:i < δ.length
 ·rw [if_pos hl] at hf
  obtain ⟨d,e1,e2⟩:=bind1 hf
  cases e2
  exact ⟨G,ow,δ,d,R,e1,fun v H' s r=>q ow _ H' ((R.grow s).setA hfl (pG R hl) r)⟩
 ·rw [if_neg hl] at hf
  cases hf
theorem pH {i:Nat} {x:Str} {pos':Pos} (hfl:fl[i]? = some .O) (hN:X.N.Nodup) (hi:X.N[i]? = some x) (hv:X.env.scope.names.lookup x=some .local∨X.env.scope.names.lookup x=some .cell) (h:DE X fl .F e f)
 (hs:swapsWith e (some (.Name x pos')) pos.line X.env=pure false:=by rfl) (hfn:X.fn x=true∨X.env.scope.names.lookup x=some .local:=by first | exact .inl rfl | exact .inr rfl) :
 DS1 X fl (.Assign [.Name x pos'] e pos) (bh i f):=PS.imp (wV (i:=i) hN hi hv h hs hfn) fun Dn σ H h=>by
 obtain ⟨G,ow,δ,o,R,hf,q⟩:=h
 unfold bh at hf
 by_cases hl:i < δ.length
 ·rw [if_pos hl] at hf
  obtain ⟨d,e1,e2⟩:=bind1 hf
  cases e2
  refine ⟨G,ow,δ,d,R,e1,fun v H' s r=>?_⟩
  obtain ⟨ow',R'⟩:=R.setO s hfl (pG R hl) r
  exact q ow' _ H' R'
 ·rw [if_neg hl] at hf
  cases hf
theorem JC {i:Nat} {x:Str} {pos:Pos} (hfl:fl[i]? = some .A) (hN:X.N.Nodup) (hi:X.N[i]? = some x) (hv:X.env.scope.names.lookup x=some .local∨X.env.scope.names.lookup x=some .cell)
 (hfn:X.fn x=true∨X.env.scope.names.lookup x=some .local:=by first | exact .inl rfl | exact .inr rfl):DG X fl [i] (.Name x pos) (gNl i) :=
 PG.imp (tU (i:=i) hN hi hv hfn) fun v σ H Q h=>by
 obtain ⟨G,ow,δ,d,δ',R,r,hf,q⟩:=h
 unfold gNl at hf
 by_cases hl:i < δ.length
 ·rw [if_pos hl] at hf
  cases hf
  exact q _ (R.setA hfl (pG R hl) r) fun j hj=>aL (fun z=>hj (by rw [z];exact bW.mpr rfl))
 ·rw [if_neg hl] at hf
  cases hf
noncomputable def Ti (K:PySem.W.Frag) (fl:List Fl) (tg:List Nat) (g:List D→DS→Option DS):TGs:=fun vs σ H Q=>∃ G ow δ ds δ',Rel K fl G ow σ H δ∧RAs K (okA ow) true H vs ds∧g ds δ=some δ'∧∀ σ',Rel K fl G ow σ' H δ'→(∀ j,j ∉ tg→σ'[j]? = σ[j]?)→Q σ' H
theorem PGs.imp {t t':TGs} (h:PGs X es t) (i:∀ v σ H Q,t' v σ H Q→t v σ H Q):PGs X es t':=fun pins s σ H v u Q I r q=>h pins s σ H v u Q I r (i v σ H Q q)
noncomputable abbrev DGs (X:Cx) (fl:List Fl) (tg:List Nat) (es:List Expr) (g:List D→DS→Option DS):Prop:=PGs X es (Ti X.K fl tg g)
theorem jx:DGs X fl [] [] gA:=PGs.imp Ca fun vs σ H Q h=>by
 obtain ⟨G,ow,δ,ds,δ',R,r,hf,q⟩:=h
 cases r with
 | nil=>cases hf;exact ⟨rfl,q σ R fun _ _=>rfl⟩
 | cons _ _=>cases hf
theorem cP {tg tg':List Nat} {g:FG} {gs:List D→DS→Option DS} (h1:DG X fl tg e g) (h2:DGs X fl tg' es gs) (hs:(assignEach (e :: es) X.env).map (·.2)=assign e X.env :: (assignEach es X.env).map (·.2):=by rfl) :
 DGs X fl (tg++tg') (e :: es) (bT g gs):=PGs.imp (qy h1 h2 hs) fun vs σ H Q h=>by
 obtain ⟨G,ow,δ,ds,δ',R,r,hf,q⟩:=h
 cases r with
 | nil=>cases hf
 | cons r1 r2 =>
  obtain ⟨δ1,e1,e2⟩:=bind1 hf
  refine ⟨_,_,rfl,G,ow,δ,_,δ1,R,r1,e1,fun σ' R' k1=>⟨G,ow,δ1,_,δ',R',r2,e2,fun σ'' R'' k2=>q σ'' R'' fun j hj=>?_⟩⟩
  rw [k2 j fun z=>hj (bB _ z),k1 j fun z=>hj (dX _ z)]
theorem j_ {tg:List Nat} {gs:List D→DS→Option DS} {k n:Nat} (hc:X.calm=true) (h:DGs X fl tg es gs) (hn:(assignEach es X.env).length=n:=by rfl) (hst:(assignEach es X.env).findIdx? (·.1)=none:=by rfl) :
 DG X fl tg (.Tuple es k pos) (gTn n gs):=PG.imp (Fz (n:=n) hc h hn hst) fun v σ H Q h=>by
 obtain ⟨G,ow,δ,d,δ',R,r,hf,q⟩:=h
 unfold gTn at hf
 split at hf
 ·next l =>
  by_cases z:l.length=n
  ·rw [if_pos z] at hf
   obtain ⟨a,xs,rfl,hx,hr⟩:=r.tupE
   exact ⟨a,xs,rfl,hx,by rw [hr.length];exact z,G,ow,δ,l,δ',R,hr,hf,q⟩
  ·rw [if_neg z] at hf
   cases hf
 ·cases hf
theorem Gv {tg:List Nat} {g:FG} {t:Expr} (h:DE X fl .A e f) (hg:DG X fl tg t g) (hs:swapsWithSole [t] e pos.line X.env=pure false:=by rfl) (hw:swappedStores [t] e X.env=pure none:=by rfl)
 (h1:(assignEach [t] X.env).map (·.2)=[assign t X.env]:=by rfl):DS1 X fl (.Assign [t] e pos) (Ao f g):=PS.imp (Af h hg hs hw h1) fun Dn σ H h=>by
 obtain ⟨G,ow,δ,o,R,hf,q⟩:=h
 obtain ⟨d,e1,e2⟩:=bind1 hf
 obtain ⟨δ',e3,e4⟩:=bind1 e2
 cases e4
 exact ⟨G,ow,δ,d,R,e1,fun v H' s r=>⟨G,ow,δ,d,δ',R.grow s,r,e3,fun σ' R' _=>q ow σ' H' R'⟩⟩
end
end D3
namespace D3
open PySem PySem.Spec PyProof.Rows L2 My
section
variable {X:Cx} {fl:List Fl} {e a b c:Expr} {es:List Expr} {st:Stmt} {sts body orelse:List Stmt} {k:Kd} {f fa fb fc:FE} {fs gs:FS} {ft gt:FT} {pos:Pos}
theorem uJ {K:PySem.W.Frag} {G:Gh} {ow:Ow} {σ:St} {H:Hp} {δ:DS} {i:Nat} {l:List D} (R:Rel K fl G ow σ H δ) (hfl:fl[i]? = some .O) (h:ao i δ=some (.list l)) :
 ∃ a xs,ow i=some a∧σ[i]? = some (some (.ref a))∧H a=some (.lst xs)∧RAs K (okA ow) true H xs l:=by
 have e:=mR h
 cases ho:ow i with
 | none =>
  have z:=R.oo i _ e (by rw [hfl];rfl) (by rw [hfl];simp) ho
  simp [flat] at z
 | some a =>
  obtain ⟨h0,_,xs,ds,h1,h2,h3,h4⟩:=R.own i a ho
  rw [e] at h4
  cases h4
  exact ⟨a,xs,rfl,h1,h2,h3⟩
theorem pI {i:Nat} {x:Str} {vpos apos cpos:Pos} (hfl:fl[i]? = some .O) (h:DE X fl .A e f) (hN:X.N[i]? = some x) (hv:Vis X.env.scope x:=by first | exact Or.inl rfl | exact Or.inr (Or.inl rfl) | exact Or.inr (Or.inr rfl)) (hd:(x == ("__debug__" : Str))=false:=by decide)
 (hcd:(x == ("__classdict__" : Str))=false:=by decide)
 (hs:swapsWith (.Call (.Attribute (.Name x vpos) "append" apos) [e] [] cpos) none pos.line X.env=pure false:=by rfl)
 (hbase:attributeBase (.Name x vpos) "append" X.env (eval (.Name x vpos) X.env)=eval (.Name x vpos) X.env:=by rfl)
 (hfew:((backTo cpos (starEach [e] X.env)).all (fun x=>!x.1) && (backToKw cpos (keywordEach [] X.env)).all (fun x=>x.1.isSome)
  && decide (([e]:List Expr).length + ([]:List Keyword).length + (if ([]:List Keyword).isEmpty then 0 else 1) < 30))=true:=by rfl)
 (hline:(apos.endLine == cpos.line)=true:=by rfl) (hst:starEach [e] X.env=(false,eval e X.env) :: starEach [] X.env:=by rfl) (hplain:(backTo cpos (starEach [] X.env)).any (·.1)=false:=by rfl) :
 DS1 X fl (.Expr (.Call (.Attribute (.Name x vpos) "append" apos) [e] [] cpos) pos) (o7 i f) :=
 PS.imp (tR (QJ PySem.F.plainAttrs_list PySem.F.slot_list_append PySem.F.type_list_append vW (lC hN hv hd hcd) (gU h m9 hst) hbase hfew hline hst hplain) hs) fun Dn σ H h=>by
 obtain ⟨G,ow,δ,o,R,hf,q⟩:=h
 obtain ⟨x,e1,hf1⟩:=bind1 hf
 obtain ⟨d,e2,hf2⟩:=bind1 hf1
 clear hf hf1
 have hf:=hf2
 clear hf2
 split at hf
 case h_2=>cases hf
 next l =>
 by_cases hl:l.length < 1000000
 ·rw [if_pos hl] at hf
  cases hf
  obtain ⟨a,xs,ho,h1,h2,h3⟩:=uJ R hfl e1
  refine ⟨_,h1,.inl ⟨rfl,_,SqL.of h2⟩,G,ow,δ,d,R,e2,fun v H' s r=>?_⟩
  have R':=R.grow s
  refine ⟨a,xs,v,rfl,rfl,s _ _ h2,by rw [h3.length];exact Nat.lt_trans hl (by decide),?_⟩
  exact q ow σ _ (R'.mut hfl ho ((h3.same s).append (.cons r .nil)))
 ·rw [if_neg hl] at hf
  cases hf
theorem Ay {i:Nat} {x:Str} {vpos spos:Pos} {ke:Expr} {fk:FE} (hfl:fl[i]? = some .O) (h:DE X fl .A e f) (hk:DE X fl .P ke fk) (hN:X.N[i]? = some x) (hv:Vis X.env.scope x:=by first | exact Or.inl rfl | exact Or.inr (Or.inl rfl) | exact Or.inr (Or.inr rfl)) (hd:(x == ("__debug__" : Str))=false:=by decide)
 (hcd:(x == ("__classdict__" : Str))=false:=by decide) (ha:∀ v,assign (.Subscript (.Name x vpos) ke spos) X.env v=(do
  let ov ← holding [v] (eval (.Name x vpos) X.env)
  let iv ← holding [v,ov] (eval ke X.env)
  standAt spos
  holding [v,ov,iv] (setItem ov iv v)
  release [v,ov,iv] []):=by intro _;rfl)
 (hs:swapsWithSole [.Subscript (.Name x vpos) ke spos] e pos.line X.env=pure false:=by rfl) (hw:swappedStores [.Subscript (.Name x vpos) ke spos] e X.env=pure none:=by rfl)
 (h1:(assignEach [.Subscript (.Name x vpos) ke spos] X.env).map (·.2)=[assign (.Subscript (.Name x vpos) ke spos) X.env]:=by rfl) :
 DS1 X fl (.Assign [.Subscript (.Name x vpos) ke spos] e pos) (oU i fk f) :=
 PS.imp (Af h (MF (lC hN hv hd hcd) hk set_list ha) hs hw h1) fun Dn σ H h=>by
 obtain ⟨G,ow,δ,o,R,hf,q⟩:=h
 obtain ⟨d,e2,hf1⟩:=bind1 hf
 obtain ⟨x,e1,hf2⟩:=bind1 hf1
 obtain ⟨k,e3,hf3⟩:=bind1 hf2
 clear hf hf1 hf2
 have hf:=hf3
 clear hf3
 split at hf
 case h_2=>cases hf
 next l j =>
 obtain ⟨n,e4,e5⟩:=bind1 hf
 cases e5
 obtain ⟨a,xs,ho,h1,h2,h3⟩:=uJ R hfl e1
 refine ⟨G,ow,δ,d,R,e2,fun v H' s r=>⟨_,h1,G,ow,δ,_,R.grow s,e3,fun u H2 s2 r2=>?_⟩⟩
 obtain rfl:=RA.intE r2
 have R2:=R.grow (s.trans s2)
 refine ⟨a,xs,j,n,rfl,rfl,(s.trans s2) _ _ h2,by rw [h3.length];exact e4,?_⟩
 exact q ow σ _ (R2.mut hfl ho (RAs.set (RA.same s2 r) n (h3.same (s.trans s2))))
noncomputable def Lp (K:PySem.W.Frag) (ow:Ow) (L:List Nat) (H1:Hp) (J:It) (l:List D):Prop:=∀ H2:Hp,(∀ b o,H1 b=some o→(∀ i,ow i=some b→i ∈ L)→(∀ i,b ∉ ow.n i)→H2 b=some o)→∀ i:Nat,
 (∀ d,l[i]? = some d→J.go i H2∧∀ x H3,J.yld i H2 x H3→Same H2 H3∧RA K (fun b=>okA ow b∧H1 b ≠ none) true H3 x d)∧(l.length ≤ i→J.stop i H2)
noncomputable def tDI (K:PySem.W.Frag) (fl:List Fl) (L:List Nat) (fi:FA):TI:=fun σ H R'=>∃ G ow δ l,Rel K fl G ow σ H δ∧fi δ=some l∧∀ J H1,Same H H1→Lp K ow L H1 J l→R' J H1
noncomputable abbrev DI (X:Cx) (fl:List Fl) (L:List Nat) (tg iter:Expr) (fi:FA):Prop:=PI X tg iter (tDI X.K fl L fi)
theorem PI.imp {tg iter:Expr} {t t':TI} (h:PI X tg iter t) (i:∀ σ H R',t' σ H R'→t σ H R'):PI X tg iter t':=fun pins s σ H R' I q=>h pins s σ H R' I (i σ H R' q)
section
variable {K:PySem.W.Frag} {ok:Ok} {pl:Bool} {H1 H2:Hp} {ow:Ow} {L:List Nat}
theorem nm {b:Addr} {o:HO} (hl:∀ i b,ow i=some b→∃ xs,H1 b=some (.lst xs)) (h:H1 b=some o) (hn:∀ xs,o ≠ .lst xs):∀ i,ow i=some b→i ∈ L:=fun i e=>by
 obtain ⟨xs,z⟩:=hl i b e
 rw [h] at z
 exact absurd (dH.inj z) (hn xs)
theorem nm2 {b:Addr} {o:HO} (hl:∀ i b,b ∈ ow.n i→Chd (H1 b)) (h:H1 b=some o) (hn:Chg o→False):∀ i,b ∉ ow.n i:=fun i e=>by
 obtain ⟨u,z,c⟩:=hl i b e
 rw [h] at z
 cases z
 exact hn c
mutual
theorem RA.keep (hk:∀ b o,H1 b=some o→(∀ i,ow i=some b→i ∈ L)→(∀ i,b ∉ ow.n i)→H2 b=some o) (hl:∀ i b,ow i=some b→∃ xs,H1 b=some (.lst xs)) (hm:∀ i b,b ∈ ow.n i→Chd (H1 b)) (ho:∀ b,ok b→okA ow b):∀ {v:V} {d:D},RA K ok pl H1 v d→RA K ok pl H2 v d
 | _,_,.non=>.non
 | _,_,.bl b=>.bl b
 | _,_,.int i=>.int i
 | _,_,.str x=>.str x
 | _,_,.lst e k q=>.lst (hk _ _ e (fun i z=>absurd z ((ho _ k).1 i)) (ho _ k).2) k (RAs.keep hk hl hm ho q)
 | _,_,.lsk e k q=>.lsk (by
  rcases e with ⟨o,e⟩ | e
  ·exact .inl ⟨o,hk _ _ e (nm hl e (by intro xs z;cases z)) (nm2 hm e Chg.frz)⟩
  ·exact .inr e) k (RAs.keep hk hl hm ho q)
 | _,_,.tup e q=>.tup (hk _ _ e (nm hl e (by intro xs z;cases z)) (nm2 hm e Chg.tup)) (RAs.keep hk hl hm ho q)
 | _,_,.dic e g k=>.dic (hk _ _ e (fun i z=>absurd z ((ho _ k).1 i)) (ho _ k).2) (g.imp fun _ _ t=>hk _ _ t (nm hl t (by intro xs z;cases z)) (nm2 hm t Chg.tup)) k
 | _,_,.dik e g k=>.dik (hk _ _ e (nm hl e (by intro xs z;cases z)) (nm2 hm e Chg.frz)) (g.imp fun _ _ t=>hk _ _ t (nm hl t (by intro xs z;cases z)) (nm2 hm t Chg.tup)) k
theorem RAs.keep (hk:∀ b o,H1 b=some o→(∀ i,ow i=some b→i ∈ L)→(∀ i,b ∉ ow.n i)→H2 b=some o) (hl:∀ i b,ow i=some b→∃ xs,H1 b=some (.lst xs)) (hm:∀ i b,b ∈ ow.n i→Chd (H1 b)) (ho:∀ b,ok b→okA ow b):∀ {v:List V} {d:List D},RAs K ok pl H1 v d→RAs K ok pl H2 v d
 | _,_,.nil=>.nil
 | _,_,.cons e q=>.cons (RA.keep hk hl hm ho e) (RAs.keep hk hl hm ho q)
end
end
theorem Rel.ownL {K:PySem.W.Frag} {G:Gh} {ow:Ow} {σ:St} {H:Hp} {δ:DS} (R:Rel K fl G ow σ H δ):∀ i b,ow i=some b→∃ xs,H b=some (.lst xs):=fun i b e=>by
 obtain ⟨_,_,xs,_,_,h2,_⟩:=R.own i b e
 exact ⟨xs,h2⟩
theorem Rel.ownC {K:PySem.W.Frag} {G:Gh} {ow:Ow} {σ:St} {H:Hp} {δ:DS} (R:Rel K fl G ow σ H δ):∀ i b,b ∈ ow.n i→Chd (H b):=fun i b e=>(R.nt i b e).2.1
theorem rP {K:PySem.W.Frag} {G:Gh} {ow:Ow} {σ:St} {H Hb:Hp} {δ:DS} {L:List Nat} {v:V} {l:List D} (R:Rel K fl G ow σ H δ) (r:Rs K G.H0 ow Hb H (.B L) v (.list l)):∃ a xs,v = .ref a∧SqL K H a xs ∧
 ∀ H2:Hp,(∀ b o,H b=some o→(∀ i,ow i=some b→i ∈ L)→(∀ i,b ∉ ow.n i)→H2 b=some o)→SqL K H2 a xs∧RAs K (fun b=>okA ow b∧H b ≠ none) true H2 xs l:=by
 rcases r with r | ⟨i,hi,a,xs,ds,ho,rfl,e,hx,hr⟩
 ·cases r with
  | lst e k q=>exact ⟨_,_,rfl,SqL.of e,fun H2 hk=>⟨SqL.of (hk _ _ e (fun i z=>absurd z (k.1 i)) k.2),RAs.keep hk R.ownL R.ownC (fun b z=>z.1) q.track⟩⟩
  | lsk e k q=>exact ⟨_,_,rfl,e.sq,fun H2 hk=>⟨SqK.sq (by
   rcases e with ⟨o,e⟩ | e
   ·exact .inl ⟨o,hk _ _ e (nm R.ownL e (by intro xs z;cases z)) (nm2 R.ownC e Chg.frz)⟩
   ·exact .inr e),RAs.keep hk R.ownL R.ownC (fun b z=>z.1) q.track⟩⟩
 ·cases e
  exact ⟨a,xs,rfl,SqL.of hx,fun H2 hk=>⟨SqL.of (hk _ _ hx (fun j z=>by rw [R.inj j i a z ho];exact hi) (fun j z=>R.ns j i a z ho)),RAs.keep hk R.ownL R.ownC (fun b z=>z.1) hr.track⟩⟩
theorem g8 {tg:Expr} {L:List Nat} (h:DE X fl (.B L) e f):DI X fl L tg e (mz f):=PI.imp (Ce h) fun σ H R' h=>by
 obtain ⟨G,ow,δ,l,R,hf,q⟩:=h
 obtain ⟨d,e1,e2⟩:=bind1 hf
 cases d <;> first | (cases e2;done) | skip
 cases e2
 refine ⟨G,ow,δ,_,R,e1,fun v H1 s r=>?_⟩
 obtain ⟨a,xs,rfl,hx,keep⟩:=rP (R.grow s) r
 refine ⟨a,rfl,⟨xs,hx⟩,q _ _ s fun H2 k2 i=>?_⟩
 obtain ⟨k3,k4⟩:=keep H2 k2
 refine ⟨fun d hd=>?_,fun hl=>⟨xs,k3,by rw [k4.length];exact hl⟩⟩
 obtain ⟨y,hy,ry⟩:=k4.get hd
 refine ⟨⟨xs,y,k3,hy⟩,fun x H3 hyl=>?_⟩
 obtain ⟨e,hz⟩:=hyl
 subst e
 have:some y=some x:=hy.symm.trans (hz xs k3)
 cases this
 exact ⟨Same.refl _,ry⟩
theorem Gw (lo hi:Int):(fU lo hi).length=(hi - lo).toNat:=by simp [fU]
theorem Gx {K:PySem.W.Frag} {ow:Ow} {L:List Nat} {H1:Hp} (lo hi:Int):Lp K ow L H1 (Itr lo (hi - lo).toNat) (fU lo hi):=by
 intro H2 _ i
 refine ⟨fun d hd=>?_,fun hl=>by rw [Gw] at hl;exact hl⟩
 unfold fU at hd
 rw [bf] at hd
 by_cases hi':i < (hi - lo).toNat
 ·rw [eY hi'] at hd
  cases hd
  refine ⟨hi',fun x H3 hy=>?_⟩
  obtain ⟨e,e2⟩:=hy
  subst e e2
  exact ⟨Same.refl _,.int _⟩
 ·rw [bK (by simpa using hi')] at hd
  cases hd
theorem Cp {i:Int} (h:uE i=true) : -(2 ^ 62) ≤ i∧i < 2 ^ 62:=by
 unfold uE at h
 rw [aR] at h
 exact ⟨of_decide_eq_true h.1,of_decide_eq_true h.2⟩
theorem gj {tg:Expr} {L:List Nat} {p:Pos} {fa:FA} (hg:Gl X "range") (hm:X.mg "range" = none) (h:DA X fl [a] fa) (hs:starEach [a] X.env=[(false,eval a X.env)]:=by rfl):DI X fl L tg (.Call (.Name "range" p) [a] [] pos) (lG fa) :=
 PI.imp (Dy hg hm h hs) fun σ H R' h=>by
 obtain ⟨G,ow,δ,l,R,hf,q⟩:=h
 obtain ⟨ds,e1,e2⟩:=bind1 hf
 split at e2
 ·next j =>
  by_cases z:uE j=true
  ·rw [if_pos z] at e2
   cases e2
   refine ⟨G,ow,δ,_,R,e1,fun vs H1 s r=>?_⟩
   cases r with
   | cons r1 r2 =>
    cases r2
    obtain rfl:=r1.intE
    refine ⟨j,rfl,(Cp z).1,(Cp z).2,?_⟩
    have w:=Gx (K:=X.K) (ow:=ow) (L:=L) (H1:=H1) 0 j
    rw [qt] at w
    exact q _ _ s w
  ·rw [if_neg z] at e2
   cases e2
 ·cases e2
noncomputable def lock (L:List Nat) (fl:List Fl):List Fl:=fl.mapIdx fun i x=>if x = .O∧i ∈ L then .L else x
theorem lA {L:List Nat} {i:Nat}:(lock L fl)[i]? = (fl[i]?).map fun x=>if x = .O∧i ∈ L then .L else x:=by
 unfold lock
 rw [gO]
theorem Gy {L:List Nat} {i:Nat}:(lock L fl)[i]? = some .A↔fl[i]? = some .A:=by
 rw [lA]
 cases h:fl[i]? with
 | none=>simp
 | some x =>
  cases x <;> simp
  by_cases z:i ∈ L <;> simp [z]
theorem Az {L:List Nat} {i:Nat} (h:(lock L fl)[i]? = some .O):fl[i]? = some .O∧i ∉ L:=by
 rw [lA] at h
 cases e:fl[i]? with
 | none=>rw [e] at h;simp at h
 | some x =>
  rw [e] at h
  cases x <;> simp at h
  by_cases z:i ∈ L
  ·simp [z] at h
  ·exact ⟨rfl,z⟩
theorem A_ {L:List Nat} {i:Nat} (h:fl[i]? = some .L):(lock L fl)[i]? = some .L:=by
 rw [lA,h]
 simp
theorem Cq {L:List Nat} {i:Nat} (h:fl[i]? = some .O) (hi:i ∈ L):(lock L fl)[i]? = some .L:=by
 rw [lA,h]
 simp [hi]
theorem Cr {L:List Nat} {i:Nat} (h:fl[i]? = some .O) (hi:i ∉ L):(lock L fl)[i]? = some .O:=by
 rw [lA,h]
 simp [hi]
theorem xO {L:List Nat} {i:Nat}:(lock L fl)[i]? = some .N↔fl[i]? = some .N:=by
 rw [lA]
 cases h:fl[i]? with
 | none=>simp
 | some x =>
  cases x <;> simp
  by_cases z:i ∈ L <;> simp [z]
theorem Ba {L:List Nat} {i:Nat}:(lock L fl)[i]? = some .M↔fl[i]? = some .M:=by
 rw [lA]
 cases h:fl[i]? with
 | none=>simp
 | some x =>
  cases x <;> simp
  by_cases z:i ∈ L <;> simp [z]
theorem nM {L:List Nat} {i:Nat}:isN (lock L fl)[i]? = isN fl[i]?:=by
 rw [lA]
 cases h:fl[i]? with
 | none=>rfl
 | some x =>
  cases x <;> simp [isN]
  by_cases z:i ∈ L <;> simp [z]
noncomputable def Let (fl':List Fl) (ow:Ow) (b:Addr):Prop:=(∃ j,ow j=some b∧fl'[j]? = some .O)∨∃ j,b ∈ ow.n j∧fl'[j]? = some .N
open Classical in
noncomputable def ghL (fl':List Fl) (G:Gh) (ow:Ow) (H:Hp):Gh:=⟨G.H0,fun b=>if Let fl' ow b then none else H b,ow,ow.n,G.tb⟩
open Classical in
theorem oA {fl':List Fl} {G:Gh} {ow:Ow} {H:Hp} {b:Addr} (h:¬ Let fl' ow b):(ghL fl' G ow H).HF b=H b:=by
 unfold ghL
 dsimp only
 rw [if_neg h]
open Classical in
theorem Bb {fl':List Fl} {G:Gh} {ow:Ow} {H:Hp} {b:Addr} (h:Let fl' ow b):(ghL fl' G ow H).HF b=none:=by
 unfold ghL
 dsimp only
 rw [if_pos h]
theorem Rel.lock {K:PySem.W.Frag} {G:Gh} {ow:Ow} {σ:St} {H:Hp} {δ:DS} (L:List Nat) (R:Rel K fl G ow σ H δ):Rel K (lock L fl) (ghL (lock L fl) G ow H) ow σ H δ:=by
 refine ⟨fun b o hb=>?_,fun b o hb=>?_,R.len,fun i a h=>?_,R.inj,fun i h=>rfl,fun i d h1 hn h2=>R.dat i d h1 (by rw [nM] at hn;exact hn) h2,fun i d h1 hn h2 h3=>R.oo i d h1 (by rw [nM] at hn;exact hn) (fun z=>h2 (Gy.mpr z)) h3,fun i a h=>?_,R.nd,R.ns,fun i h=>rfl,fun i d hn h1=>R.nr i d (by rw [nM] at hn;exact hn) h1⟩
 ·have hb':G.H0 b=some o:=hb
  rw [oA]
  ·exact R.same0 b o hb'
  ·rintro (⟨j,e,_⟩ | ⟨j,e,_⟩)
   ·have:=(R.own j b e).1
    rw [hb'] at this
    cases this
   ·have:=(R.nt j b e).1
    rw [hb'] at this
    cases this
 ·by_cases z:Let (D3.lock L fl) ow b
  ·rw [Bb z] at hb;cases hb
  ·rw [oA z] at hb;exact hb
 ·obtain ⟨h0,hf,xs,ds,h1,h2,h3,h4⟩:=R.own i a h
  refine ⟨h0,?_,xs,ds,h1,h2,h3,h4⟩
  have out:(D3.lock L fl)[i]? = some .L→(ghL (D3.lock L fl) G ow H).HF a=H a:=fun hl=>oA (by
   rintro (⟨j,e,hj⟩ | ⟨j,e,hj⟩)
   ·rw [R.inj j i a e h,hl] at hj
    cases hj
   ·exact R.ns j i a e h)
  rcases hf with ⟨hf,_⟩ | ⟨hf,_⟩
  ·by_cases hi:i ∈ L
   ·exact .inr ⟨Cq hf hi,xs,by rw [out (Cq hf hi)];exact h2⟩
   ·exact .inl ⟨Cr hf hi,Bb (.inl ⟨i,h,Cr hf hi⟩)⟩
  ·exact .inr ⟨A_ hf,xs,by rw [out (A_ hf)];exact h2⟩
 ·obtain ⟨g1,g2,g3⟩:=R.nt i a h
  refine ⟨g1,g2,?_⟩
  rcases g3 with ⟨z,_⟩ | z
  ·exact .inl ⟨xO.mpr z,Bb (.inr ⟨i,h,xO.mpr z⟩)⟩
  ·exact .inr (Ba.mpr z)
theorem Rel.unlock {K:PySem.W.Frag} {G:Gh} {ow ow':Ow} {σ σ':St} {H H':Hp} {δ δ':DS} {L:List Nat} (R:Rel K fl G ow σ H δ) (R':Rel K (D3.lock L fl) (ghL (D3.lock L fl) G ow H) ow' σ' H' δ'):Rel K fl G ow' σ' H' δ':=by
 have sub:Same G.HF (ghL (D3.lock L fl) G ow H).HF:=fun b o hb=>by
  rw [oA]
  ·exact R.s1 b o hb
  ·rintro (⟨j,e,hj⟩ | ⟨j,e,hj⟩)
   ·rcases (R.own j b e).2.1 with ⟨_,z⟩ | ⟨z,_⟩
    ·rw [hb] at z;cases z
    ·have:=(Az hj).1
     rw [z] at this
     cases this
   ·rcases (R.nt j b e).2.2 with ⟨_,z⟩ | z
    ·rw [hb] at z;cases z
    ·have:=xO.mp hj
     rw [z] at this
     cases this
 refine ⟨R.s0,sub.trans R'.s1,R'.len,fun i a h=>?_,R'.inj,fun i h=>?_,fun i d h1 hn h2=>R'.dat i d h1 (by rw [nM];exact hn) h2,fun i d h1 hn h2 h3=>R'.oo i d h1 (by rw [nM];exact hn) (fun z=>h2 (Gy.mp z)) h3,fun i a h=>?_,R'.nd,R'.ns,fun i h=>?_,fun i d hn h1=>R'.nr i d (by rw [nM];exact hn) h1⟩
 ·obtain ⟨h0,hf,rest⟩:=R'.own i a h
  refine ⟨h0,?_,rest⟩
  rcases hf with ⟨hf,hz⟩ | ⟨hf,_⟩
  ·exact .inl ⟨(Az hf).1,sub.free hz⟩
  ·have e:ow' i=ow i:=R'.pin i hf
   rw [e] at h
   exact (R.own i a h).2.1
 ·have e:ow' i=ow i:=R'.pin i (A_ h)
  rw [e]
  exact R.pin i h
 ·obtain ⟨g1,g2,g3⟩:=R'.nt i a h
  rcases g3 with ⟨z,hz⟩ | z
  ·exact ⟨g1,g2,.inl ⟨xO.mp z,sub.free hz⟩⟩
  ·exact ⟨g1,g2,.inr (Ba.mp z)⟩
 ·have e:ow'.n i=ow.n i:=R'.np i (Ba.mpr h)
  rw [e]
  exact R.np i h
theorem mF {tg iter:Expr} {L:List Nat} {T:List Nat} {fi:FA} {g:FG} (hp:PassesOwn (model X.prog X.w) X.A X.env X.xe) (hc:X.calm=true) (hi:DI X fl L tg iter fi) (hg:DG X (lock L fl) T tg g) (hb:DSs X (lock L fl) body fs)
 (hs:∀ x,foldedSetIterable iter X.env x=pure x:=by intro _;rfl):DS1 X fl (.For tg iter body [] pos) (ou fi g fs):=PS.imp (MP hp hc hi hg hb hs) fun Dn σ H h=>by
 obtain ⟨G,ow,δ,o,R0,hf,q⟩:=h
 obtain ⟨l,e1,e2⟩:=bind1 hf
 refine ⟨G,ow,δ,l,R0,e1,fun J H1 s wk=>?_⟩
 have R1:=R0.grow s
 have RL:=R1.lock L
 refine ⟨fun i m σ' H'=>m=l.length - i∧∃ ow' δ',Rel X.K (lock L fl) (ghL (lock L fl) G ow H1) ow' σ' H' δ'∧jY g fs (l.drop i) δ'=some o,⟨_,rfl,ow,δ,RL,by simpa using e2⟩,?_⟩
 rintro i m σ' H' ⟨rfl,ow',δ',R',hd⟩
 have kept:∀ b o,H1 b=some o→(∀ i,ow i=some b→i ∈ L)→(∀ i,b ∉ ow.n i)→H' b=some o:=fun b o hb hl hn=>R'.s1 b o (by
  rw [oA]
  ·exact hb
  ·rintro (⟨j,e,hj⟩ | ⟨j,e,_⟩)
   ·exact (Az hj).2 (hl j e)
   ·exact hn j e)
 obtain ⟨w1,w2⟩:=wk H' kept i
 by_cases hlt:i < l.length
 ·have hdrop:l.drop i=l[i] :: l.drop (i + 1):=mJ hlt
  rw [hdrop,jY] at hd
  obtain ⟨δ1,e3,hd⟩:=bind1 hd
  obtain ⟨o1,e4,hd⟩:=bind1 hd
  obtain ⟨go,yl⟩:=w1 l[i] (aO hlt)
  refine .inr ⟨go,fun σ' H'=>∃ ow' δ',Rel X.K (lock L fl) (ghL (lock L fl) G ow H1) ow' σ' H' δ'∧jY g fs (l.drop (i + 1)) δ'=some o,fun σ2 H2 ⟨ow2,δ2,R2,h2⟩=>⟨l.length - (i + 1),by omega,rfl,ow2,δ2,R2,h2⟩,fun x H3 hy=>?_⟩
  obtain ⟨s3,r3⟩:=yl x H3 hy
  have sub:∀ b,okA ow b∧H1 b ≠ none→okA ow' b:=fun b z=>by
   obtain ⟨z1,z2⟩:=z
   refine ⟨fun j e=>?_,fun j e=>?_⟩
   ·rcases (R'.own j b e).2.1 with ⟨_,hz⟩ | ⟨hz,_⟩
    ·have:(ghL (lock L fl) G ow H1).HF b=H1 b:=oA (by rintro (⟨j',e',_⟩ | ⟨j',e',_⟩);exact z1.1 j' e';exact z1.2 j' e')
     rw [this] at hz
     exact z2 hz
    ·have e':ow' j=ow j:=R'.pin j hz
     rw [e'] at e
     exact z1.1 j e
   ·rcases (R'.nt j b e).2.2 with ⟨_,hz⟩ | w
    ·have:(ghL (lock L fl) G ow H1).HF b=H1 b:=oA (by rintro (⟨j',e',_⟩ | ⟨j',e',_⟩);exact z1.1 j' e';exact z1.2 j' e')
     rw [this] at hz
     exact z2 hz
    ·have e':ow'.n j=ow.n j:=R'.np j w
     rw [e'] at e
     exact z1.2 j e
  refine ⟨_,ow',δ',_,δ1,R'.grow s3,r3.imp sub (fun z=>z),e3,fun σ4 R4 _=>⟨_,ow',δ1,o1,R4,e4,?_⟩⟩
  ·cases o1 with
   | nx δ2=>exact fun ow2 σ2 H2 R2=>⟨ow2,δ2,R2,hd⟩
   | ct δ2=>exact fun ow2 σ2 H2 R2=>⟨ow2,δ2,R2,hd⟩
   | bk δ2=>cases hd;exact fun ow2 σ2 H2 R2=>q ow2 σ2 H2 (R1.unlock R2)
   | rt d=>cases hd;exact q
   | ex c f v=>cases hd;exact q
 ·have e:l.drop i=[]:=nW (by omega)
  rw [e,jY] at hd
  cases hd
  exact .inl ⟨w2 (by omega),q ow' σ' H' (R1.unlock R')⟩
theorem zf (hp:PassesOwn (model X.prog X.w) X.A X.env X.xe) (hc:DT X fl c ft) (hb:DSs X fl body fs):DS1 X fl (.While c body [] pos) (p7 ft fs):=PS.imp (FJ hp hc hb) fun Dn σ H h=>by
 obtain ⟨G,ow,δ,o,R0,hf,q⟩:=h
 obtain ⟨n,hn⟩:=Ar hf
 refine ⟨fun m σ' H'=>∃ ow' δ',Rel X.K fl G ow' σ' H' δ'∧fJ ft fs m δ'=some o,⟨n,ow,δ,R0,hn⟩,?_⟩
 rintro m σ' H' ⟨ow',δ',R',hw⟩
 cases m with
 | zero=>simp [fJ] at hw
 | succ m =>
  rw [fJ] at hw
  obtain ⟨t,e1,hw⟩:=bind1 hw
  refine ⟨G,ow',δ',t,R',e1,fun H1 s=>?_⟩
  cases t with
  | false =>
   rw [if_neg bC] at hw ⊢
   cases hw
   exact q ow' σ' H1 (R'.grow s)
  | true =>
   rw [if_pos rfl] at hw ⊢
   obtain ⟨o1,e2,hw⟩:=bind1 hw
   refine ⟨fun σ2 H2=>∃ ow2 δ2,Rel X.K fl G ow2 σ2 H2 δ2∧fJ ft fs m δ2=some o,fun σ2 H2 ⟨ow2,δ2,R2,h2⟩=>⟨m,kO m,ow2,δ2,R2,h2⟩,G,ow',δ',o1,R'.grow s,e2,?_⟩
   cases o1 with
   | nx δ2=>exact fun ow2 σ2 H2 R2=>⟨ow2,δ2,R2,hw⟩
   | ct δ2=>exact fun ow2 σ2 H2 R2=>⟨ow2,δ2,R2,hw⟩
   | bk δ2=>cases hw;exact q
   | rt d=>cases hw;exact q
   | ex c f v=>cases hw;exact q
end
end D3
namespace D3
open PySem PySem.Spec PyProof.Rows L2 My
noncomputable def notStar:Expr→Bool
 | .Starred _ _=>false
 | _=>true
theorem jy {e:Expr} {es:List Expr} {env:Env} (h:notStar e=true):starEach (e :: es) env=(false,eval e env) :: starEach es env:=by
 cases e <;> first | rfl | cases h
theorem Cu {es:List Expr} {env:Env} {pos:Pos} (h:es.all notStar=true):(backTo pos (starEach es env)).any (·.1)=false:=by
 induction es with
 | nil=>rfl
 | cons e es ih =>
  rw [List.all_cons,aR] at h
  rw [jy h.1]
  have:=ih h.2
  unfold backTo at this ⊢
  rw [bx,List.any_cons,this]
  rfl
noncomputable def isR:Kd→Bool
 | .P=>true
 | .A=>true
 | .R=>true
 | .C=>true
 | _=>false
noncomputable def Gz (H0:Hp) (ow:Ow) (Hb:Hp):Kd→Ok
 | .P=>ok1
 | .A=>okA ow
 | .R=>okN H0
 | _=>okN Hb
noncomputable def Nk:Kd→Bool
 | .P=>true
 | .A=>true
 | _=>false
section
variable {K:PySem.W.Frag} {H0 Hb Hc H:Hp} {ow:Ow} {v:V} {d:D} {k:Kd}
theorem Rs.ra (hk:isR k=true) (h:Rs K H0 ow Hb H k v d):RA K (Gz H0 ow Hb k) (Nk k) H v d:=by
 cases k <;> first | exact h | cases hk
theorem Rs.of_ra (hk:isR k=true) (h:RA K (Gz H0 ow Hb k) (Nk k) H v d):Rs K H0 ow Hb H k v d:=by
 cases k <;> first | exact h | cases hk
theorem Ec (s:Same Hb Hc) (hk:isR k=true):∀ a,Gz H0 ow Hc k a→Gz H0 ow Hb k a:=fun a z=>by
 cases k <;> first | exact z | exact s.free z | cases hk
theorem Rs.of_flat (hf:flat d=true) (h:RA K ok0 false H v d):Rs K H0 ow Hb H k v d:=by
 cases k with
 | P=>exact RA.flat hf h
 | B L=>exact .inl (RA.flat hf h)
 | A=>exact RA.flat hf h
 | R=>exact RA.flat hf h
 | F=>exact .inl ⟨hf,h⟩
 | C=>exact RA.flat hf h
 | FC=>exact .inl ⟨hf,h⟩
 | T =>
  obtain ⟨as,h1,_,h3⟩:=RA.rt h
  cases as with
  | nil=>exact ⟨[],h1,.nil,fun _ z=>by cases z⟩
  | cons a r=>exact (h3 a aN).elim
theorem Rs.back (s:Same Hb Hc) (h:Rs K H0 ow Hc H k v d):Rs K H0 ow Hb H k v d:=by
 cases k with
 | P=>exact h
 | B L=>exact h
 | A=>exact h
 | R=>exact h
 | F =>
  rcases h with h | ⟨a,xs,ds,h1,h2,h3,h4⟩
  ·exact .inl h
  ·exact .inr ⟨a,xs,ds,h1,h2,s.free h3,h4⟩
 | C=>exact RA.imp (fun a z=>s.free z) (fun z=>z) h
 | FC =>
  rcases h with h | ⟨a,xs,ds,h1,h2,h3,h4,h5⟩
  ·exact .inl h
  ·exact .inr ⟨a,xs,ds,h1,h2,s.free h3,h4,h5.imp (fun b z=>⟨s.free z.1,z.2⟩) (fun z=>z)⟩
 | T =>
  obtain ⟨as,h1,h2,h3⟩:=h
  exact ⟨as,h1,h2,fun a z=>s.free (h3 a z)⟩
end
noncomputable def tDB (K:PySem.W.Frag) (fl:List Fl) (k:Kd) (f:FA):TA:=fun σ H Q=>∃ G ow δ ds,Rel K fl G ow σ H δ∧f δ=some ds∧∀ vs H',Same H H'→RAs K (Gz G.H0 ow H k) (Nk k) H' vs ds→Q vs H'
noncomputable abbrev DB (X:Cx) (fl:List Fl) (k:Kd) (es:List Expr) (f:FA):Prop:=PA X es (tDB X.K fl k f)
section
variable {X:Cx} {fl:List Fl} {e a b c:Expr} {es rest:List Expr} {k:Kd} {f fa fb fc:FE} {ft gt:FT} {pos:Pos}
theorem Nm:DB X fl k [] aM:=PA.imp m9 fun σ H Q h=>by
 obtain ⟨G,ow,δ,ds,R,hf,q⟩:=h
 cases hf
 exact q [] H (Same.refl H) .nil
theorem JD {fr:FA} (hk:isR k=true) (h:DE X fl k e f) (hr:DB X fl k es fr) (hs:starEach (e :: es) X.env=(false,eval e X.env) :: starEach es X.env:=by exact jy rfl):DB X fl k (e :: es) (aF f fr):=PA.imp (gU h hr hs) fun σ H Q h=>by
 obtain ⟨G,ow,δ,ds,R,hf,q⟩:=h
 obtain ⟨d,e1,hf⟩:=bind1 hf
 obtain ⟨r,e2,hf⟩:=bind1 hf
 cases hf
 refine ⟨G,ow,δ,d,R,e1,fun v H1 s1 r1=>⟨G,ow,δ,r,R.grow s1,e2,fun vs H2 s2 r2=>?_⟩⟩
 exact q _ H2 (s1.trans s2) (.cons ((r1.ra hk).same s2) (r2.imp (Ec s1 hk) (fun z=>z)))
theorem nO (h:DB X fl .P es fa'):DA X fl es fa':=PA.imp h fun σ H Q h=>by
 obtain ⟨G,ow,δ,ds,R,hf,q⟩:=h
 exact ⟨G,ow,δ,ds,R,hf,fun vs H' s r=>q vs H' s r⟩
theorem nD {x1} {fa:FA} (hk:isR k=true) (h:DB X fl k es fa):DE X fl k (.Tuple es x1 pos) (dTup fa):=PE.imp (Gb h) fun σ H Q h=>by
 obtain ⟨G,ow,δ,d,R,hf,q⟩:=h
 obtain ⟨l,e1,e2⟩:=bind1 hf
 by_cases z:l.length ≤ sizeLine
 ·rw [if_pos z] at e2
  cases e2
  refine ⟨G,ow,δ,l,R,e1,fun vs H' s r=>⟨by rw [r.length];exact z,fun p hp=>?_⟩⟩
  have g:=gW hp (.tup vs)
  exact q _ _ (s.trans g) (Rs.of_ra hk (.tup fH (r.same g)))
 ·rw [if_neg z] at e2
  cases e2
theorem xP {fa:FA} (h:DB X fl .A es fa):DE X fl .F (.List es pos) (dR fa):=PE.imp (Ai h) fun σ H Q h=>by
 obtain ⟨G,ow,δ,d,R,hf,q⟩:=h
 obtain ⟨l,e1,e2⟩:=bind1 hf
 by_cases z:l.length ≤ sizeLine
 ·rw [if_pos z] at e2
  cases e2
  refine ⟨G,ow,δ,l,R,e1,fun vs H' s r=>⟨by rw [r.length];exact z,fun p hp=>?_⟩⟩
  have g:=gW hp (.lst vs)
  exact q _ _ (s.trans g) (.inr ⟨p,vs,l,rfl,rfl,s.free hp,fH,(r.track.imp (fun b w=>⟨w.1,fun e=>w.2 (e ▸ hp)⟩) (fun z=>z)).same g⟩)
 ·rw [if_neg z] at e2
  cases e2
theorem fZ {fa:FA} (h:DB X fl .C es fa):DE X fl .FC (.List es pos) (dR fa):=PE.imp (Ai h) fun σ H Q h=>by
 obtain ⟨G,ow,δ,d,R,hf,q⟩:=h
 obtain ⟨l,e1,e2⟩:=bind1 hf
 by_cases z:l.length ≤ sizeLine
 ·rw [if_pos z] at e2
  cases e2
  refine ⟨G,ow,δ,l,R,e1,fun vs H' s r=>⟨by rw [r.length];exact z,fun p hp=>?_⟩⟩
  have g:=gW hp (.lst vs)
  exact q _ _ (s.trans g) (.inr ⟨p,vs,l,rfl,rfl,s.free hp,fH,(r.track.imp (fun b w=>⟨w.1,fun e=>w.2 (e ▸ hp)⟩) (fun z=>z)).same g⟩)
 ·rw [if_neg z] at e2
  cases e2
theorem RAs.at {K:PySem.W.Frag} {ok:Ok} {pl:Bool} {H:Hp} {vs:List V} {l:List D} {i:Int} {d:D} (r:RAs K ok pl H vs l) (h:pAt l i=some d):∃ v,atI vs i=some v∧RA K ok pl H v d:=by
 unfold pAt at h
 unfold atI
 obtain ⟨j,e1,e2⟩:=bind1 h
 obtain ⟨y,e3,ry⟩:=r.get e2
 exact ⟨y,by rw [r.length,show ixN l.length i=some j from e1];exact e3,ry⟩
theorem QW {L:List Nat} (ha:DE X fl (.B L) a fa) (hb:DE X fl .P b fb) (hs:qz b):DE X fl .A (.Subscript a b pos) (dOp gIx fa fb):=PE.imp (Ge Ak ha hb hs) fun σ H Q h=>by
 obtain ⟨G,ow,δ,d,R,hf,q⟩:=h
 obtain ⟨x,y,e1,e2,e3⟩:=yZ hf
 refine ⟨G,ow,δ,x,R,e1,fun v H1 s1 r1=>⟨G,ow,δ,y,R.grow s1,e2,fun u H2 s2 r2=>?_⟩⟩
 unfold gIx at e3
 split at e3
 ·next l i =>
  obtain rfl:=RA.intE r2
  rcases r1 with r1 | ⟨i',_,p,xs,ds,ho,rfl,ez,hx,hr⟩
  ·obtain ⟨p,xs,rfl,hx,hr⟩:=RA.lstE (RA.same s2 r1)
   obtain ⟨z,ez,rz⟩:=hr.at e3
   exact .inl ⟨p,xs,i,z,rfl,rfl,hx,ez,q z H2 (s1.trans s2) rz⟩
  ·cases ez
   obtain ⟨z,ez,rz⟩:=(hr.same s2).at e3
   exact .inl ⟨p,xs,i,z,rfl,rfl,SqL.of (s2 _ _ hx),ez,q z H2 (s1.trans s2) rz⟩
 ·next l i =>
  obtain rfl:=RA.intE r2
  rcases r1 with r1 | ⟨i',_,p,xs,ds,ho,rfl,ez,hx,hr⟩
  ·obtain ⟨p,xs,rfl,hx,hr⟩:=RA.tupE (RA.same s2 r1)
   obtain ⟨z,ez,rz⟩:=hr.at e3
   exact .inr (.inl ⟨p,xs,i,z,rfl,rfl,hx,ez,q z H2 (s1.trans s2) rz⟩)
  ·cases ez
 ·cases e3
theorem oE {op:BoolOp} (h:DE X fl k a f):DE X fl k (.BoolOp op [a] pos) f:=Mu h
theorem k_ (h1:DE X fl .P a fa) (h2:DE X fl k (.BoolOp .And (b :: rest) pos) fb):DE X fl k (.BoolOp .And (a :: b :: rest) pos) (lu fa fb):=PE.imp (Mv h1 h2) fun σ H Q h=>by
 obtain ⟨G,ow,δ,d,R,hf,q⟩:=h
 obtain ⟨x,e1,e2⟩:=bind1 hf
 refine ⟨G,ow,δ,x,R,e1,fun v H1 s1 r1=>?_⟩
 split at e2
 ·obtain rfl:=RA.blE r1
  exact ⟨true,rfl,xg ⟨G,ow,δ,d,R.grow s1,e2,fun u H2 s2 r2=>q u H2 (s1.trans s2) (r2.back s1)⟩⟩
 ·obtain rfl:=RA.blE r1
  cases e2
  exact ⟨false,rfl,wZ (q _ H1 s1 (Rs.of_flat rfl (.bl _)))⟩
 ·cases e2
theorem GC (h1:DE X fl .P a fa):DE X fl .FC (.UnaryOp .Not a pos) (Gr fa):=PE.imp (Mw h1) fun σ H Q h=>by
 obtain ⟨G,ow,δ,d,R,hf,q⟩:=h
 obtain ⟨x,e1,e2⟩:=bind1 hf
 refine ⟨G,ow,δ,x,R,e1,fun v H1 s1 r1=>?_⟩
 split at e2
 ·next c =>
  obtain rfl:=RA.blE r1
  cases e2
  exact ⟨c,rfl,q _ H1 s1 (Rs.of_flat rfl (.bl _))⟩
 ·cases e2
theorem jt (h:DT X fl a ft):DT X fl (.UnaryOp .Not a pos) (iI ft):=PT.imp (Mt h) fun σ H Q h=>by
 obtain ⟨G,ow,δ,t,R,hf,q⟩:=h
 unfold iI at hf
 cases e:ft δ with
 | none=>rw [e] at hf;cases hf
 | some x =>
  rw [e] at hf
  cases hf
  exact ⟨G,ow,δ,x,R,e,fun H' s=>q H' s⟩
theorem kh (h:DT X fl a ft):DW X fl (.BoolOp .And [a] pos) ft:=Jb h
theorem kj (h:DT X fl a ft):DW X fl (.BoolOp .Or [a] pos) ft:=Mr h
theorem mG (h1:DT X fl a ft) (h2:DW X fl (.BoolOp .And (b :: rest) pos) gt):DW X fl (.BoolOp .And (a :: b :: rest) pos) (jf ft gt):=PW.imp (Ms h1 h2) fun σ H Q h=>by
 obtain ⟨G,ow,δ,t,R,hf,q⟩:=h
 obtain ⟨x,e1,e2⟩:=bind1 hf
 refine ⟨G,ow,δ,x,R,e1,fun H1 s1=>?_⟩
 cases x with
 | true=>exact xg ⟨G,ow,δ,t,R.grow s1,e2,fun H2 s2=>q H2 (s1.trans s2)⟩
 | false=>cases e2;exact wZ (q H1 s1)
theorem kJ (h1:DT X fl a ft) (h2:DW X fl (.BoolOp .Or (b :: rest) pos) gt):DW X fl (.BoolOp .Or (a :: b :: rest) pos) (tOr ft gt):=PW.imp (Ql h1 h2) fun σ H Q h=>by
 obtain ⟨G,ow,δ,t,R,hf,q⟩:=h
 obtain ⟨x,e1,e2⟩:=bind1 hf
 refine ⟨G,ow,δ,x,R,e1,fun H1 s1=>?_⟩
 cases x with
 | true=>cases e2;exact xg (q H1 s1)
 | false=>exact wZ ⟨G,ow,δ,t,R.grow s1,e2,fun H2 s2=>q H2 (s1.trans s2)⟩
theorem lE (h:DW X fl a ft):DT X fl a ft:=PW.pt h
theorem qQ {op op':CmpOp} {r r':R2} {g g':D→D→Option D} (ho:OpR X (compareOp op) r) (ho':OpR X (compareOp op') r') (hb:BrO X.K r g) (hb':BrO X.K r' g') (h1:DE X fl .P a fa) (h2:DE X fl .P b fb) (h3:DE X fl .P c fc)
 (hm:lastMarks [op,op'] [b,c]=false:=by with_unfolding_all rfl):DE X fl .FC (.Compare a [op,op'] [b,c] pos) (iG g g' fa fb fc):=PE.imp (FZ ho ho' h1 h2 h3 hm) fun σ H Q h=>by
 obtain ⟨G,ow,δ,d,R,hf,q⟩:=h
 obtain ⟨x,e1,hf⟩:=bind1 hf
 obtain ⟨y,e2,hf⟩:=bind1 hf
 obtain ⟨z,e3,hf⟩:=bind1 hf
 refine ⟨G,ow,δ,x,R,e1,fun v H1 s1 r1=>⟨G,ow,δ,y,R.grow s1,e2,fun u H2 s2 r2=>?_⟩⟩
 refine hb H2 v u x y z _ (RA.same s2 r1) r2 e3 fun zv hz rz=>?_
 split at hf
 ·obtain rfl:=rz.blE
  obtain ⟨w,e4,e5⟩:=bind1 hf
  refine ⟨true,rfl,xg ⟨G,ow,δ,w,R.grow (s1.trans s2),e4,fun wv H3 s3 r3=>?_⟩⟩
  exact hb' H3 u wv y w d Q (RA.same s3 r2) r3 e5 fun z hz rz=>q z H3 (s1.trans (s2.trans s3)) (.inl ⟨hz,rz⟩)
 ·obtain rfl:=rz.blE
  cases hf
  exact ⟨false,rfl,wZ (q _ H2 (s1.trans s2) (.inl ⟨rfl,.bl _⟩))⟩
 ·cases hf
theorem Ed {op op' op'':CmpOp} {r r' r'':R2} {g g' g'':D→D→Option D} {d:Expr} {fd:FE} (ho:OpR X (compareOp op) r) (ho':OpR X (compareOp op') r') (ho'':OpR X (compareOp op'') r'') (hb:BrO X.K r g) (hb':BrO X.K r' g') (hb'':BrO X.K r'' g'') (h1:DE X fl .P a fa) (h2:DE X fl .P b fb) (h3:DE X fl .P c fc) (h4:DE X fl .P d fd)
 (hm:lastMarks [op,op',op''] [b,c,d]=false:=by with_unfolding_all rfl):DE X fl .FC (.Compare a [op,op',op''] [b,c,d] pos) (tV g g' g'' fa fb fc fd):=PE.imp (Ea ho ho' ho'' h1 h2 h3 h4 hm) fun σ H Q h=>by
 obtain ⟨G,ow,δ,dd,R,hf,q⟩:=h
 obtain ⟨x,e1,hf⟩:=bind1 hf
 obtain ⟨y,e2,hf⟩:=bind1 hf
 obtain ⟨z,e3,hf⟩:=bind1 hf
 refine ⟨G,ow,δ,x,R,e1,fun v H1 s1 r1=>⟨G,ow,δ,y,R.grow s1,e2,fun u H2 s2 r2=>?_⟩⟩
 refine hb H2 v u x y z _ (RA.same s2 r1) r2 e3 fun zv hz rz=>?_
 split at hf
 ·obtain rfl:=rz.blE
  obtain ⟨w,e4,hf⟩:=bind1 hf
  obtain ⟨z',e5,hf⟩:=bind1 hf
  refine ⟨true,rfl,xg ⟨G,ow,δ,w,R.grow (s1.trans s2),e4,fun wv H3 s3 r3=>?_⟩⟩
  refine hb' H3 u wv y w z' _ (RA.same s3 r2) r3 e5 fun zv' hz' rz'=>?_
  split at hf
  ·obtain rfl:=rz'.blE
   obtain ⟨t,e6,e7⟩:=bind1 hf
   refine ⟨true,rfl,xg ⟨G,ow,δ,t,R.grow (s1.trans (s2.trans s3)),e6,fun tv H4 s4 r4=>?_⟩⟩
   exact hb'' H4 wv tv w t dd Q (RA.same s4 r3) r4 e7 fun z hz rz=>q z H4 (s1.trans (s2.trans (s3.trans s4))) (.inl ⟨hz,rz⟩)
  ·obtain rfl:=rz'.blE
   cases hf
   exact ⟨false,rfl,wZ (q _ H3 (s1.trans (s2.trans s3)) (.inl ⟨rfl,.bl _⟩))⟩
  ·cases hf
 ·obtain rfl:=rz.blE
  cases hf
  exact ⟨false,rfl,wZ (q _ H2 (s1.trans s2) (.inl ⟨rfl,.bl _⟩))⟩
 ·cases hf
theorem GD {K:PySem.W.Frag} {ok:Ok} {pl:Bool} {H:Hp} {v:V} {d:D} (r:RA K ok pl H v d):decide (v = .non)=isNone d:=by
 cases r <;> rfl
noncomputable def BrC (K:PySem.W.Frag) (r:List V→Hp→VK→Prop) (g:List D→Option D):Prop:=∀ (H:Hp) (xs:List V) (ds:List D) (d:D) (Q:VK),RAs K ok1 true H xs ds→g ds=some d→(∀ v,flat d=true→RA K ok0 false H v d→Q v H)→r xs H Q
theorem cX {id:String} {r:List V→Hp→VK→Prop} {g:List D→Option D} {x:Str} {p:Pos} {fa:FA} (hc:pN X (.builtin id) r) (hb:BrC X.K r g) (hg:Gl X x) (hm:X.mg x=none) (hv:bootBuiltins x=some (.builtin id)) (ha:DB X fl .P (e :: es) fa) (hn:x ≠ "__name__" := by decide) (hdb:(x == ("__debug__" : Str))=false:=by decide)
 (he:starEach (e :: es) X.env=(false,eval e X.env) :: starEach es X.env:=by exact jy rfl) (hpl:(backTo pos (starEach es X.env)).any (·.1)=false:=by exact Cu rfl):DE X fl .FC (.Call (.Name x p) (e :: es) [] pos) (dCall g fa) :=
 PE.imp (yO hc hg hm hv ha hn hdb he hpl) fun σ H Q h=>by
 obtain ⟨G,ow,δ,d,R,hf,q⟩:=h
 obtain ⟨ds,e1,e2⟩:=bind1 hf
 exact ⟨G,ow,δ,ds,R,e1,fun vs H' s r'=>hb H' vs ds d Q r' e2 fun v hv rv=>q v H' s (.inl ⟨hv,rv⟩)⟩
theorem iM {K:PySem.W.Frag}:BrC K (fun xs H Q=>∃ p ys,xs=[.ref p]∧(SqL K H p ys∨SqT K H p ys)∧Q (.int ys.length) H) iW:=by
 intro H xs ds d Q r e q
 unfold iW at e
 split at e
 ·next l =>
  cases e
  cases r with
  | cons r1 r2 =>
   cases r2
   obtain ⟨a,ys,rfl,hx,hr⟩:=r1.lstE
   refine ⟨a,ys,rfl,.inl hx,?_⟩
   rw [hr.length]
   exact q _ rfl (.int _)
 ·next l =>
  cases e
  cases r with
  | cons r1 r2 =>
   cases r2
   obtain ⟨a,ys,rfl,hx,hr⟩:=r1.tupE
   refine ⟨a,ys,rfl,.inr hx,?_⟩
   rw [hr.length]
   exact q _ rfl (.int _)
 ·cases e
theorem Np {K:PySem.W.Frag}:BrC K (fun xs H Q=>∃ i j,xs=[.int i,.int j]∧Q (.int (if j > i then j else i)) H) yV:=by
 intro H xs ds d Q r e q
 unfold yV at e
 split at e
 ·cases e
  cases r with
  | cons r1 r2 =>
   cases r2 with
   | cons r2 r3 =>
    cases r3
    obtain rfl:=r1.intE
    obtain rfl:=r2.intE
    exact ⟨_,_,rfl,q _ rfl (.int _)⟩
 ·cases e
theorem Nq {K:PySem.W.Frag}:BrC K (fun xs H Q=>∃ i j,xs=[.int i,.int j]∧Q (.int (if j < i then j else i)) H) uF:=by
 intro H xs ds d Q r e q
 unfold uF at e
 split at e
 ·cases e
  cases r with
  | cons r1 r2 =>
   cases r2 with
   | cons r2 r3 =>
    cases r3
    obtain rfl:=r1.intE
    obtain rfl:=r2.intE
    exact ⟨_,_,rfl,q _ rfl (.int _)⟩
 ·cases e
theorem JF (d:D):tyD d = "NoneType" ∨ tyD d = "bool" ∨ tyD d = "int" ∨ tyD d = "str" ∨ tyD d = "list" ∨ tyD d = "tuple" ∨ tyD d = "dict" := by
 cases d <;> simp [tyD]
noncomputable def Tj (K:PySem.W.Frag):List V→Hp→VK→Prop:=fun xs H Q=>∃ x c d,xs=[x,.ty c]∧(c = "int" ∨ c = "bool" ∨ c = "tuple" ∨ c = "list" ∨ c = "str")∧RA K ok1 true H x d∧Q (.bl (isT c (tyD d))) H
theorem GF:pN X (.builtin "isinstance") (Tj X.K):=by
 intro pins s σ H xs us Q I r h
 obtain ⟨x,c,d,rfl,hc,ra,q⟩:=h
 obtain ⟨u,w',rfl,rx,rc⟩:=vals2 r
 cases rc
 have kn:=Nb (K:=X.K) hc (JF d)
 have fin:∀ tk,EP X pins σ Q (.bool (isT c (tyD d))) { s with toks:=tk }:=fun tk=>⟨.bl _,H,I.tok _,rfl,q⟩
 cases ra with
 | non=>cases (show u=Value.none from rx);exact PySem.W.kia_one PySem.W.kitx_none I.kIn True.intro kn (fun z=>nomatch z) fin
 | bl b=>cases (show u=Value.bool b from rx);exact PySem.W.kia_one PySem.W.kitx_bool I.kIn True.intro kn (fun z=>nomatch z) fin
 | int i=>obtain ⟨t,z⟩:=(show ∃ t,u=Value.int i t from rx);cases z;exact PySem.W.kia_one PySem.W.kitx_int I.kIn True.intro kn (fun z=>nomatch z) fin
 | str y=>obtain ⟨t,z⟩:=(show ∃ t,u=Value.str y t from rx);cases z;exact PySem.W.kia_one PySem.W.kitx_str I.kIn True.intro kn (fun z=>nomatch z) fin
 | @lst a xs ds e k q' =>
  cases (show u=Value.ref a from rx)
  obtain ⟨its,_,⟨o,n,e1,e2,_⟩,_⟩:=I.list (SqL.of e)
  exact PySem.W.kia_one PySem.W.kitx_list I.kIn ⟨_,e1,e2⟩ kn (fun z=>nomatch z) fin
 | @lsk a xs ds e k q' =>
  cases (show u=Value.ref a from rx)
  obtain ⟨its,_,⟨o,n,e1,e2,_⟩,_⟩:=I.list e.sq
  exact PySem.W.kia_one PySem.W.kitx_list I.kIn ⟨_,e1,e2⟩ kn (fun z=>nomatch z) fin
 | @tup a xs ds e q' =>
  cases (show u=Value.ref a from rx)
  obtain ⟨its,_,⟨o,e1,e2,_⟩,_⟩:=I.tuple e.sq
  exact PySem.W.kia_one PySem.W.kitx_tuple I.kIn ⟨_,e1,e2⟩ kn (fun z=>nomatch z) fin
 | @dic a u0 kvs e g k =>
  rcases g.or with ⟨ks,z⟩ | ⟨ks,z⟩
  ·rw [z] at e;exact vO I rx (TyOf.dK e) kn fin
  ·rw [z] at e;exact vO I rx (TyOf.dT e) kn fin
 | @dik a u0 kvs ob e g k =>
  cases (show u=Value.ref a from rx)
  have ob:=(show jV X.prog X.w H s.heap a u0 from (show L2.Rd H a u0 from .inr ⟨_,e⟩).ok I.hok)
  rcases g.or with ⟨ks,z⟩ | ⟨ks,z⟩
  ·rw [z] at ob
   obtain ⟨_,_,vs,_,dd⟩:=ob
   obtain ⟨o1,_,_,h1,h2,_⟩:=dd
   exact PySem.W.kia_one PySem.W.kitx_dict I.kIn ⟨_,h1,h2.1⟩ kn (fun z=>nomatch z) fin
  ·rw [z] at ob
   obtain ⟨_,_,xs,_,o1,_,_,h1,h2,_⟩:=ob
   exact PySem.W.kia_one PySem.W.kitx_dict I.kIn ⟨_,h1,h2.1⟩ kn (fun z=>nomatch z) fin
theorem mH {T:String} {x:Str} {p p':Pos} (hc:T = "int" ∨ T = "bool" ∨ T = "tuple" ∨ T = "list" ∨ T = "str") (h:DE X fl .P a f) (hg:Gl X "isinstance") (hm:X.mg "isinstance" = none) (hg':Gl X x) (hm':X.mg x=none) (hv':bootBuiltins x=some (.type T))
 (hn':x ≠ "__name__" := by decide) (hd':(x == ("__debug__" : Str))=false:=by decide)
 (he:starEach [a,.Name x p'] X.env=(false,eval a X.env) :: starEach [.Name x p'] X.env:=by rfl) (he2:starEach [.Name x p'] X.env=(false,eval (.Name x p') X.env) :: starEach [] X.env:=by rfl) (hpl:(backTo pos (starEach [.Name x p'] X.env)).any (·.1)=false:=by rfl) :
 DE X fl .FC (.Call (.Name "isinstance" p) [a,.Name x p'] [] pos) (dUn (gIs T) f) :=
 PE.imp (yO GF hg hm boot_isinstance (gU h (gU (I_ (v:=.ty T) hg' hm' hv' rfl hn' hd') m9 he2) he) (by decide) (by decide) he hpl) fun σ H Q h=>by
 obtain ⟨G,ow,δ,d,R,hf,q⟩:=h
 obtain ⟨x,e1,e2⟩:=bind1 hf
 cases e2
 exact ⟨G,ow,δ,x,R,e1,fun v H1 s1 r1=>⟨v,T,x,rfl,hc,r1,q _ H1 s1 (.inl ⟨rfl,.bl _⟩)⟩⟩
theorem Nt (h:DE X fl .P a f):DE X fl .FC (.UnaryOp .USub a pos) (dUn Jt f):=PE.imp (Qx M6 h) fun σ H Q h=>by
 obtain ⟨G,ow,δ,d,R,hf,q⟩:=h
 obtain ⟨x,e1,e2⟩:=bind1 hf
 refine ⟨G,ow,δ,x,R,e1,fun v H1 s1 r1=>?_⟩
 unfold Jt at e2
 split at e2
 ·cases e2
  obtain rfl:=RA.intE r1
  exact ⟨_,rfl,q _ H1 s1 (.inl ⟨rfl,.int _⟩)⟩
 ·cases e2
end
noncomputable def spD (K:PySem.W.Frag) (F:List D→Option D):Sp:=fun vs H Q _=>∃ ds d,(Tb H∧RAs K ok1 true H vs ds)∧F ds=some d∧∀ v H',Same H H'→RA K (okN H) false H' v d→Q v H'
section
variable {P:Program} {w:World} {K:PySem.W.Frag} {mg:Str→Option Value} {base:Heap} {x:Str} {ps N:List Str} {st:Stmt} {k n:Nat} {fs:FS} {fl:List Fl}
theorem rQ {vs:List V} {ds:List D} {H:Hp} (p:Nat) (hp:∀ i,i < p→fl[i]? = some .A) (hl:ds.length=p) (hN:p ≤ N.length) (r':Tb H∧RAs K ok1 true H vs ds) :
 Rel K fl ⟨H,H,fun _=>none,fun _=>[],r'.1⟩ ow0 (L2.start N vs) H (ds.map (fun d=>some (.d d))++aK (N.length - p) none):=by
 have r:=r'.2
 have hv:vs.length=p:=by rw [r.length];exact hl
 have get:∀ i d,(ds.map (fun d=>some (U.d d))++aK (N.length - p) none)[i]? = some (some (.d d))→i < p∧ds[i]? = some d:=fun i d h=>by
  by_cases hi:i < p
  ·rw [cj (by rw [aU,hl];exact hi),bf] at h
   cases e:ds[i]? with
   | none=>rw [e] at h;cases h
   | some z=>rw [e] at h;cases h;exact ⟨hi,rfl⟩
  ·rw [cR (by rw [aU,hl];omega),cT] at h
   split at h <;> cases h
 refine ⟨Same.refl H,Same.refl H,?_,fun i a h=>(by cases h),fun i j a h=>(by cases h),fun i h=>rfl,fun i d h _ _=>?_,fun i d h _ h2 _=>?_,fun i a h=>(by cases h),fun i j a h=>(by cases h),fun i j a h=>(by cases h),fun i h=>rfl,fun i d hn h=>?_⟩
 ·unfold L2.start
  simp only [cI,aU,aQ,hv,hl]
 ·obtain ⟨hi,e⟩:=get i d h
  obtain ⟨v,e1,e2⟩:=r.get e
  refine ⟨v,?_,e2.imp (fun _ _=>⟨fun i z=>(by cases z),fun i z=>(by cases z)⟩) (fun z=>z)⟩
  unfold L2.start
  rw [cj (by rw [aU,hv];exact hi),bf,e1]
  rfl
 ·exact absurd (hp i (get i d h).1) h2
 ·rw [hp i (get i d h).1] at hn
  cases hn
end
section
variable {X:Cx} {fl:List Fl} {e:Expr} {es:List Expr} {pos p:Pos} {x:Str} {ps:List Str} {n:Nat} {F:List D→Option D} {fa:FA}
theorem bF (h:Has X.prog X.w X.K X.mg X.base n x ps (spD X.K F)) (hr:Room n X.A) (ha:DB X fl .P (e :: es) fa) (hg:Gl X x:=by rfl) (hdb:(x == ("__debug__" : Str))=false:=by decide)
 (he:starEach (e :: es) X.env=(false,eval e X.env) :: starEach es X.env:=by exact jy rfl) (hpl:(backTo pos (starEach es X.env)).any (·.1)=false:=by exact Cu rfl) :
 DE X fl .C (.Call (.Name x p) (e :: es) [] pos) (dCall F fa):=PE.imp (uw h hr ha hg hdb he hpl) fun σ H Q h=>by
 obtain ⟨G,ow,δ,d,R,hf,q⟩:=h
 obtain ⟨ds,e1,e2⟩:=bind1 hf
 refine ⟨G,ow,δ,ds,R,e1,fun vs H' s r=>?_⟩
 show spD X.K F (vs++[]) H' Q E0
 rw [i_]
 exact ⟨ds,d,⟨R.tb.same s,r⟩,e2,fun v H2 s2 r2=>q v H2 (s.trans s2) (RA.imp (fun a z=>s.free z) (fun z=>z) r2)⟩
end
end D3
namespace D3
open PySem PySem.Spec PyProof.Rows L2 My
section
variable {X:Cx} {fl fl':List Fl} {e a b c elt tg iter:Expr} {es ifs:List Expr} {k:Kd} {f fa fb fc:FE} {ft gt:FT} {pos:Pos} {scope:Scope} {ix L TT:List Nat} {fi:FA} {g:FG}
theorem f9:PTs X [] (tDT X.K fl D3.gq):=fun pins s σ H Q I h=>by
 obtain ⟨G,ow,δ,b,R,hf,q⟩:=h
 cases hf
 exact Jq pins s σ H Q I (q H (Same.refl H))
theorem JG {K:PySem.W.Frag} {G:Gh} {ow:Ow} {σ:St} {H H1:Hp} {δ:DS} (t:Nat) (ix:List Nat) (hfl:∀ i,i < t + ix.length→fl'[i]? = some .A) (R:Rel K fl G ow σ H δ) (s:Same H H1) :
 Rel K fl' ⟨H,H,fun _=>none,fun _=>[],R.tb⟩ ow0 (vC t ix σ) H1 (jg t ix δ):=by
 have get:∀ i d,(jg t ix δ)[i]? = some (some (.d d))→i < t + ix.length∧∃ j,ix[i - t]? = some j∧t ≤ i∧δ[j]? = some (some (.d d)):=fun i d h=>by
  unfold jg at h
  by_cases hi:i < t
  ·rw [cj (by rw [aQ];exact hi),cT,if_pos hi] at h
   cases h
  ·rw [cR (by rw [aQ];omega),aQ,bf] at h
   cases e:ix[i - t]? with
   | none=>rw [e] at h;cases h
   | some j =>
    rw [e] at h
    have hl:i - t < ix.length:=by
     rcases qp (i - t) ix.length with z | z
     ·exact z
     ·rw [bK z] at e;cases e
    refine ⟨by omega,j,rfl,by omega,?_⟩
    have h':(δ[j]?).getD none=some (.d d):=by simpa using h
    cases q:δ[j]? with
    | none=>rw [q] at h';cases h'
    | some o=>rw [q] at h';simp at h';rw [h']
 refine ⟨Same.refl H,s,?_,fun i a h=>(by cases h),fun i j a h=>(by cases h),fun i h=>rfl,fun i d h _ _=>?_,fun i d h _ h2 _=>absurd (hfl i (get i d h).1) h2,fun i a h=>(by cases h),fun i j a h=>(by cases h),fun i j a h=>(by cases h),fun i h=>rfl,fun i d hn h=>(by rw [hfl i (get i d h).1] at hn;cases hn)⟩
 ·unfold vC jg
  simp
 ·obtain ⟨hi,j,ej,ht,ed⟩:=get i d h
  have key:∃ v,σ[j]? = some (some v)∧RA K ok1 true H v d:=by
   cases hN:isN fl[j]? with
   | true =>
    obtain ⟨v,h1,h2,_⟩:=R.nr j d hN ed
    exact ⟨v,h1,h2.ra fun _ _=>trivial⟩
   | false =>
   cases ho:ow j with
   | none =>
    obtain ⟨v,h1,h2⟩:=R.dat j d ed hN ho
    exact ⟨v,h1,h2.imp (fun _ _=>trivial) (fun z=>z)⟩
   | some a =>
    obtain ⟨_,_,xs,ds,h1,h2,h3,h4⟩:=R.own j a ho
    rw [ed] at h4
    cases h4
    exact ⟨_,h1,.lst h2 trivial (h3.imp (fun _ _=>trivial) (fun z=>z))⟩
  obtain ⟨v,h1,h2⟩:=key
  refine ⟨v,?_,(h2.imp (fun _ _=>⟨fun i z=>(by cases z),fun i z=>(by cases z)⟩) (fun z=>z)).same s⟩
  unfold vC
  rw [cR (by rw [aQ];omega),aQ,bf,ej]
  show some ((σ[j]?).getD none)=_
  rw [h1]
  rfl
theorem sX {σ:St} {H:Hp} {Q:VK} {t:Nat} (hfl:∀ i,i < t + ix.length→fl'[i]? = some .A) (htg:∀ j ∈ TT,j < t)
 (h:tD X.K fl .FC (gb fi g ft f t ix) σ H Q):Ci (tDI X.K fl L fi) (tDG X.K fl' TT g) (tDT X.K fl' ft) (tD X.K fl' .C f) t (vC t ix) σ H Q:=by
 obtain ⟨G,ow,δ,d,R,hf,q⟩:=h
 obtain ⟨l,e1,e2⟩:=bind1 hf
 by_cases hl:l.length ≤ 100000
 case neg=>rw [if_neg hl] at e2;cases e2
 rw [if_pos hl] at e2
 obtain ⟨r,e3,e4⟩:=bind1 e2
 cases e4
 refine ⟨G,ow,δ,l,R,e1,fun J H1 s1 wk Dl hD=>?_⟩
 have R1:=R.grow s1
 let okD:Ok:=fun b=>okN H b∧b ≠ Dl
 refine ⟨fun i m xs H2=>m=l.length - i∧H2 Dl=some (.lst xs)∧Same H1 H2∧xs.length ≤ i∧i ≤ l.length∧∃ ds rest,RAs X.K okD false H2 xs ds∧jW g ft f (jg t ix δ) (l.drop i)=some rest∧r=ds++rest,
  ⟨_,rfl,fH,gW hD _,bG _,iJ _,[],r,.nil,by simpa using e3,rfl⟩,?_⟩
 rintro i m xs H2 ⟨rfl,hDl,s2,hxl,hil,ds,rest,hr,hc,rfl⟩
 refine ⟨hDl,?_⟩
 obtain ⟨w1,w2⟩:=wk H2 (fun b o hb _ _=>s2 b o hb) i
 by_cases hlt:i < l.length
 ·have hdrop:l.drop i=l[i] :: l.drop (i + 1):=mJ hlt
  rw [hdrop,jW] at hc
  obtain ⟨δ1,e5,hc⟩:=bind1 hc
  obtain ⟨bb,e6,hc⟩:=bind1 hc
  obtain ⟨go,yl⟩:=w1 l[i] (aO hlt)
  refine .inr ⟨go,Nat.lt_of_le_of_lt (dB hxl (dB hil hl)) (by decide),fun x H3 hy=>?_⟩
  obtain ⟨s3,r3⟩:=yl x H3 hy
  have s13:=s2.trans s3
  have Rb:=(JG t ix hfl R1 (Same.refl H1)).grow s13
  refine ⟨_,_,_,_,δ1,Rb,r3.imp (fun _ _=>⟨fun i z=>(by cases z),fun i z=>(by cases z)⟩) (fun z=>z),e5,fun σ4 R4 keep4=>⟨?_,?_⟩⟩
  ·apply ju
   intro n
   rw [iV,iV]
   exact keep4 (t + n) fun z=>absurd (htg _ z) (by omega)
  ·refine ⟨_,_,δ1,bb,R4,e6,fun H5 s5=>?_⟩
   cases bb with
   | false =>
    rw [if_neg bC] at hc ⊢
    have s35:=s3.trans s5
    exact ⟨l.length - (i + 1),by omega,rfl,s35 _ _ hDl,s2.trans s35,by omega,hlt,ds,rest,hr.same s35,hc,rfl⟩
   | true =>
    rw [if_pos rfl] at hc ⊢
    obtain ⟨y,e7,hc⟩:=bind1 hc
    obtain ⟨l',e8,hc⟩:=bind1 hc
    cases hc
    refine ⟨_,_,δ1,y,R4.grow s5,e7,fun v H6 s6 r6=>?_⟩
    have s35:=s3.trans s5
    have s36:=s35.trans s6
    refine ⟨s36 _ _ hDl,l.length - (i + 1),by omega,rfl,fH,?_,by rw [cI,oO];omega,hlt,ds++[y],l',?_,e8,by simp⟩
    ·intro b o hb
     rw [dG (fun z=>by subst z;rw [hD] at hb;cases hb)]
     exact (s2.trans s36) b o hb
    ·have nd:¬ okD Dl:=fun z=>z.2 rfl
     have s05:Same H H5:=s1.trans (s2.trans s35)
     have ry:RA X.K okD false H6 v y:=RA.imp (fun b z=>⟨s05.free z,fun e=>by subst e;rw [okN,s35 _ _ hDl] at z;cases z⟩) (fun z=>z) r6
     exact ((hr.same s36).append (.cons ry .nil)).upd (s36 _ _ hDl) nd
 ·have ed:l.drop i=[]:=nW (by omega)
  rw [ed,jW] at hc
  cases hc
  refine .inl ⟨w2 (by omega),?_⟩
  rw [i_] at q
  exact q (.ref Dl) H2 (s1.trans s2) (.inr ⟨Dl,xs,ds,rfl,rfl,s1.free hD,hDl,hr⟩)
theorem eU (hc:X.calm=true) (T Vn:List Str) (ix:List Nat) (hi:DI X fl L tg iter fi)
 (hg:∀ cl C s3 H3 fp,DG (blk X (T++Vn) scope cl C s3 H3 fp) fl' TT tg g) (ht:∀ cl C s3 H3 fp,PTs (blk X (T++Vn) scope cl C s3 H3 fp) ifs (tDT X.K fl' ft)) (he:∀ cl C s3 H3 fp,DE (blk X (T++Vn) scope cl C s3 H3 fp) fl' .C elt f)
 (hfl:∀ i,i < T.length + ix.length→fl'[i]? = some .A:=by decide) (htg:∀ j ∈ TT,j < T.length:=by decide)
 (hB:uy X.N X.env.scope.names scope.names Vn ix=true:=by rfl) (hk:scope.kind = .function:=by rfl) (hcell:∀ y ∈ scope.names,y.2 ≠ .cell:=by decide +kernel)
 (hnames:∀ x ∈ scope.names,x.2 = .local→scope.names.lookup x.1=some .local:=by decide +kernel)
 (hfr:∀ x ∈ scope.names,x.2 = .free→x.1 ∈ Vn:=by decide +kernel) (hs:∀ x,foldedSetIterable iter X.env x=pure x:=by intro _;rfl) :
 DE X fl .FC (.ListComp elt [⟨tg,iter,ifs,0⟩] scope pos) (gb fi g ft f T.length ix) :=
 PE.imp (Jr hc T Vn ix hi hg ht he hB hk hcell hnames hfr hs) fun _ _ _ h=>sX hfl htg h
theorem qW {i:Nat} {x:Str} {pos' spos:Pos} (hfx:fl[i]? = some .A) (hN:X.N.Nodup) (hi':X.N[i]? = some x) (hx:X.env.scope.names.lookup x=some .local) (hc:X.calm=true) (T Vn:List Str) (ix:List Nat) (hi:DI X fl L tg iter fi)
 (hg:∀ cl C s3 H3 fp,DG (blk X (T++Vn) scope cl C s3 H3 fp) fl' TT tg g) (ht:∀ cl C s3 H3 fp,PTs (blk X (T++Vn) scope cl C s3 H3 fp) ifs (tDT X.K fl' ft)) (he:∀ cl C s3 H3 fp,DE (blk X (T++Vn) scope cl C s3 H3 fp) fl' .C elt f)
 (hfl:∀ i,i < T.length + ix.length→fl'[i]? = some .A:=by decide) (htg:∀ j ∈ TT,j < T.length:=by decide)
 (hsw:swapsWith (.ListComp elt [⟨tg,iter,ifs,0⟩] scope pos) (some (.Name x pos')) spos.line X.env=pure true:=by rfl)
 (hB:uy X.N X.env.scope.names scope.names Vn ix=true:=by rfl) (hk:scope.kind = .function:=by rfl) (hcell:∀ y ∈ scope.names,y.2 ≠ .cell:=by decide +kernel)
 (hnames:∀ x ∈ scope.names,x.2 = .local→scope.names.lookup x.1=some .local:=by decide +kernel)
 (hfr:∀ x ∈ scope.names,x.2 = .free→x.1 ∈ Vn:=by decide +kernel) (hs:∀ x,foldedSetIterable iter X.env x=pure x:=by intro _;rfl) :
 DS1 X fl (.Assign [.Name x pos'] (.ListComp elt [⟨tg,iter,ifs,0⟩] scope pos) spos) (bh i (gb fi g ft f T.length ix)) :=
 PS.imp (Js hN hi' hx hc T Vn ix hi hg ht he hsw hB hk hcell hnames hfr hs) fun Dn σ H h=>by
 obtain ⟨G,ow,δ,o,R,hf,q⟩:=h
 unfold bh at hf
 by_cases hl:i < δ.length
 ·rw [if_pos hl] at hf
  obtain ⟨d,e1,e2⟩:=bind1 hf
  cases e2
  exact sX (fl:=fl) hfl htg ⟨G,ow,δ,d,R,e1,fun v H' s r=>q ow _ H' ((R.grow s).setA hfx (pG R hl) ((r.FC_F R).F_A R))⟩
 ·rw [if_neg hl] at hf
  cases hf
theorem zj {K:PySem.W.Frag} {G:Gh} {ow:Ow} {H H1:Hp} {p:Addr} {vs:List V} {l:List D} (s:Same H H1) (hp:H1 p=none) (r:RAs K (okA ow) true H1 vs l):Rs K G.H0 ow H (upd H1 p (.lst vs)) .F (.ref p) (.list l) :=
 .inr ⟨p,vs,l,rfl,rfl,s.free hp,fH,(r.track.imp (fun b w=>⟨w.1,fun e=>w.2 (e ▸ hp)⟩) (fun z=>z)).same (gW hp _)⟩
theorem xQ {K:PySem.W.Frag} {H0:Hp} {ow:Ow} {Hb H:Hp} {L:List Nat} {v:V} {l:List D} (r:Rs K H0 ow Hb H (.B L) v (.list l)):∃ a xs,v = .ref a∧SqL K H a xs∧RAs K (okA ow) true H xs l:=by
 rcases r with r | ⟨i,hi,a,xs,ds,ho,rfl,e,hx,hr⟩
 ·exact r.lstE
 ·cases e
  exact ⟨a,xs,rfl,SqL.of hx,hr⟩
noncomputable def QX (K:PySem.W.Frag):R2:=fun x y H Q=>∃ l b xs zs,x = .ref l∧y = .ref b∧SqL K H l xs∧SqL K H b zs∧xs.length + zs.length ≤ sizeLine∧∀ p,H p=none→Q (.ref p) (upd H p (.lst (xs++zs)))
theorem JH:OpR X (binaryOp .Add) (QX X.K):=by
 intro pins s σ H x y v u Q I rx ry h
 obtain ⟨l,b,xs,zs,rfl,rfl,hH,hB,hz,q⟩:=h
 cases rx
 cases ry
 obtain ⟨its,r,p,_⟩:=I.list hH
 obtain ⟨its2,r2,p2,_⟩:=I.list hB
 obtain ⟨⟨cls,dd,data,sl⟩,ho,hc,n,hd⟩:=p.isList
 obtain ⟨⟨cls2,dd2,data2,sl2⟩,ho2,hc2,n2,hd2⟩:=p2.isList
 simp only at hc hd hc2 hd2
 subst hc hd hc2 hd2
 have e1:=r.length
 have e2:=r2.length
 have e:its.toArray++its2.toArray=(its++its2).toArray:=by simp
 refine concat_meets ⟨_,ho,rfl⟩ ⟨_,ho2,rfl⟩ noFill_list_add seq_list_add PySem.F.slot_list_add PySem.F.entry_list_add (PySem.F.args_list_add_2 _ _) (list_addW l b its.toArray its2.toArray n n2 dd dd2 sl sl2 (by simp;omega)) ⟨ho,ho2,?_⟩
 rw [e]
 exact ⟨.ref _,_,I.lnew (t':=s.toks) (r.append r2) (by rw [cI];omega),rfl,q _ I.fresh⟩
theorem uK {L L':List Nat} (h1:DE X fl (.B L) a fa) (h2:DE X fl (.B L') b fb):DE X fl .F (.BinOp a .Add b pos) (dOp qJ fa fb):=PE.imp (FP JH h1 h2) fun σ H Q h=>by
 obtain ⟨G,ow,δ,d,R,hf,q⟩:=h
 obtain ⟨x,y,e1,e2,e3⟩:=yZ hf
 refine ⟨G,ow,δ,x,R,e1,fun v H1 s1 r1=>⟨G,ow,δ,y,R.grow s1,e2,fun u H2 s2 r2=>?_⟩⟩
 unfold qJ at e3
 split at e3
 ·next l m =>
  by_cases z:l.length + m.length ≤ 1000000
  ·rw [if_pos z] at e3
   cases e3
   obtain ⟨p,xs,rfl,hx,hr⟩:=xQ r1
   obtain ⟨p',ys,rfl,hy,hr'⟩:=xQ r2
   refine ⟨p,p',xs,ys,rfl,rfl,s2.seq hx,hy,?_,fun pn hp=>q _ _ ((s1.trans s2).trans (gW hp _)) (zj (G:=G) (s1.trans s2) hp ((hr.same s2).append hr'))⟩
   rw [hr.length,hr'.length]
   exact dB z (by decide)
  ·rw [if_neg z] at e3
   cases e3
 ·cases e3
theorem RAs.rep {K:PySem.W.Frag} {ok:Ok} {pl:Bool} {H:Hp} {vs:List V} {l:List D} (r:RAs K ok pl H vs l):∀ n:Nat,RAs K ok pl H (aK n vs).flatten (aK n l).flatten
 | 0=>.nil
 | n + 1=>by
  rw [cA,cA,eH,eH]
  exact r.append (RAs.rep r n)
theorem rR (h1:DE X fl .F a fa) (h2:DE X fl .P b fb):DE X fl .F (.BinOp a .Mult b pos) (dOp rN fa fb):=PE.imp (FP M_ h1 h2) fun σ H Q h=>by
 obtain ⟨G,ow,δ,d,R,hf,q⟩:=h
 obtain ⟨x,y,e1,e2,e3⟩:=yZ hf
 refine ⟨G,ow,δ,x,R,e1,fun v H1 s1 r1=>⟨G,ow,δ,y,R.grow s1,e2,fun u H2 s2 r2=>?_⟩⟩
 unfold rN at e3
 split at e3
 ·next l k =>
  by_cases z:l.length * k.toNat ≤ 1000000∧-(2 ^ 63) ≤ k∧k < 2 ^ 63
  ·rw [if_pos z] at e3
   cases e3
   obtain rfl:=RA.intE r2
   rcases r1 with ⟨hz,_⟩ | ⟨p,xs,ds,rfl,ez,h3,h4,h5⟩
   ·simp [flat] at hz
   ·cases ez
    refine ⟨p,k,xs,rfl,rfl,s2 _ _ h4,z.2.1,z.2.2,?_,fun pn hp=>q _ _ ((s1.trans s2).trans (gW hp _)) (zj (G:=G) (s1.trans s2) hp (((h5.imp (fun b w=>w.1) (fun z=>z)).same s2).rep _))⟩
    rw [h5.length]
    exact dB z.1 (by decide)
  ·rw [if_neg z] at e3
   cases e3
 ·cases e3
theorem qY {L:List Nat} {p:Pos} (h:DE X fl (.B L) a f) (hg:Gl X "list") (hm:X.mg "list" = none)
 (he:starEach [a] X.env=(false,eval a X.env) :: starEach [] X.env:=by rfl) (hpl:(backTo pos (starEach [] X.env)).any (·.1)=false:=by rfl):DE X fl .F (.Call (.Name "list" p) [a] [] pos) (dUn gY f) :=
 PE.imp (DR wY hg hm boot_list (gU h m9 he) (by decide) (by decide) he hpl) fun σ H Q h=>by
 obtain ⟨G,ow,δ,d,R,hf,q⟩:=h
 obtain ⟨x,e1,e2⟩:=bind1 hf
 refine ⟨G,ow,δ,x,R,e1,fun v H1 s1 r1=>?_⟩
 unfold gY at e2
 split at e2
 ·cases e2
  obtain ⟨p,xs,rfl,hx,hr⟩:=xQ r1
  exact ⟨p,xs,rfl,.inl hx,fun pn hp=>q _ _ (s1.trans (gW hp _)) (zj (G:=G) s1 hp hr)⟩
 ·cases e2
  rcases r1 with r1 | ⟨i,hi,a,xs,ds,ho,rfl,e,hx,hr⟩
  ·obtain ⟨p,xs,rfl,hx,hr⟩:=r1.tupE
   exact ⟨p,xs,rfl,.inr hx,fun pn hp=>q _ _ (s1.trans (gW hp _)) (zj (G:=G) s1 hp hr)⟩
  ·cases e
 ·cases e2
noncomputable def tDO (K:PySem.W.Frag) (fl:List Fl) (f:FO):TO:=fun σ H Q=>∃ G ow δ o,Rel K fl G ow σ H δ∧f δ=some o∧∀ H',Same H H'→Q o H'
theorem PO.imp {o:Option Expr} {t t':TO} (h:PO X o t) (i:∀ σ H Q,t' σ H Q→t σ H Q):PO X o t':=fun pins s σ H Q I q=>h pins s σ H Q I (i σ H Q q)
theorem Cv:PO X none (tDO X.K fl Cj):=PO.imp Ji fun σ H Q h=>by
 obtain ⟨G,ow,δ,o,R,hf,q⟩:=h
 cases hf
 exact q H (Same.refl H)
theorem Cy (h:DE X fl .P e f):PO X (some e) (tDO X.K fl (yW f)):=PO.imp (Jj h) fun σ H Q h=>by
 obtain ⟨G,ow,δ,o,R,hf,q⟩:=h
 obtain ⟨d,e1,e2⟩:=bind1 hf
 split at e2
 ·cases e2
  refine ⟨G,ow,δ,_,R,e1,fun v H1 s1 r1=>?_⟩
  obtain rfl:=RA.intE r1
  exact ⟨_,rfl,q H1 s1⟩
 ·cases e2
theorem GJ (n d:Nat) (o:Option Int):HT.sIx n d o=pSx n d o:=by
 cases o <;> rfl
theorem RAs.cut {K:PySem.W.Frag} {ok:Ok} {pl:Bool} {H:Hp} {vs:List V} {l:List D} (r:RAs K ok pl H vs l) (lo hi:Option Int):RAs K ok pl H (DX vs lo hi) (cutD l lo hi):=by
 unfold DX cutD
 rw [r.length,GJ,GJ]
 exact (r.drop _).take _
theorem Lq {L:List Nat} {lo hi:Option Expr} {p2:Pos} {fl1 fh:FO} (h:DE X fl (.B L) a f) (h1:PO X lo (tDO X.K fl fl1)) (h2:PO X hi (tDO X.K fl fh)):DE X fl .F (.Subscript a (.Slice lo hi none p2) pos) (dSl f fl1 fh):=PE.imp (Gd Jl h h1 h2) fun σ H Q h=>by
 obtain ⟨G,ow,δ,d,R,hf,q⟩:=h
 obtain ⟨x,e1,hf⟩:=bind1 hf
 obtain ⟨o1,e2,hf⟩:=bind1 hf
 obtain ⟨o2,e3,e4⟩:=bind1 hf
 refine ⟨G,ow,δ,x,R,e1,fun v H1 s1 r1=>⟨G,ow,δ,o1,R.grow s1,e2,fun H2 s2=>⟨G,ow,δ,o2,R.grow (s1.trans s2),e3,fun H3 s3=>?_⟩⟩⟩
 split at e4
 ·cases e4
  obtain ⟨p,xs,rfl,hx,hr⟩:=xQ r1
  have s13:=s2.trans s3
  exact ⟨p,xs,rfl,s13.seq hx,fun pn hp=>q _ _ ((s1.trans s13).trans (gW hp _)) (zj (G:=G) (s1.trans s13) hp ((hr.same s13).cut o1 o2))⟩
 ·cases e4
theorem GK {st:Stmt}:DS1 X fl st (fun _=>none):=PS.imp Fx fun Dn σ H h=>by
 obtain ⟨G,ow,δ,o,R,hf,q⟩:=h
 cases hf
end
end D3
namespace D3
open PySem PySem.Spec PyProof.Rows L2 My
section
variable {X:Cx} {pins:List (Addr × Obj)} {σ:St} {H:Hp} {s:Shared} {h':Heap}
theorem Inv.turnedL {t':Nat} {ch:List Addr} (I:Inv X pins σ H s) (k:∀ b o,b ∉ ch→s.heap.get? b=some o→h'.get? b=some o) (hf:∀ b ∈ ch,rM X pins H b):Inv X pins σ H { s with heap:=h',toks:=t' }:=by
 have nit:∀ b u,H b=some u→b ∉ ch:=fun b u e z=>by rw [(hf b z).1] at e;cases e
 refine I.step (g':=s.gens) (d':=s.drawn) (ch:=ch) (fun b hb=>?_) (fun b o _ _ hc e _=>k b o hc e) (fun b o _ _ hc e _=>⟨o.slots,k b o hc e⟩) (fun _ _ _ _ n=>n)
  (fun b o hc e=>⟨o,k b o hc e⟩) (fun _ _ e=>e) (fun _ _ _ e=>e) (fun _ _ _ e=>e) (fun m hm=>?_) (fun b u e=>?_) I.bare
 ·obtain ⟨f0,f1,f2,f3,f4,f5⟩:=hf b hb
  exact ⟨f3,f1,f4,f5⟩
 ·obtain ⟨o,es,ep,ho,r⟩:=hm
  exact ⟨o,es,ep,k _ o (fun z=>(hf _ z).2.1 rfl) ho,r⟩
 ·refine (I.hok b u e).stay (fun c v hc q=>k c v ?_ q) (fun _ q=>q) fun _ _ q=>q
  rcases hc with z | z
  ·rw [z];exact nit b u e
  ·exact nit c _ z
end
noncomputable def Ite (K:PySem.W.Frag) (a:Addr):It :=
 ⟨fun i H=>∃ xs x,SqL K H a xs∧xs[i]? = some x,fun i H x H'=>∃ p y,H p=none∧H'=upd H p (.tup [.int i,y])∧x = .ref p∧∀ xs,SqL K H a xs→xs[i]? = some y,fun i H=>∃ xs,SqL K H a xs∧xs.length ≤ i⟩
theorem Ef {P:Program} {w:World} {K:PySem.W.Frag} {elts:List Expr} {x1} {tpos:Pos} (a it:Addr) :
 Turn P w K (.Tuple elts x1 tpos) (Ite K a) [it + 1,it] (it + 1) (fun i h=>∃ old,IsEnum h (it + 1) it (i:Int) old∧h.IsListIter it a i) where
 mem:=by simp
 obj:=fun i h st b hb=>by
  obtain ⟨old,he,o,e,c,d⟩:=st
  rcases bQ.mp hb with z | z
  ·subst z
   exact ⟨_,he,fun v z=>by cases z⟩
  ·have z:b=it:=by simpa using z
   subst z
   exact ⟨o,e,fun v z=>by rw [d] at z;cases z⟩
 keep:=fun i h h' st k=>by
  obtain ⟨old,he,hi⟩:=st
  exact ⟨old,k _ (by simp) _ he,hi.at fun o e=>k it (by simp) o e⟩
 item:=by
  intro X hP hw hK hc i pins s σ H E I hf st hg
  subst hP hw hK
  obtain ⟨xs,x,hq,hx⟩:=hg
  obtain ⟨its,rv,p,hz⟩:=I.list hq
  obtain ⟨u,hu,ru⟩:=rv.get hx
  obtain ⟨old,he,hi⟩:=st
  have fe:=hf (it + 1) (by simp)
  have fi:=hf it (by simp)
  have hlt:it + 1 < s.heap.objs.size:=Heap.lt_size he
  refine wpAny_pyNext_enum_item he hi p.isList (x:=u) (by simpa using hu) (Nat.succ_ne_self it) fun h1 ho hi1 ht hsz hk=>?_
  refine ⟨_,rfl,wpAny_letOwnedTupleGo_enum ho fun h2 he2 hs2=>?_⟩
  replace hs2:Heap.SameBut (it + 1) h1 h2:=hs2
  have hn:H s.heap.objs.size=none:=I.hok.fresh (bG _)
  have I0:Inv X pins σ (upd H s.heap.objs.size (.tup [.int (i:Int),x])) { s with heap:=s.heap.push { cls:=.type "tuple", data:=.seq #[.int (i:Int) s.toks,u] } } :=
   I.laid (t':=s.toks) (fun b o e=>Heap.get?_push_of_some _ e) (bG _) ⟨show 2 ≤ sizeLine by decide,[.int (i:Int) s.toks,u],.cons ⟨_,rfl⟩ (.cons ru .nil),⟨_,Heap.get?_push_size _ rfl,rfl,_,rfl⟩⟩
  have ne:∀ b,b ∈ [it + 1,it]→b ≠ s.heap.objs.size:=fun b hb=>by
   rcases bQ.mp hb with w' | w'
   ·rw [w'];exact cL hlt
   ·rw [show b=it by simpa using w'];exact cL (Nat.lt_of_succ_lt hlt)
  have I1:Inv X pins σ (upd H s.heap.objs.size (.tup [.int (i:Int),x])) { s with heap:=h2,toks:=s.toks + 1 }:=by
   refine Inv.turnedL (s:={ s with heap:=s.heap.push { cls:=.type "tuple", data:=.seq #[.int (i:Int) s.toks,u] } }) (ch:=[it + 1,it]) I0 (fun b o hb e=>?_) fun b hb=>⟨by rw [dG (ne b hb)];exact (hf b hb).1,(hf b hb).2⟩
   have b1:b ≠ it + 1:=fun z=>hb (by simp [z])
   have b2:b ≠ it:=fun z=>hb (by simp [z])
   rcases Heap.get?_push_cases e with ⟨e1,e2⟩ | e1
   ·subst e1 e2
    exact (hs2.2 _ b1).trans ht
   ·exact (hs2.2 _ b1).trans (hk b o b1 b2 e1)
  refine ⟨.ref s.heap.objs.size,_,I1,rfl,⟨_,x,hn,rfl,rfl,fun ys hy=>by rw [I.list_inj hy hq];exact hx⟩,⟨_,he2,hi1.at fun o e=>(hs2.2 _ (cL (kO it))).trans e⟩,fun b hb=>?_⟩
  rw [dG (ne b hb)]
  exact (hf b hb).1
 done:=by
  intro X hP hw hK hc i pins s σ H E I hf st hg
  subst hP hw hK
  obtain ⟨xs,hq,hx⟩:=hg
  obtain ⟨its,rv,p,hz⟩:=I.list hq
  obtain ⟨old,he,hi⟩:=st
  have hl:=rv.length
  refine wpAny_pyNext_enum_end (I.ok.hd hc) he hi p.isList (by simp;omega) fun h' eb=>⟨rfl,Inv.turnedL (t':=s.toks) (ch:=[it + 1,it]) I (fun b o hb e=>eb b o (fun z=>hb (by simp [z])) e) hf⟩
 self:=fun _ _ _ _ _ st h=>by
  obtain ⟨old,he,_⟩:=st
  exact wpAny_pyIter_enum he h
section
variable {X:Cx} {fl:List Fl} {a:Expr} {f:FE} {pos:Pos}
noncomputable def QZ (K:PySem.W.Frag) (tl:TE):TI:=fun σ H R=>tl σ H fun x H1=>∃ a,x = .ref a∧(∃ xs,SqL K H1 a xs)∧R (Ite K a) H1
theorem JK {elts:List Expr} {x1} {tpos p:Pos} {tl:TE} (hg:Gl X "enumerate") (hm:X.mg "enumerate" = none) (hl:PE X a tl) (he:starEach [a] X.env=(false,eval a X.env) :: starEach [] X.env:=by rfl)
 (hpl:(backTo pos (starEach [] X.env)).any (·.1)=false:=by rfl):PI X (.Tuple elts x1 tpos) (.Call (.Name "enumerate" p) [a] [] pos) (QZ X.K tl):=by
 intro pins s σ H R I h
 refine wpAny_Call_Name_kw (pX I hg hm boot_enumerate (PyProof.Rows.callWith_type1 (thn ((gU hl m9 he) pos pins s σ H (fun vs H1=>match vs with | [x]=>∃ a,x = .ref a∧(∃ xs,SqL X.K H1 a xs)∧R (Ite X.K a) H1 | _=>False) I h) fun us s1 ⟨vs,H1,I1,r1,q1⟩=>?_) he hpl))
 cases r1 with
 | nil=>exact q1.elim
 | cons r rr =>
  cases rr with
  | cons _ _=>exact q1.elim
  | nil =>
  obtain ⟨l,e,⟨xs,hq⟩,q⟩:=q1
  subst e
  cases r
  obtain ⟨its,rv,pl,hz⟩:=I1.list hq
  refine call_enumerate_list pl.isList fun h' he' hi' hsz hk=>?_
  have I2:Inv X pins σ H1 { s1 with heap:=h' }:=I1.kept (t':=s1.toks) hk
  refine wpAny_pyIter_enum (s:={ s1 with heap:=h' }) he' ?_
  refine ⟨s1.heap.objs.size + 1,[s1.heap.objs.size + 1,s1.heap.objs.size],_,_,H1,rfl,I2,Ef l s1.heap.objs.size,⟨_,he',hi'⟩,fun b hb=>?_,q⟩
  have hb':s1.heap.objs.size ≤ b:=by
   rcases bQ.mp hb with z | z
   ·rw [z];exact Nat.le_succ _
   ·rw [show b=s1.heap.objs.size by simpa using z];exact bG _
  exact I1.fpOk hb' (I1.hok.fresh hb')
theorem q_ {elts:List Expr} {x1} {tpos p:Pos} {L:List Nat} (h:DE X fl (.B L) a f) (hg:Gl X "enumerate") (hm:X.mg "enumerate" = none) (he:starEach [a] X.env=(false,eval a X.env) :: starEach [] X.env:=by rfl)
 (hpl:(backTo pos (starEach [] X.env)).any (·.1)=false:=by rfl):DI X fl L (.Tuple elts x1 tpos) (.Call (.Name "enumerate" p) [a] [] pos) (sU f):=PI.imp (JK hg hm h he hpl) fun σ H R' h=>by
 obtain ⟨G,ow,δ,l,R,hf,q⟩:=h
 obtain ⟨d,e1,e2⟩:=bind1 hf
 cases d <;> first | (cases e2;done) | skip
 next l0 =>
 cases e2
 refine ⟨G,ow,δ,_,R,e1,fun v H1 s r=>?_⟩
 obtain ⟨a,xs,rfl,hx,keep⟩:=rP (R.grow s) r
 refine ⟨a,rfl,⟨xs,hx⟩,q _ _ s fun H2 k2 i=>?_⟩
 obtain ⟨k3,k4⟩:=keep H2 k2
 refine ⟨fun d hd=>?_,fun hl=>⟨xs,k3,by rw [k4.length];simpa [mC] using hl⟩⟩
 have hd':(l0[i]?).map (fun x=>PyData.tuple [.int (i:Int),x])=some d:=by
  have:=hd
  unfold mC at this
  rw [gO] at this
  exact this
 cases e:l0[i]? with
 | none=>rw [e] at hd';cases hd'
 | some x0 =>
  rw [e] at hd'
  cases hd'
  obtain ⟨y,hy,ry⟩:=k4.get e
  refine ⟨⟨xs,y,k3,hy⟩,fun x H3 hyl=>?_⟩
  obtain ⟨p,y',hp,rfl,rfl,hz⟩:=hyl
  have:some y=some y':=hy.symm.trans (hz xs k3)
  cases this
  have g:=gW hp (.tup [.int (i:Int),y])
  exact ⟨g,.tup fH (.cons (.int _) (.cons (ry.same g) .nil))⟩
end
structure Bl (mg:Str→Option Value):Prop where
 len_:mg "len" = none
 range_:mg "range" = none
 abs_:mg "abs" = none
 isinstance_:mg "isinstance" = none
 int_:mg "int" = none
 bool_:mg "bool" = none
 tuple_:mg "tuple" = none
 list_:mg "list" = none
 str_:mg "str" = none
 max_:mg "max" = none
 min_:mg "min" = none
 sorted_:mg "sorted" = none
 sum_:mg "sum" = none
 reversed_:mg "reversed" = none
 enumerate_:mg "enumerate" = none
 zip_:mg "zip" = none
 set_:mg "set" = none
 any_:mg "any" = none
 all_:mg "all" = none
 dict_:mg "dict" = none
end D3
namespace D3
open PySem PySem.Spec PyProof.Rows L2 My
structure FunD (K:PySem.W.Frag) (x:Str) (st:Stmt) (f:Addr) (fd:FuncData):Prop where
 ex:∃ (oc:Value) (od:Option Addr) (dV kV doc pm:Value) (an:Option Addr) (cdv ct:Value) (osl:Array (Option Value)),
  fd=PySem.W.fnOf x x (pF st) (j6 st) (bA st) dV kV doc pm an cdv ct∧K.lookup f=some ⟨oc,od,.func fd,osl⟩∧PySem.W.codeIn K cdv x=true
 kp:PySem.W.keepIn K (.ref f)=true
structure Dg (K:PySem.W.Frag) (mg:Str→Option Value) (x:Str) (st:Stmt) (ps:List Str):Prop where
 ex:∃ (f:Addr) (fd:FuncData),FunD K x st f fd∧Binds K fd ps []∧mg x=some (.ref f)
theorem d_ {K:PySem.W.Frag} {h:Heap} {mg:Str→Option Value} {f:Addr} {oc kV dc pm cd ct:Value} {od an:Option Addr} {sl:Array (Option Value)} {x:Str} {st:Stmt} {ps:List Str} (X:K.In h) (G:h.Ns mainGlobals mg)
 (hb:∀ (kV doc pm:Value) (an:Option Addr) (cdv ct:Value) (us:List Value),us.length=ps.length→bindArgs (PySem.W.fnOf x x (pF st) (j6 st) (bA st) .none kV doc pm an cdv ct) ⟨us,[]⟩=pure (ps.zip us))
 (a:PySem.W.nsIn K mainGlobals x=some (some (.ref f))) (l:K.lookup f=some ⟨oc,od,.func (PySem.W.fnOf x x (pF st) (j6 st) (bA st) .none kV dc pm an cd ct),sl⟩) (c:PySem.W.codeIn K cd x=true) (k:PySem.W.keepIn K (.ref f)=true):Dg K mg x st ps :=
 ⟨_,_,⟨⟨oc,od,.none,kV,dc,pm,an,cd,ct,sl,rfl,l,c⟩,k⟩,.all (hb kV dc pm an cd ct),PySem.W.mg_of X G a⟩
structure Dl (K:PySem.W.Frag) (mg:Str→Option Value) (x y:Str) (st:Stmt):Prop where
 ex:∃ (f:Addr) (fd:FuncData),FunD K x st f fd∧(∀ (s:Shared) (u:Value),BindsTo s fd ⟨[u],[]⟩ [(y,u)])∧mg x=some (.ref f)
theorem Q0 {K:PySem.W.Frag} {h:Heap} {mg:Str→Option Value} {f:Addr} {oc kV dc pm cd ct:Value} {od an:Option Addr} {sl:Array (Option Value)} {x y:Str} {st:Stmt} (X:K.In h) (G:h.Ns mainGlobals mg)
 (hb:∀ (kV doc pm:Value) (an:Option Addr) (cdv ct:Value) (u:Value),bindArgs (PySem.W.fnOf x x (pF st) (j6 st) (bA st) .none kV doc pm an cdv ct) ⟨[u],[]⟩=pure [(y,u)])
 (a:PySem.W.nsIn K mainGlobals x=some (some (.ref f))) (l:K.lookup f=some ⟨oc,od,.func (PySem.W.fnOf x x (pF st) (j6 st) (bA st) .none kV dc pm an cd ct),sl⟩) (c:PySem.W.codeIn K cd x=true) (k:PySem.W.keepIn K (.ref f)=true):Dl K mg x y st :=
 ⟨_,_,⟨⟨oc,od,.none,kV,dc,pm,an,cd,ct,sl,rfl,l,c⟩,k⟩,fun s u=>.of_eq (hb kV dc pm an cd ct u),PySem.W.mg_of X G a⟩
section
variable {P:Program} {w:World} {K:PySem.W.Frag} {mg:Str→Option Value} {base:Heap} {x:Str} {ps N:List Str} {st:Stmt} {k n:Nat} {fs:FS} {fl:List Fl}
theorem FunD.ok {f:Addr} {fd:FuncData} {sp:Sp} (F:FunD K x st f fd) (S:FnScope N ps (bA st)) (len:∀ vs H Q E,sp vs H Q E→vs.length=ps.length)
 (hbody:∀ (cdv:Value) (A:Around) (outer:List Env) (s:Shared) (H:Hp) (vs:List V) (Q:VK) (E:XK),Room k (A.deeper (envOfC x (bA st) s.heap.objs.size f cdv))→sp vs H Q E →
  ∃ t,PSs (Aj CX0 P w K mg base N x (bA st) f cdv A outer s H E).nox (j6 st) t∧t { nx:=fun _ H'=>Q .non H',rt:=Q } (L2.start N vs) H):FnOk P w K mg base CX0 (k + 1) f fd ps sp:=by
 obtain ⟨oc,od,dV,kV,doc,pm,an,cdv,ct,osl,rfl,lk,hcd⟩:=F.ex
 refine QB lk hcd S len fun A outer s H vs Q E hr hsp=>?_
 obtain ⟨t,h,q⟩:=hbody cdv A outer s H vs Q E hr hsp
 exact ⟨t,h.nox,q⟩
theorem GP {f:Addr} {fd:FuncData} (Fn:FunD K x st f fd) (S:FnScope N ps (bA st)) (hp:∀ i,i < ps.length→fl[i]? = some .A) (hN:ps.length ≤ N.length)
 (hbody:∀ (f:Addr) (cdv:Value) (A:Around) (outer:List Env) (s:Shared) (H:Hp) (E:XK),Room k (A.deeper (envOfC x (bA st) s.heap.objs.size f cdv))→DSs (cx P w K mg base N x st f cdv A outer s H E) fl (j6 st) fs) :
 FnOk P w K mg base CX0 (k + 1) f fd ps (spD K (fnD ps.length (N.length - ps.length) fs)):=by
 refine Fn.ok S (fun vs H Q E h=>?_) (fun cdv A outer s H vs Q E hr h=>?_)
 ·obtain ⟨ds,d,r,hf,_⟩:=h
  unfold fnD at hf
  by_cases z:ds.length=ps.length
  ·rw [r.2.length];exact z
  ·rw [if_neg z] at hf;cases hf
 ·obtain ⟨ds,d,r,hf,q⟩:=h
  refine ⟨_,hbody f cdv A outer s H E hr,?_⟩
  unfold fnD at hf
  by_cases z:ds.length=ps.length
  ·rw [if_pos z] at hf
   split at hf
   ·next d' e =>
    cases hf
    exact ⟨_,_,_,_,rQ ps.length hp z hN r,e,fun v H' s r=>q v H' s r⟩
   ·next δ' e =>
    cases hf
    exact ⟨_,_,_,_,rQ ps.length hp z hN r,e,fun ow' σ' H' R'=>q .non H' R'.same0 .non⟩
   ·cases hf
  ·rw [if_neg z] at hf;cases hf
theorem eV (Dd:Dg K mg x st ps) (S:FnScope N ps (bA st)) (hp:∀ i,i < ps.length→fl[i]? = some .A) (hN:ps.length ≤ N.length)
 (hbody:∀ (f:Addr) (cdv:Value) (A:Around) (outer:List Env) (s:Shared) (H:Hp) (E:XK),Room k (A.deeper (envOfC x (bA st) s.heap.objs.size f cdv))→DSs (cx P w K mg base N x st f cdv A outer s H E) fl (j6 st) fs) :
 Has P w K mg base (k + 1) x ps (spD K (fnD ps.length (N.length - ps.length) fs)):=by
 obtain ⟨f,fd,Fn,b,m⟩:=Dd.ex
 exact ⟨f,fd,GP Fn S hp hN hbody,b,Fn.kp,m⟩
end
noncomputable def GQ (K:PySem.W.Frag):Sp:=fun vs H Q _=>∃ (a:Addr) (ns:List Int),Tb H∧vs=[.ref a]∧SqL K H a (ns.map V.int)∧ns.length ≤ 63∧∀ H',Q (.bl true) H'
theorem tX {K:PySem.W.Frag} {ok:Ok} {pl:Bool} {H:Hp}:∀ ns:List Int,RAs K ok pl H (ns.map V.int) (ns.map PyData.int)
 | []=>.nil
 | n :: r=>.cons (.int n) (tX r)
theorem JL {K:PySem.W.Frag} {F:List D→Option D} (hF:∀ ns:List Int,ns.length ≤ 63→F [.list (ns.map .int)]=some (.bool true)) (vs:List V) (H:Hp) (Q:VK) (E:XK) (h:GQ K vs H Q E):spD K F vs H Q E:=by
 obtain ⟨a,ns,tb,rfl,hS,hl,q⟩:=h
 refine ⟨_,_,⟨tb,.cons ?_ .nil⟩,hF ns hl,fun v H' s r=>?_⟩
 ·rcases hS with (h | ⟨o,h⟩) | h
  ·exact .lst h trivial (tX ns)
  ·exact .lsk (.inl ⟨o,h⟩) rfl (tX ns)
  ·exact .lsk (.inr h) rfl (tX ns)
 ·obtain rfl:=r.blE
  exact q H'
end D3
namespace D3
open PySem PySem.Spec PyProof.Rows L2 My
section
variable {prog:Program} {w:World} {A:Around} {E:Value→Shared→Prop} {s:Shared}
end
section
variable {X:Cx} {fl:List Fl} {a:Expr} {f:FE} {pos p p2 pos2:Pos}
end
section
variable {X:Cx} {fl:List Fl} {a b:Expr} {pos p p2 pos2:Pos} {fa:FA}
end
end D3
namespace D3
open PySem PySem.Spec PyProof.Rows L2 My
section
variable {X:Cx}
theorem zm:∀ {ns:List Int} {its:List Value},Vals (ns.map V.int) its→IntsAre its ns
 | [],_,.nil=>.nil
 | n :: r,_,.cons h t=>by
  obtain ⟨k,rfl⟩:=h
  exact .cons _ _ (zm t)
theorem lO (hc:X.calm=true):pN X (.builtin "sum") (fun xs H Q=>∃ (p:Addr) (ns:List Int),xs=[.ref p]∧SqL X.K H p (ns.map V.int)∧Q (.int ns.sum) H):=by
 intro pins s σ H xs us Q I r h
 obtain ⟨p,ns,rfl,hx,q⟩:=h
 obtain ⟨u,rfl,rx⟩:=vals1 r
 cases rx
 obtain ⟨its,rvs,pl,hz⟩:=I.list hx
 have hi:=zm rvs
 obtain ⟨xs,hxs⟩:=hi.allInts.items
 have hl:s.heap.IsList p (intItems xs):=hxs ▸ pl.isList
 refine sum_intListG (I.ok.hd hc) hl fun h' tk t' hk=>?_
 have e1:ns=xs.toList.map (·.1):=by
  rw [← nums_intItems,← hxs]
  exact (show numsOf its.toArray.toList=ns from hi.numsOf).symm
 have e2:preSum (numAt xs) xs.size=ns.sum:=by
  rw [preSum_eq,nY (by simp),e1]
 rw [e2]
 exact ⟨.int _,H,I.kept hk,⟨_,rfl⟩,q⟩
theorem zq {K:PySem.W.Frag} {ok:Ok} {pl:Bool} {H:Hp}:∀ {l:List D} {ns:List Int} {ys:List V},pQ l=some ns→RAs K ok pl H ys l→ys=ns.map V.int
 | [],_,_,e,.nil=>by cases e;rfl
 | d :: r,ns,_,e,.cons h t=>by
  cases d <;> first | (cases e;done) | skip
  obtain rfl:=h.intE
  cases e2:pQ r with
  | none=>rw [pQ,e2] at e;cases e
  | some m =>
   rw [pQ,e2] at e
   cases e
   rw [zq e2 t]
   rfl
theorem sY {K:PySem.W.Frag}:BrC K (fun xs H Q=>∃ (p:Addr) (ns:List Int),xs=[.ref p]∧SqL K H p (ns.map V.int)∧Q (.int ns.sum) H) xr:=by
 intro H xs ds d Q r e q
 unfold xr at e
 split at e
 ·next l =>
  cases e2:pQ l with
  | none=>rw [e2] at e;cases e
  | some ns =>
   rw [e2] at e
   cases e
   cases r with
   | cons r1 r2 =>
    cases r2
    obtain ⟨a,ys,rfl,hx,hr⟩:=r1.lstE
    obtain rfl:=zq e2 hr
    exact ⟨a,ns,rfl,hx,q _ rfl (.int _)⟩
 ·cases e
end
end D3
namespace D3
open PySem PySem.Spec PyProof.Rows L2 My
noncomputable def gK (n:Nat) (us ws:List α):List α:=if ws.length=n then us++ws else []
structure HasD (P:Program) (w:World) (K:PySem.W.Frag) (mg:Str→Option Value) (base:Heap) (n:Nat) (x:Str) (ps:List Str) (sp:Sp) (dvs:List V) (ks:List Str):Prop where
 ex:∃ (f:Addr) (fd:FuncData) (ds:List Value),FnOk P w K mg base CX0 n f fd ps sp∧Binds K fd ps ds∧Vals dvs ds∧KBinds K fd ps ks (gK ks.length) (gK ks.length)∧PySem.W.keepIn K (.ref f)=true∧mg x=some (.ref f)
structure DgD (K:PySem.W.Frag) (mg:Str→Option Value) (x:Str) (st:Stmt) (ps:List Str) (dvs:List V) (ks:List Str):Prop where
 ex:∃ (f:Addr) (fd:FuncData) (ds:List Value),FunD K x st f fd∧Binds K fd ps ds∧Vals dvs ds∧KBinds K fd ps ks (gK ks.length) (gK ks.length)∧mg x=some (.ref f)
section
variable {P:Program} {w:World} {K:PySem.W.Frag} {mg:Str→Option Value} {base:Heap} {x:Str} {ps N ks:List Str} {st:Stmt} {k n:Nat} {fs:FS} {fl:List Fl} {dvs:List V}
end
section
variable {X:Cx} {fl:List Fl} {e ke:Expr} {es:List Expr} {pos p kpos:Pos} {x kn:Str} {ps:List Str} {n:Nat} {F:List D→Option D} {fa:FA} {fk:FE} {i:Int} {dvs:List V}
theorem GR {j pos'} {a:Expr} {f:FE} (h:DE X fl .P a f):DT X fl (.Compare a [.Is] [.Constant .none j pos'] pos) (aP (dUn xq f)):=PT.imp (Ae (Mp h)) fun σ H Q h=>by
 obtain ⟨G,ow,δ,c,R,hf,q⟩:=h
 obtain ⟨d,e1,e2⟩:=bind1 hf
 obtain ⟨x,e3,e4⟩:=bind1 e1
 cases e4
 cases e2
 refine ⟨G,ow,δ,x,R,e3,fun v H1 s1 r1=>?_⟩
 refine ⟨decide (v = .non),rfl,?_⟩
 rw [GD (RA.same (Same.refl H1) r1)]
 exact q H1 s1
end
end D3
namespace D3
open PySem PySem.Spec PyProof.Rows L2 My
section
variable {X:Cx}
theorem zu:∀ {bs:List Bool} {its:List Value},Vals (bs.map V.bl) its→its=bs.map Value.bool
 | [],_,.nil=>rfl
 | b :: r,_,.cons h t=>by
  cases h
  rw [zu t]
  rfl
theorem all_range (bs:List Bool):(aZ bs.length).all (fun i=>bs.getD i false)=bs.all id:=by
 rw [lB,bY,bY]
 constructor
 ·intro h b hb
  obtain ⟨i,hi,rfl⟩:=List.getElem_of_mem hb
  have:=h i (bI.mpr hi)
  rw [aG,aO hi] at this
  exact this
 ·intro h i hi
  have hi:=bI.mp hi
  rw [aG,aO hi]
  exact h _ (dZ hi)
theorem zx {prog:Program} {w:World} {A:Around} (bs:List Bool):TruthOf prog w A (fun i v=>(bs.map Value.bool).toArray[i]? = some v) (fun i=>bs.getD i false):=by
 intro i v s Q E hv hQ
 have hv':(bs.map Value.bool)[i]? = some v:=by simpa using hv
 rw [bf] at hv'
 cases e:bs[i]? with
 | none=>rw [e] at hv';cases hv'
 | some b =>
  rw [e] at hv'
  cases hv'
  have eb:bs.getD i false=b:=by rw [aG,e];rfl
  have hQ':Q (bs.getD i false) s:=hQ
  rw [eb] at hQ'
  exact wpAny_truthy_bool hQ'
theorem lQ (hc:X.calm=true):pN X (.builtin "all") (fun xs H Q=>∃ (p:Addr) (bs:List Bool),xs=[.ref p]∧SqL X.K H p (bs.map V.bl)∧Q (.bl (bs.all id)) H):=by
 intro pins s σ H xs us Q I r h
 obtain ⟨p,bs,rfl,hx,q⟩:=h
 obtain ⟨u,rfl,rx⟩:=vals1 r
 cases rx
 obtain ⟨its,rvs,pl,hz⟩:=I.list hx
 obtain rfl:=zu rvs
 have hl:s.heap.IsList p (bs.map Value.bool).toArray:=pl.isList
 have hlt:p < s.heap.objs.size:=by obtain ⟨_,e,_⟩:=id hl;exact Heap.lt_size e
 refine call_all_walk (wpAny_pyIter_list hl ?_)
 refine ⟨_,_,_,_,_,_,_,rfl,Walks.list (A:=X.A.in1) (I.ok.hd hc) _ p (cL hlt) (bs.map Value.bool).toArray,⟨⟨_,Heap.get?_push_size _ rfl,rfl,rfl⟩,hl.push _⟩,zx bs,fun h' tk hk=>?_⟩
 have e:(bs.map Value.bool).toArray.size=bs.length:=by simp
 rw [e,all_range]
 exact ⟨.bl _,H,I.kept (old_kept hk),rfl,q⟩
theorem v7 {K:PySem.W.Frag} {ok:Ok} {pl:Bool} {H:Hp}:∀ {l:List D} {bs:List Bool} {ys:List V},nu l=some bs→RAs K ok pl H ys l→ys=bs.map V.bl
 | [],_,_,e,.nil=>by cases e;rfl
 | d :: r,bs,_,e,.cons h t=>by
  cases d <;> first | (cases e;done) | skip
  obtain rfl:=h.blE
  cases e2:nu r with
  | none=>rw [nu,e2] at e;cases e
  | some m =>
   rw [nu,e2] at e
   cases e
   rw [v7 e2 t]
   rfl
theorem sZ {K:PySem.W.Frag}:BrC K (fun xs H Q=>∃ (p:Addr) (bs:List Bool),xs=[.ref p]∧SqL K H p (bs.map V.bl)∧Q (.bl (bs.all id)) H) vD:=by
 intro H xs ds d Q r e q
 unfold vD at e
 split at e
 ·next l =>
  cases e2:nu l with
  | none=>rw [e2] at e;cases e
  | some bs =>
   rw [e2] at e
   cases e
   cases r with
   | cons r1 r2 =>
    cases r2
    obtain ⟨a,ys,rfl,hx,hr⟩:=r1.lstE
    obtain rfl:=v7 e2 hr
    exact ⟨a,bs,rfl,hx,q _ rfl (.bl _)⟩
 ·cases e
end
section
variable {X:Cx} {fl:List Fl} {a:Expr} {f:FE} {pos:Pos} {ta:TE}
theorem JM {j pos'} (ha:PE X a ta):PC X .IsNot a (.Constant (.bool true) j pos') (fun σ H Q=>ta σ H fun x H1=>∃ b,x = .bl b∧Q (.bl (!b)) H1):=by
 intro pins s σ H Q I h
 refine thn (ha pins s σ H _ I h) fun v s1 ⟨x,H1,I1,r1,q1⟩=>?_
 obtain ⟨b,rfl,q⟩:=q1
 cases r1
 refine Constant_bool ?_
 cases b
 ·exact wpAny_pure ⟨.bl true,H1,I1,rfl,q⟩
 ·exact wpAny_pure ⟨.bl false,H1,I1,rfl,q⟩
end
section
variable {X:Cx} {fl:List Fl} {a b c:Expr} {f fa fb fc:FE} {pos:Pos}
theorem uL {op op':CmpOp} {r r':R2} {g g':D→D→Option D} (ho:OpR X (compareOp op) r) (ho':OpR X (compareOp op') r') (hb:BrO X.K r g) (hb':BrO X.K r' g') (h1:DE X fl .P a fa) (h2:DE X fl .P b fb) (h3:DE X fl .P c fc)
 (hm:lastMarks [op,op'] [b,c]=false:=by with_unfolding_all rfl):DT X fl (.Compare a [op,op'] [b,c] pos) (aP (iG g g' fa fb fc)):=PT.imp (Ga ho ho' h1 h2 h3 hm) fun σ H Q h=>by
 obtain ⟨G,ow,δ,bb,R,hf,q⟩:=h
 obtain ⟨d,hf,hd⟩:=bind1 hf
 have hd':d = .bool bb:=by cases d <;> first | (cases hd;rfl) | (cases hd;done)
 subst hd'
 obtain ⟨x,e1,hf⟩:=bind1 hf
 obtain ⟨y,e2,hf⟩:=bind1 hf
 obtain ⟨z,e3,hf⟩:=bind1 hf
 refine ⟨G,ow,δ,x,R,e1,fun v H1 s1 r1=>⟨G,ow,δ,y,R.grow s1,e2,fun u H2 s2 r2=>?_⟩⟩
 refine hb H2 v u x y z _ (RA.same s2 r1) r2 e3 fun zv hz rz=>?_
 split at hf
 ·obtain rfl:=rz.blE
  obtain ⟨w,e4,e5⟩:=bind1 hf
  refine ⟨true,rfl,xg ⟨G,ow,δ,w,R.grow (s1.trans s2),e4,fun wv H3 s3 r3=>?_⟩⟩
  refine hb' H3 u wv y w _ _ (RA.same s3 r2) r3 e5 fun z hz rz=>?_
  obtain rfl:=rz.blE
  exact ⟨_,rfl,q H3 (s1.trans (s2.trans s3))⟩
 ·obtain rfl:=rz.blE
  cases hf
  exact ⟨false,rfl,wZ ⟨_,rfl,q H2 (s1.trans s2)⟩⟩
 ·cases hf
theorem Cz {j pos'} (h:DE X fl .P a f):DT X fl (.Compare a [.IsNot] [.Constant (.bool true) j pos'] pos) (aP (dUn mQ f)):=PT.imp (Ae (JM h)) fun σ H Q h=>by
 obtain ⟨G,ow,δ,bb,R,hf,q⟩:=h
 obtain ⟨d,hf,hd⟩:=bind1 hf
 obtain ⟨x,e1,e2⟩:=bind1 hf
 cases x <;> first | (cases e2;done) | skip
 cases e2
 cases hd
 refine ⟨G,ow,δ,_,R,e1,fun v H1 s1 r1=>?_⟩
 obtain rfl:=RA.blE r1
 exact ⟨_,rfl,_,rfl,q H1 s1⟩
theorem CG {j pos'} (h:DE X fl .P a f):DT X fl (.Compare a [.IsNot] [.Constant .none j pos'] pos) (aP (dUn pP f)):=PT.imp (Ae (Ja h)) fun σ H Q h=>by
 obtain ⟨G,ow,δ,bb,R,hf,q⟩:=h
 obtain ⟨d,hf,hd⟩:=bind1 hf
 obtain ⟨x,e1,e2⟩:=bind1 hf
 cases e2
 cases hd
 refine ⟨G,ow,δ,x,R,e1,fun v H1 s1 r1=>?_⟩
 refine ⟨!decide (v = .non),rfl,?_⟩
 rw [GD (RA.same (Same.refl H1) r1)]
 exact q H1 s1
end
noncomputable def Itz (K:PySem.W.Frag) (a b:Addr):It :=
 ⟨fun i H=>∃ xs ys x y,SqL K H a xs∧SqL K H b ys∧xs[i]? = some x∧ys[i]? = some y,
  fun i H x H'=>∃ p u v,H p=none∧H'=upd H p (.tup [u,v])∧x = .ref p∧(∀ xs,SqL K H a xs→xs[i]? = some u)∧∀ ys,SqL K H b ys→ys[i]? = some v,
  fun i H=>∃ xs ys,SqL K H a xs∧SqL K H b ys∧(xs.length ≤ i∨ys.length ≤ i)⟩
theorem v8 {h:Heap} {z TI TO i1 i2 l1 l2:Addr} {k1 k2:Nat} {f0 a b:Value} {x y:Value} {xs ys:Array Value} (hz:IsZip h z TI TO f0) (hTI:IsPair h TI x y) (hTO:IsPair h TO a b) (h1:h.IsListIter i1 l1 k1) (h2:h.IsListIter i2 l2 k2) (hl1:h.IsList l1 xs) (hl2:h.IsList l2 ys) (nT:TI ≠ TO) (ni:i1 ≠ i2) :
 ZipApart z TI TO i1 i2 l1 l2:=by
 obtain ⟨o1,e1,c1,d1⟩:=h1
 obtain ⟨o2,e2,c2,d2⟩:=h2
 obtain ⟨p1,g1,k1,m1⟩:=hl1
 obtain ⟨p2,g2,k2,m2⟩:=hl2
 have ne:∀ {u v:Addr} {o o':Obj},h.get? u=some o→h.get? v=some o'→o.cls ≠ o'.cls→u ≠ v:=fun e e' n z=>by
  subst z
  rw [e] at e'
  cases e'
  exact n rfl
 exact ⟨ne hTI hz (by simp),ne hTO hz (by simp),ne e1 hz (by rw [c1];simp),ne e2 hz (by rw [c2];simp),nT,ne hTI e1 (by rw [c1];simp),ne hTI e2 (by rw [c2];simp),ne hTO e1 (by rw [c1];simp),ne hTO e2 (by rw [c2];simp),ni,
  ne g1 hz (by rw [k1];simp),ne g1 hTO (by rw [k1];simp),ne g1 e1 (by rw [k1,c1];simp),ne g1 e2 (by rw [k1,c2];simp),ne g2 hz (by rw [k2];simp),ne g2 hTO (by rw [k2];simp),ne g2 e1 (by rw [k2,c1];simp),ne g2 e2 (by rw [k2,c2];simp)⟩
theorem GX {P:Program} {w:World} {K:PySem.W.Frag} {elts:List Expr} {x1} {tpos:Pos} (a b z TI TO i1 i2:Addr) (nT:TI ≠ TO) (ni:i1 ≠ i2) :
 Turn P w K (.Tuple elts x1 tpos) (Itz K a b) [z,TI,TO,i1,i2] z (fun i h=>IsZip h z TI TO .none∧IsPair h TI (.ref i1) (.ref i2)∧(∃ u v,IsPair h TO u v)∧h.IsListIter i1 a i∧h.IsListIter i2 b i) where
 mem:=by simp
 obj:=fun i h st c hc=>by
  obtain ⟨hz,hTI,⟨u,v,hTO⟩,⟨o1,e1,c1,d1⟩,⟨o2,e2,c2,d2⟩⟩:=st
  simp only [bQ,bW,kW,or_false] at hc
  rcases hc with rfl | rfl | rfl | rfl | rfl
  ·exact ⟨_,hz,fun v z=>by cases z⟩
  ·exact ⟨_,hTI,fun v z=>by cases z⟩
  ·exact ⟨_,hTO,fun v z=>by cases z⟩
  ·exact ⟨o1,e1,fun v z=>by rw [d1] at z;cases z⟩
  ·exact ⟨o2,e2,fun v z=>by rw [d2] at z;cases z⟩
 keep:=fun i h h' st k=>by
  obtain ⟨hz,hTI,⟨u,v,hTO⟩,h1,h2⟩:=st
  exact ⟨k _ (by simp) _ hz,k _ (by simp) _ hTI,⟨u,v,k _ (by simp) _ hTO⟩,h1.at fun o e=>k i1 (by simp) o e,h2.at fun o e=>k i2 (by simp) o e⟩
 item:=by
  intro X hP hw hK hc i pins s σ H E I hf st hg
  subst hP hw hK
  obtain ⟨xs,ys,x,y,hqa,hqb,hx,hy⟩:=hg
  obtain ⟨itsa,rva,pa,hza⟩:=I.list hqa
  obtain ⟨itsb,rvb,pb,hzb⟩:=I.list hqb
  obtain ⟨ua,hua,rua⟩:=rva.get hx
  obtain ⟨ub,hub,rub⟩:=rvb.get hy
  obtain ⟨hz,hTI,⟨u,v,hTO⟩,h1,h2⟩:=st
  have D:=v8 hz hTI hTO h1 h2 pa.isList pb.isList nT ni
  have lts:∀ c ∈ [z,TI,TO,i1,i2],c < s.heap.objs.size:=fun c hc=>by
   simp only [bQ,bW,kW,or_false] at hc
   rcases hc with rfl | rfl | rfl | rfl | rfl
   ·exact Heap.lt_size hz
   ·exact Heap.lt_size hTI
   ·exact Heap.lt_size hTO
   ·obtain ⟨o,e,_⟩:=h1;exact Heap.lt_size e
   ·obtain ⟨o,e,_⟩:=h2;exact Heap.lt_size e
  refine wpAny_pyNext_zip_item D hz hTI hTO h1 h2 pa.isList pb.isList (x:=ua) (y:=ub) (by simpa using hua) (by simpa using hub) fun hh g1 g2 g3 g4 g5 g6 g7=>?_
  refine ⟨_,rfl,wpAny_letOwnedTupleGo_zip g1 fun hh2 e1 e2=>?_⟩
  replace e2:Heap.SameBut z hh hh2:=e2
  have hn:H s.heap.objs.size=none:=I.hok.fresh (bG _)
  have I0:Inv X pins σ (upd H s.heap.objs.size (.tup [x,y])) { s with heap:=s.heap.push { cls:=.type "tuple", data:=.seq #[ua,ub] } } :=
   I.laid (t':=s.toks) (fun b o e=>Heap.get?_push_of_some _ e) (bG _) ⟨show 2 ≤ sizeLine by decide,[ua,ub],.cons rua (.cons rub .nil),⟨_,Heap.get?_push_size _ rfl,rfl,_,rfl⟩⟩
  have ne:∀ c,c ∈ [z,TI,TO,i1,i2]→c ≠ s.heap.objs.size:=fun c hc=>cL (lts c hc)
  have I1:Inv X pins σ (upd H s.heap.objs.size (.tup [x,y])) { s with heap:=hh2,toks:=s.toks }:=by
   refine Inv.turnedL (s:={ s with heap:=s.heap.push { cls:=.type "tuple", data:=.seq #[ua,ub] } }) (ch:=[z,TI,TO,i1,i2]) I0 (fun c o hc e=>?_) fun c hc=>⟨by rw [dG (ne c hc)];exact (hf c hc).1,(hf c hc).2⟩
   have b1:c ≠ z:=fun q=>hc (by simp [q])
   have b2:c ≠ TO:=fun q=>hc (by simp [q])
   have b3:c ≠ i1:=fun q=>hc (by simp [q])
   have b4:c ≠ i2:=fun q=>hc (by simp [q])
   rcases Heap.get?_push_cases e with ⟨e3,e4⟩ | e3
   ·subst e3 e4
    exact (e2.2 _ b1).trans g5
   ·exact (e2.2 _ b1).trans (g7 c o b1 b2 b3 b4 e3)
  refine ⟨.ref s.heap.objs.size,_,I1,rfl,⟨_,x,y,hn,rfl,rfl,fun zs hz'=>by rw [I.list_inj hz' hqa];exact hx,fun zs hz'=>by rw [I.list_inj hz' hqb];exact hy⟩,⟨e1,(e2.2 _ D.TIz).trans (g7 _ _ D.TIz D.TITO D.TIi1 D.TIi2 hTI),⟨_,_,(e2.2 _ D.TOz).trans g2⟩,g3.at fun o e=>(e2.2 _ D.i1z).trans e,g4.at fun o e=>(e2.2 _ D.i2z).trans e⟩,fun c hc=>?_⟩
  rw [dG (ne c hc)]
  exact (hf c hc).1
 done:=by
  intro X hP hw hK hc i pins s σ H E I hf st hg
  subst hP hw hK
  obtain ⟨xs,ys,hqa,hqb,hx⟩:=hg
  obtain ⟨itsa,rva,pa,hza⟩:=I.list hqa
  obtain ⟨itsb,rvb,pb,hzb⟩:=I.list hqb
  obtain ⟨hz,hTI,⟨u,v,hTO⟩,h1,h2⟩:=st
  have D:=v8 hz hTI hTO h1 h2 pa.isList pb.isList nT ni
  have la:=rva.length
  have lb:=rvb.length
  refine wpAny_pyNext_zip_end (I.ok.hd hc) D hz hTI hTO h1 h2 pa.isList pb.isList ?_ fun h' eb=>⟨rfl,Inv.turnedL (t':=s.toks) (ch:=[z,TI,TO,i1,i2]) I (fun c o hc e=>eb c o (fun q=>hc (by simp [q])) (fun q=>hc (by simp [q])) (fun q=>hc (by simp [q])) (fun q=>hc (by simp [q])) e) hf⟩
  rcases hx with hx | hx
  ·exact .inl (by simp;omega)
  ·exact .inr (by simp;omega)
 self:=fun _ _ _ _ _ st h=>wpAny_pyIter_zip st.1 h
section
variable {X:Cx} {fl:List Fl} {a b:Expr} {f g:FE} {pos:Pos}
noncomputable def Tp (K:PySem.W.Frag) (ta tb:TE):TI:=fun σ H R=>ta σ H fun x H1=>tb σ H1 fun y H2=>∃ p q,x = .ref p∧y = .ref q∧(∃ xs,SqL K H2 p xs)∧(∃ ys,SqL K H2 q ys)∧R (Itz K p q) H2
theorem boot_zip:bootBuiltins "zip" = some (.type "zip"):=by decide +kernel
theorem Nu {elts:List Expr} {x1} {tpos p:Pos} {ta tb:TE} (hg:Gl X "zip") (hm:X.mg "zip" = none) (ha:PE X a ta) (hb:PE X b tb) (he:starEach [a,b] X.env=(false,eval a X.env) :: starEach [b] X.env:=by rfl) (he2:starEach [b] X.env=(false,eval b X.env) :: starEach [] X.env:=by rfl)
 (hpl:(backTo pos (starEach [b] X.env)).any (·.1)=false:=by rfl):PI X (.Tuple elts x1 tpos) (.Call (.Name "zip" p) [a,b] [] pos) (Tp X.K ta tb):=by
 intro pins s σ H R I h
 refine wpAny_Call_Name_kw (pX I hg hm boot_zip (PyProof.Rows.callWith_type1 (thn ((gU ha (gU hb m9 he2) he) pos pins s σ H (fun vs H1=>match vs with | [x,y]=>∃ p q,x = .ref p∧y = .ref q∧(∃ xs,SqL X.K H1 p xs)∧(∃ ys,SqL X.K H1 q ys)∧R (Itz X.K p q) H1 | _=>False) I h) fun us s1 ⟨vs,H1,I1,r1,q1⟩=>?_) he hpl))
 cases r1 with
 | nil=>exact q1.elim
 | cons r rr =>
  cases rr with
  | nil=>exact q1.elim
  | cons r' rr' =>
  cases rr' with
  | cons _ _=>exact q1.elim
  | nil =>
  obtain ⟨l,m,e,e',⟨xs,hq⟩,⟨ys,hq'⟩,q⟩:=q1
  subst e e'
  cases r
  cases r'
  obtain ⟨its,rv,pl,hz⟩:=I1.list hq
  obtain ⟨its',rv',pl',hz'⟩:=I1.list hq'
  refine call_zip_2 pl.isList pl'.isList fun h' g1 g2 g3 g4 g5 g6 hk=>?_
  have I2:Inv X pins σ H1 { s1 with heap:=h' }:=I1.kept (t':=s1.toks) hk
  refine wpAny_pyIter_zip (s:={ s1 with heap:=h' }) g1 ?_
  refine ⟨s1.heap.objs.size + 4,[s1.heap.objs.size + 4,s1.heap.objs.size + 2,s1.heap.objs.size + 3,s1.heap.objs.size,s1.heap.objs.size + 1],_,_,H1,rfl,I2,GX l m (s1.heap.objs.size + 4) (s1.heap.objs.size + 2) (s1.heap.objs.size + 3) s1.heap.objs.size (s1.heap.objs.size + 1) (cL (kO _)) (cL (kO _)),⟨g1,g2,⟨_,_,g3⟩,g4,g5⟩,fun b hb=>?_,q⟩
  have hb':s1.heap.objs.size ≤ b:=by
   simp only [bQ,bW,kW,or_false] at hb
   rcases hb with rfl | rfl | rfl | rfl | rfl <;> omega
  exact I1.fpOk hb' (I1.hok.fresh hb')
theorem zy:∀ (l m:List D) (i:Nat),(o8 l m)[i]? = (l[i]?).bind fun x=>(m[i]?).map fun y=>PyData.tuple [x,y]
 | [],_,i=>by simp [o8]
 | _ :: _,[],i=>by cases i <;> simp [o8]
 | x :: l,y :: m,0=>by simp [o8]
 | x :: l,y :: m,i + 1=>by simp [o8,zy l m i]
theorem zA:∀ (l m:List D),(o8 l m).length=min l.length m.length
 | [],_=>by simp [o8]
 | _ :: _,[]=>by simp [o8]
 | x :: l,y :: m=>by simp [o8,zA l m]
theorem RsB.same {K:PySem.W.Frag} {G:Gh} {ow:Ow} {Hb H H':Hp} {L:List Nat} {v:V} {d:D} (e:Same H H') (h:Rs K G.H0 ow Hb H (.B L) v d):Rs K G.H0 ow Hb H' (.B L) v d:=by
 rcases h with h | ⟨i,hi,a,xs,ds,h1,h2,h3,h4,h5⟩
 ·exact .inl (RA.same e h)
 ·exact .inr ⟨i,hi,a,xs,ds,h1,h2,h3,e _ _ h4,h5.same e⟩
theorem Nv {elts:List Expr} {x1} {tpos p:Pos} {L1 L2 L:List Nat} (ha:DE X fl (.B L1) a f) (hb:DE X fl (.B L2) b g) (hg:Gl X "zip") (hm:X.mg "zip" = none) (hL:L=L1++L2:=by rfl)
 (he:starEach [a,b] X.env=(false,eval a X.env) :: starEach [b] X.env:=by rfl) (he2:starEach [b] X.env=(false,eval b X.env) :: starEach [] X.env:=by rfl)
 (hpl:(backTo pos (starEach [b] X.env)).any (·.1)=false:=by rfl):DI X fl L (.Tuple elts x1 tpos) (.Call (.Name "zip" p) [a,b] [] pos) (Ju f g):=PI.imp (Nu hg hm ha hb he he2 hpl) fun σ H R' h=>by
 subst hL
 obtain ⟨G,ow,δ,l,R,hf,q⟩:=h
 obtain ⟨d,e1,hf⟩:=bind1 hf
 obtain ⟨d',e2,hf⟩:=bind1 hf
 obtain ⟨l0,rfl⟩:∃ l0,d = .list l0:=by cases d <;> first | exact ⟨_,rfl⟩ | (cases hf;done)
 obtain ⟨m0,rfl⟩:∃ m0,d' = .list m0:=by cases d' <;> first | exact ⟨_,rfl⟩ | (cases hf;done)
 cases hf
 refine ⟨G,ow,δ,_,R,e1,fun v H1 s1 r1=>⟨G,ow,δ,_,R.grow s1,e2,fun v' H2 s2 r2=>?_⟩⟩
 have r1':=RsB.same s2 r1
 obtain ⟨pa,xs,rfl,hx,keepa⟩:=rP ((R.grow s1).grow s2) r1'
 obtain ⟨pb,ys,rfl,hy,keepb⟩:=rP ((R.grow s1).grow s2) r2
 refine ⟨pa,pb,rfl,rfl,⟨xs,hx⟩,⟨ys,hy⟩,q _ _ (s1.trans s2) fun H3 k3 i=>?_⟩
 obtain ⟨a1,a2⟩:=keepa H3 fun b o e z=>k3 b o e fun i w=>dX _ (z i w)
 obtain ⟨b1,b2⟩:=keepb H3 fun b o e z=>k3 b o e fun i w=>bB _ (z i w)
 refine ⟨fun d hd=>?_,fun hl=>⟨xs,ys,a1,b1,?_⟩⟩
 ·rw [zy] at hd
  cases ea:l0[i]? with
  | none=>rw [ea] at hd;cases hd
  | some x0 =>
   cases eb:m0[i]? with
   | none=>rw [ea,eb] at hd;cases hd
   | some y0 =>
    rw [ea,eb] at hd
    cases hd
    obtain ⟨x,hx1,rx⟩:=a2.get ea
    obtain ⟨y,hy1,ry⟩:=b2.get eb
    refine ⟨⟨xs,ys,x,y,a1,b1,hx1,hy1⟩,fun z H4 hyl=>?_⟩
    obtain ⟨p',u,v,hp,rfl,rfl,hu,hv⟩:=hyl
    have eu:some x=some u:=hx1.symm.trans (hu xs a1)
    have ev:some y=some v:=hy1.symm.trans (hv ys b1)
    cases eu
    cases ev
    have gg:=gW hp (.tup [x,y])
    exact ⟨gg,.tup fH (.cons (rx.same gg) (.cons (ry.same gg) .nil))⟩
 ·rw [zA] at hl
  rw [a2.length,b2.length]
  omega
end
end D3
namespace D3
open PySem PySem.Spec PyProof.Rows L2 My
noncomputable def Tq (K:PySem.W.Frag) (fl:List Fl) (f:FA):TA:=fun σ H Q=>∃ G ow δ ds,Rel K fl G ow σ H δ∧f δ=some ds∧∀ vs H',Same H H'→(∃ as,RTs K H' vs ds as∧as.Nodup∧∀ a ∈ as,H a=none)→Q vs H'
noncomputable abbrev DBT (X:Cx) (fl:List Fl) (es:List Expr) (f:FA):Prop:=PA X es (Tq X.K fl f)
theorem RTs.length {K:PySem.W.Frag} {H:Hp}:∀ {v:List V} {d:List D} {as:List Addr},RTs K H v d as→v.length=d.length
 | _,_,_,.nil=>rfl
 | _,_,_,.cons _ q=>by simp [RTs.length q]
section
variable {X:Cx} {fl:List Fl} {e a b c:Expr} {es rest:List Expr} {k:Kd} {f fa fb fc:FE} {ft gt:FT} {pos:Pos}
theorem JN:DBT X fl [] aM:=PA.imp m9 fun σ H Q h=>by
 obtain ⟨G,ow,δ,ds,R,hf,q⟩:=h
 cases hf
 exact q [] H (Same.refl H) ⟨[],.nil,.nil,fun _ z=>by cases z⟩
theorem zB {fr:FA} (h:DE X fl .T e f) (hr:DBT X fl es fr) (hs:starEach (e :: es) X.env=(false,eval e X.env) :: starEach es X.env:=by exact jy rfl):DBT X fl (e :: es) (aF f fr):=PA.imp (gU h hr hs) fun σ H Q h=>by
 obtain ⟨G,ow,δ,ds,R,hf,q⟩:=h
 obtain ⟨d,e1,hf⟩:=bind1 hf
 obtain ⟨r,e2,hf⟩:=bind1 hf
 cases hf
 refine ⟨G,ow,δ,d,R,e1,fun v H1 s1 r1=>⟨G,ow,δ,r,R.grow s1,e2,fun vs H2 s2 r2=>?_⟩⟩
 obtain ⟨as,h1,h2,h3⟩:=r1
 obtain ⟨bs,g1,g2,g3⟩:=r2
 refine q _ H2 (s1.trans s2) ⟨as++bs,.cons (h1.same s2) g1,gP.mpr ⟨h2,g2,fun x hx y hy z=>?_⟩,fun x hx=>?_⟩
 ·subst z
  exact h1.tracked x hx (g3 x hy)
 ·rcases cV.mp hx with z | z
  ·exact h3 x z
  ·exact s1.free (g3 x z)
theorem JQ {fa:FA} (h:DBT X fl es fa):DE X fl .T (.List es pos) (dR fa):=PE.imp (Ai h) fun σ H Q h=>by
 obtain ⟨G,ow,δ,d,R,hf,q⟩:=h
 obtain ⟨l,e1,e2⟩:=bind1 hf
 by_cases z:l.length ≤ sizeLine
 ·rw [if_pos z] at e2
  cases e2
  refine ⟨G,ow,δ,l,R,e1,fun vs H' s r=>?_⟩
  obtain ⟨as,h1,h2,h3⟩:=r
  refine ⟨by rw [h1.length];exact z,fun p hp=>?_⟩
  have g:=gW hp (.lst vs)
  refine q _ _ (s.trans g) ⟨p :: as,.lst fH (h1.same g),cG.mpr ⟨fun w=>h1.tracked p w hp,h2⟩,fun x hx=>?_⟩
  rcases bQ.mp hx with rfl | w
  ·exact s.free hp
  ·exact h3 x w
 ·rw [if_neg z] at e2
  cases e2
theorem Lr (h:DE X fl .C e f):DE X fl .T e (dN1 f):=uG h fun Hb H G ow σ δ v d hp R r=>by
 obtain ⟨as,h1,h2,h3⟩:=RA.rt r
 have hl:as.length ≤ 1:=by rw [h2];exact of_decide_eq_true hp
 refine ⟨as,h1,?_,h3⟩
 cases as with
 | nil=>exact .nil
 | cons x r =>
  cases r with
  | nil=>exact cG.mpr ⟨kW,.nil⟩
  | cons y r=>simp at hl
theorem Ls (h:DE X fl .T e f):DE X fl .C e f:=mU h fun Hb H G ow σ δ v d R r=>by
 obtain ⟨as,h1,h2,h3⟩:=r
 exact h1.ra h3
theorem tY (i:Nat) (hn:isN fl[i]? = true) {x:Str} (hN:X.N[i]? = some x:=by rfl) (hv:Vis X.env.scope x:=by first | exact Or.inl rfl | exact Or.inr (Or.inl rfl) | exact Or.inr (Or.inr rfl)) (hd:(x == ("__debug__" : Str))=false:=by decide)
 (hcd:(x == ("__classdict__" : Str))=false:=by decide):DE X fl .P (.Name x pos) (ao i):=by
 refine PE.imp (lC hN hv hd hcd) fun σ H Q h=>?_
 obtain ⟨G,ow,δ,d,R,hf,q⟩:=h
 obtain ⟨v,h1,h2,_⟩:=R.nr i d hn (mR hf)
 exact ⟨v,h1,q v H (Same.refl H) (h2.ra fun _ _=>trivial)⟩
theorem GZ (hk:isR k=true) (ha:DE X fl k a fa) (hb:DE X fl .P b fb) (hs:qz b):DE X fl k (.Subscript a b pos) (dOp gIx fa fb):=PE.imp (Ge Ak ha hb hs) fun σ H Q h=>by
 obtain ⟨G,ow,δ,d,R,hf,q⟩:=h
 obtain ⟨x,y,e1,e2,e3⟩:=yZ hf
 refine ⟨G,ow,δ,x,R,e1,fun v H1 s1 r1=>⟨G,ow,δ,y,R.grow s1,e2,fun u H2 s2 r2=>?_⟩⟩
 have q1:=(r1.ra hk).same s2
 unfold gIx at e3
 split at e3
 ·next l i =>
  obtain rfl:=RA.intE r2
  obtain ⟨p,xs,rfl,hx,hr⟩:=q1.lstE
  obtain ⟨z,ez,rz⟩:=hr.at e3
  exact .inl ⟨p,xs,i,z,rfl,rfl,hx,ez,q z H2 (s1.trans s2) (Rs.of_ra hk rz)⟩
 ·next l i =>
  obtain rfl:=RA.intE r2
  obtain ⟨p,xs,rfl,hx,hr⟩:=q1.tupE
  obtain ⟨z,ez,rz⟩:=hr.at e3
  exact .inr (.inl ⟨p,xs,i,z,rfl,rfl,hx,ez,q z H2 (s1.trans s2) (Rs.of_ra hk rz)⟩)
 ·cases e3
end
section
variable {K:PySem.W.Frag} {fl:List Fl}
noncomputable def owN (ow:Ow) (i:Nat) (as:List Addr):Ow:=⟨ow.s,fun j=>if j=i then as else ow.n j⟩
theorem lg {ow:Ow} {i:Nat} {as:List Addr}:(owN ow i as).n i=as:=if_pos rfl
theorem jR {ow:Ow} {i j:Nat} {as:List Addr} (h:j ≠ i):(owN ow i as).n j=ow.n j:=if_neg h
theorem Rel.setN {G:Gh} {ow:Ow} {σ:St} {H H':Hp} {δ:DS} {i:Nat} {v:V} {d:D} (R:Rel K fl G ow σ H δ) (s:Same H H') (hfl:fl[i]? = some .N) (hi:i < σ.length) (r:Rs K G.H0 ow H H' .T v d) :
 ∃ ow',Rel K fl G ow' (σ.set i (some v)) H' (δ.set i (some (.d d))):=by
 have R':=R.grow s
 obtain ⟨as,h1,h2,h3⟩:=r
 have no:∀ a,ow i ≠ some a:=fun a z=>by
  obtain ⟨_,hz,_⟩:=R.own i a z
  rw [hfl] at hz
  rcases hz with ⟨z,_⟩ | ⟨z,_⟩ <;> cases z
 have sub:∀ b,okA ow b∧H b ≠ none→okA (owN ow i as) b:=fun b z=>⟨z.1.1,fun j e=>by
  by_cases hj:j=i
  ·subst hj
   rw [lg] at e
   exact z.2 (h3 b e)
  ·rw [jR hj] at e
   exact z.1.2 j e⟩
 have old:∀ {v:V} {d:D},RA K (okA ow) true H v d→RA K (okA (owN ow i as)) true H' v d:=fun r=>(r.track.imp sub (fun z=>z)).same s
 have olds:∀ {v:List V} {d:List D},RAs K (okA ow) true H v d→RAs K (okA (owN ow i as)) true H' v d:=fun r=>(r.track.imp sub (fun z=>z)).same s
 refine ⟨owN ow i as,R'.s0,R'.s1,by rw [bM,bM];exact R.len,fun j a h=>?_,R.inj,R.pin,fun j d' g1 gn g2=>?_,fun j d' g1 gn g2 g3=>?_,fun j a h=>?_,fun j j' a h h'=>?_,fun j j' a h=>?_,fun j h=>?_,fun j d' gn g1=>?_⟩
 ·have hj:j ≠ i:=fun z=>no a (z ▸ h)
  obtain ⟨h0,hf,xs,ds,g1,g2,g3,g4⟩:=R.own j a h
  exact ⟨h0,hf,xs,ds,by rw [aL (Ne.symm hj)];exact g1,s _ _ g2,olds g3,by rw [aL (Ne.symm hj)];exact g4⟩
 ·rcases fO g1 with ⟨rfl,e⟩ | ⟨hj,e⟩
  ·rw [hfl] at gn;cases gn
  ·obtain ⟨v',g3,g4⟩:=R.dat j d' e gn g2
   exact ⟨v',by rw [aL (Ne.symm hj)];exact g3,old g4⟩
 ·rcases fO g1 with ⟨rfl,e⟩ | ⟨hj,e⟩
  ·rw [hfl] at gn;cases gn
  ·exact R.oo j d' e gn g2 g3
 ·by_cases hj:j=i
  ·subst hj
   rw [lg] at h
   exact ⟨R.same0.free (h3 a h),h1.chd a h,.inl ⟨hfl,R.s1.free (h3 a h)⟩⟩
  ·rw [jR hj] at h
   exact R'.nt j a h
 ·by_cases hj:j=i
  ·by_cases hj':j'=i
   ·rw [hj,hj']
   ·subst hj
    rw [lg] at h
    rw [jR hj'] at h'
    exact absurd (h3 a h) (R.nt j' a h').2.1.ne
  ·rw [jR hj] at h
   by_cases hj':j'=i
   ·subst hj'
    rw [lg] at h'
    exact absurd (h3 a h') (R.nt j a h).2.1.ne
   ·rw [jR hj'] at h'
    exact R.nd j j' a h h'
 ·by_cases hj:j=i
  ·subst hj
   rw [lg] at h
   exact fun z=>by
    obtain ⟨_,_,_,_,_,g2,_⟩:=R.own j' a z
    rw [h3 a h] at g2
    cases g2
  ·rw [jR hj] at h
   exact R.ns j j' a h
 ·have hj:j ≠ i:=fun z=>by subst z;rw [hfl] at h;cases h
  rw [jR hj]
  exact R.np j h
 ·rcases fO g1 with ⟨rfl,e⟩ | ⟨hj,e⟩
  ·cases e
   exact ⟨v,by rw [bH hi],by rw [lg];exact h1,by rw [lg];exact h2⟩
  ·obtain ⟨v',g3,g4⟩:=R'.nr j d' gn e
   exact ⟨v',by rw [aL (Ne.symm hj)];exact g3,by rw [jR hj];exact g4⟩
theorem Rel.mutN {G:Gh} {ow:Ow} {σ:St} {H:Hp} {δ:DS} {i:Nat} {a:Addr} {u u':HO} [cu:Chg u] [cu':Chg u'] {d:D} {v:V} {as:List Addr} (R:Rel K fl G ow σ H δ) (hfl:fl[i]? = some .N) (hi:i < δ.length) (ha:a ∈ ow.n i) (hx:H a=some u) (hv:σ[i]? = some (some v))
 (hr:RT K (upd H a u') v d as) (hs:∀ b ∈ as,b ∈ ow.n i) (hd:as.Nodup):∃ ow',Rel K fl G ow' σ (upd H a u') (δ.set i (some (.d d))):=by
 have na:¬ okA ow a:=fun z=>z.2 i ha
 have hF:G.HF a=none:=by
  rcases (R.nt i a ha).2.2 with ⟨_,z⟩ | z
  ·exact z
  ·rw [hfl] at z;cases z
 have no:∀ a,ow i ≠ some a:=fun a z=>by
  obtain ⟨_,hz,_⟩:=R.own i a z
  rw [hfl] at hz
  rcases hz with ⟨z,_⟩ | ⟨z,_⟩ <;> cases z
 have sub:∀ b,okA ow b→okA (owN ow i as) b:=fun b z=>⟨z.1,fun j e=>by
  by_cases hj:j=i
  ·subst hj
   rw [lg] at e
   exact z.2 j (hs b e)
  ·rw [jR hj] at e
   exact z.2 j e⟩
 have tr:∀ b,Chd (H b)→Chd (upd H a u' b):=fun b z=>by
  by_cases hb:b=a
  ·rw [hb,fH];exact ⟨_,rfl,cu'⟩
  ·rw [dG hb];exact z
 refine ⟨owN ow i as,R.s0,fun b o hb=>?_,by rw [bM];exact R.len,fun j b h=>?_,R.inj,R.pin,fun j d' g1 gn g2=>?_,fun j d' g1 gn g2 g3=>?_,fun j b h=>?_,fun j j' b h h'=>?_,fun j j' b h=>?_,fun j h=>?_,fun j d' gn g1=>?_⟩
 ·rw [dG (fun z=>by subst z;rw [hF] at hb;cases hb)]
  exact R.s1 b o hb
 ·have hj:j ≠ i:=fun z=>no b (z ▸ h)
  obtain ⟨h0,hf,zs,ds,g1,g2,g3,g4⟩:=R.own j b h
  have hb:b ≠ a:=fun z=>R.ns i j a ha (z ▸ h)
  exact ⟨h0,hf,zs,ds,g1,by rw [dG hb];exact g2,(g3.upd hx na).imp sub (fun z=>z),by rw [aL (Ne.symm hj)];exact g4⟩
 ·rcases fO g1 with ⟨rfl,e⟩ | ⟨hj,e⟩
  ·rw [hfl] at gn;cases gn
  ·obtain ⟨v',g3,g4⟩:=R.dat j d' e gn g2
   exact ⟨v',g3,(g4.upd hx na).imp sub (fun z=>z)⟩
 ·rcases fO g1 with ⟨rfl,e⟩ | ⟨hj,e⟩
  ·rw [hfl] at gn;cases gn
  ·exact R.oo j d' e gn g2 g3
 ·by_cases hj:j=i
  ·subst hj
   rw [lg] at h
   obtain ⟨g1,g2,g3⟩:=R.nt j b (hs b h)
   exact ⟨g1,tr b g2,g3⟩
  ·rw [jR hj] at h
   obtain ⟨g1,g2,g3⟩:=R.nt j b h
   exact ⟨g1,tr b g2,g3⟩
 ·have old:∀ j b,b ∈ (owN ow i as).n j→b ∈ ow.n j:=fun j b h=>by
   by_cases hj:j=i
   ·subst hj;rw [lg] at h;exact hs b h
   ·rw [jR hj] at h;exact h
  exact R.nd j j' b (old j b h) (old j' b h')
 ·by_cases hj:j=i
  ·subst hj;rw [lg] at h;exact R.ns j j' b (hs b h)
  ·rw [jR hj] at h;exact R.ns j j' b h
 ·have hj:j ≠ i:=fun z=>by subst z;rw [hfl] at h;cases h
  rw [jR hj]
  exact R.np j h
 ·rcases fO g1 with ⟨rfl,e⟩ | ⟨hj,e⟩
  ·cases e
   exact ⟨v,hv,by rw [lg];exact hr,by rw [lg];exact hd⟩
  ·obtain ⟨v',g3,g4,g5⟩:=R.nr j d' gn e
   exact ⟨v',g3,by rw [jR hj];exact g4.upd hx (fun z=>hj (R.nd j i a z ha)),by rw [jR hj];exact g5⟩
end
section
variable {K:PySem.W.Frag} {H:Hp}
theorem RTs.part {m:List D}:∀ {vs:List V} {ds:List D} {as:List Addr} {k:Nat},RTs K H vs ds as→ds[k]? = some (.list m)→∃ a xs bs,vs[k]? = some (.ref a)∧H a=some (.lst xs)∧RTs K H xs m bs∧a ∈ as∧(∀ b ∈ bs,b ∈ as) ∧
 (as.Nodup→a ∉ bs∧bs.Nodup∧∀ ys m' bs',RTs K (L2.upd H a (.lst ys)) ys m' bs'→(∀ b ∈ bs',b ∈ bs)→bs'.Nodup→∃ as',RTs K (L2.upd H a (.lst ys)) vs (ds.set k (.list m')) as'∧as'.Nodup∧∀ b ∈ as',b ∈ as)
 | _,_,_,_,.nil,h=>by simp at h
 | _,_,_,0,.cons e q,h=>by
  simp at h
  subst h
  cases e with
  | lst hx r =>
   rename_i bs2 a xs as
   refine ⟨a,xs,as,rfl,hx,r,by simp,fun b hb=>by simp [hb],fun nd=>?_⟩
   obtain ⟨n1,n2,n3⟩:=gP.mp nd
   obtain ⟨n4,n5⟩:=cG.mp n1
   refine ⟨n4,n5,fun ys m' bs' h1 h2 h3=>⟨(a :: bs')++bs2,?_,?_,?_⟩⟩
   ·exact .cons (.lst fH h1) (RTs.upd hx (fun z=>n3 a aN a z rfl) q)
   ·refine gP.mpr ⟨cG.mpr ⟨fun z=>n4 (h2 a z),h3⟩,n2,fun x hx y hy=>?_⟩
    rcases bQ.mp hx with rfl | z
    ·exact n3 x aN y hy
    ·exact n3 x (aJ _ (h2 x z)) y hy
   ·intro b hb
    rcases cV.mp hb with z | z
    ·rcases bQ.mp z with rfl | z
     ·simp
     ·simp [h2 b z]
    ·simp [z]
 | _,_,_,k + 1,.cons (as:=as1) (bs:=bs2) e q,h=>by
  obtain ⟨a,xs,bs,h1,h2,h3,h4,h5,h6⟩:=RTs.part (k:=k) q (by simpa using h)
  refine ⟨a,xs,bs,by simpa using h1,h2,h3,bB _ h4,fun b hb=>bB _ (h5 b hb),fun nd=>?_⟩
  obtain ⟨n1,n2,n3⟩:=gP.mp nd
  obtain ⟨g1,g2,g3⟩:=h6 n2
  refine ⟨g1,g2,fun ys m' bs' k1 k2 k3=>?_⟩
  obtain ⟨as',r1,r2,r3⟩:=g3 ys m' bs' k1 k2 k3
  refine ⟨as1++as',.cons (RT.upd h2 (fun z=>n3 a z a h4 rfl) e) r1,gP.mpr ⟨n1,r2,fun x hx y hy=>n3 x hx y (r3 y hy)⟩,fun b hb=>?_⟩
  rcases cV.mp hb with z | z
  ·exact dX _ z
  ·exact bB _ (r3 b z)
end
section
variable {X:Cx} {fl:List Fl} {e ke:Expr} {f fk:FE} {pos:Pos}
theorem CJ {i:Nat} {x:Str} {pos':Pos} (hfl:fl[i]? = some .N) (hN:X.N.Nodup) (hi:X.N[i]? = some x) (hv:X.env.scope.names.lookup x=some .local∨X.env.scope.names.lookup x=some .cell) (h:DE X fl .T e f)
 (hs:swapsWith e (some (.Name x pos')) pos.line X.env=pure false:=by rfl) (hfn:X.fn x=true∨X.env.scope.names.lookup x=some .local:=by first | exact .inl rfl | exact .inr rfl) :
 DS1 X fl (.Assign [.Name x pos'] e pos) (bh i f):=PS.imp (wV (i:=i) hN hi hv h hs hfn) fun Dn σ H h=>by
 obtain ⟨G,ow,δ,o,R,hf,q⟩:=h
 unfold bh at hf
 by_cases hl:i < δ.length
 ·rw [if_pos hl] at hf
  obtain ⟨d,e1,e2⟩:=bind1 hf
  cases e2
  refine ⟨G,ow,δ,d,R,e1,fun v H' s r=>?_⟩
  obtain ⟨ow',R'⟩:=R.setN s hfl (pG R hl) r
  exact q ow' _ H' R'
 ·rw [if_neg hl] at hf
  cases hf
theorem Rel.part {K:PySem.W.Frag} {G:Gh} {ow:Ow} {σ:St} {H:Hp} {δ:DS} {i:Nat} {x:D} {l m:List D} {n:Nat} (R:Rel K fl G ow σ H δ) (hfl:fl[i]? = some .N) (hx:ao i δ=some x) (hl:Aw x=some l) (hm:l[n]? = some (.list m)) :
 ∃ p vs a xs,σ[i]? = some (some (.ref p))∧vs.length=l.length∧(∀ H',Same H H'→SqL K H' p vs∨SqT K H' p vs)∧vs[n]? = some (.ref a)∧(∀ H',Same H H'→H' a=some (.lst xs))∧xs.length=m.length ∧
  ∀ H',Same H H'→∃ bs,RTs K H' xs m bs∧a ∉ bs∧bs.Nodup∧∀ ys m' bs',RTs K (L2.upd H' a (.lst ys)) ys m' bs'→(∀ b ∈ bs',b ∈ bs)→bs'.Nodup→∃ ow',Rel K fl G ow' σ (L2.upd H' a (.lst ys)) (δ.set i (some (.d (putAt x n (.list m'))))):=by
 have e:=mR hx
 have hi:i < δ.length:=by
  rcases qp i δ.length with z | z
  ·exact z
  ·rw [bK z] at e;cases e
 obtain ⟨v,h1,h2,h3⟩:=R.nr i x (by rw [hfl];rfl) e
 generalize hN:ow.n i=as at h2 h3
 cases h2 with
 | lst hp r =>
  rename_i p vs ds bs0
  cases hl
  obtain ⟨n1,n2⟩:=cG.mp h3
  obtain ⟨a,xs,bs,g1,g2,g3,g4,g5,g6⟩:=r.part hm
  have pa:p ≠ a:=fun z=>n1 (z ▸ g4)
  refine ⟨p,vs,a,xs,h1,r.length,fun H' s=>.inl (SqL.of (s _ _ hp)),g1,fun H' s=>s _ _ g2,g3.length,fun H' s=>?_⟩
  obtain ⟨a',xs',bs',f1,f2,f3,f4,f5,f6⟩:=(r.same s).part hm
  rw [g1] at f1
  cases f1
  rw [s _ _ g2] at f2
  cases f2
  obtain ⟨k1,k2,k3⟩:=f6 n2
  refine ⟨bs',f3,k1,k2,fun ys m' bs'' q1 q2 q3=>?_⟩
  obtain ⟨as',r1,r2,r3⟩:=k3 ys m' bs'' q1 q2 q3
  refine (R.grow s).mutN hfl hi (by rw [hN];exact aJ _ g4) (s _ _ g2) h1 (.lst (by rw [dG pa];exact s _ _ hp) r1) (fun b hb=>?_) (cG.mpr ⟨fun z=>n1 (r3 p z),r2⟩)
  rw [hN]
  rcases bQ.mp hb with rfl | z
  ·exact aN
  ·exact aJ _ (r3 b z)
 | tup hp r =>
  rename_i p vs ds
  cases hl
  obtain ⟨a,xs,bs,g1,g2,g3,g4,g5,g6⟩:=r.part hm
  refine ⟨p,vs,a,xs,h1,r.length,fun H' s=>.inr (Gp s hp.sq),g1,fun H' s=>s _ _ g2,g3.length,fun H' s=>?_⟩
  obtain ⟨a',xs',bs',f1,f2,f3,f4,f5,f6⟩:=(r.same s).part hm
  rw [g1] at f1
  cases f1
  rw [s _ _ g2] at f2
  cases f2
  obtain ⟨k1,k2,k3⟩:=f6 h3
  refine ⟨bs',f3,k1,k2,fun ys m' bs'' q1 q2 q3=>?_⟩
  obtain ⟨as',r1,r2,r3⟩:=k3 ys m' bs'' q1 q2 q3
  exact (R.grow s).mutN hfl hi (by rw [hN];exact g4) (s _ _ g2) h1 (.tup (j7.upd (s _ _ g2) (j7.same s hp)) r1) (fun b hb=>by rw [hN];exact r3 b hb) r2
 | non=>cases hl
 | bl _=>cases hl
 | int _=>cases hl
 | str _=>cases hl
 | dic _ _=>cases hl
theorem Nx {vs:List V} {j:Int} {n:Nat} {v:V} (hj:pIx vs.length j=some n) (h:vs[n]? = some v):atI vs j=some v:=by
 unfold atI
 rw [show ixN vs.length j=some n from hj]
 exact h
theorem G3 {g:List D→D→Option (List D)} {i:Nat} {δ:DS} {o:Oc} (h:Nh g i fk f δ=some o):∃ y j d l n m m',ao i δ=some y∧fk δ=some (.int j)∧f δ=some d∧Aw y=some l∧pIx l.length j=some n∧l[n]? = some (.list m)∧g m d=some m'∧o = .nx (δ.set i (some (.d (putAt y n (.list m'))))):=by
 obtain ⟨y,e1,h⟩:=bind1 h
 obtain ⟨kd,e2,h⟩:=bind1 h
 obtain ⟨d,e3,h⟩:=bind1 h
 obtain ⟨l,e4,h⟩:=bind1 h
 obtain ⟨j,rfl⟩:∃ j,kd = .int j:=by cases kd <;> first | exact ⟨_,rfl⟩ | (cases h;done)
 obtain ⟨n,e5,h⟩:=bind1 h
 cases e6:l[n]? with
 | none=>rw [e6] at h;cases h
 | some z =>
  rw [e6] at h
  obtain ⟨m,rfl⟩:∃ m,z = .list m:=by cases z <;> first | exact ⟨_,rfl⟩ | (cases h;done)
  obtain ⟨m',e7,h⟩:=bind1 h
  cases h
  exact ⟨y,j,d,l,n,m,m',e1,e2,e3,e4,e5,e6,e7,rfl⟩
theorem JR {i:Nat} {x:Str} {vpos spos apos cpos:Pos} (hfl:fl[i]? = some .N) (hk:DE X fl .P ke fk) (hN:X.N[i]? = some x) (hsx:qz ke) (hv:Vis X.env.scope x:=by first | exact Or.inl rfl | exact Or.inr (Or.inl rfl) | exact Or.inr (Or.inr rfl)) (hd:(x == ("__debug__" : Str))=false:=by decide)
 (hcd:(x == ("__classdict__" : Str))=false:=by decide)
 (hs:swapsWith (.Call (.Attribute (.Subscript (.Name x vpos) ke spos) "clear" apos) [] [] cpos) none pos.line X.env=pure false:=by rfl)
 (hbase:attributeBase (.Subscript (.Name x vpos) ke spos) "clear" X.env (eval (.Subscript (.Name x vpos) ke spos) X.env)=eval (.Subscript (.Name x vpos) ke spos) X.env:=by rfl)
 (hline:(apos.endLine == cpos.line)=true:=by rfl) :
 DS1 X fl (.Expr (.Call (.Attribute (.Subscript (.Name x vpos) ke spos) "clear" apos) [] [] cpos) pos) (pO i fk) :=
 PS.imp (tR (Gg PySem.F.plainAttrs_list PySem.F.slot_list_clear PySem.F.type_list_clear yQ (Ge Ak (lC hN hv hd hcd) hk hsx) hbase hline) hs) fun Dn σ H hh=>by
 obtain ⟨G,ow,δ,o,R,hf,q⟩:=hh
 obtain ⟨y,jj,d,l,n,m,m',e1,e2,e3,e4,e5,em,e6,rfl⟩:=G3 hf
 cases e6
 obtain ⟨p,vs,a,xs,c1,c2,c3,c4,c5,c6,c7⟩:=R.part hfl e1 e4 em
 refine ⟨_,c1,G,ow,δ,_,R,e2,fun u H1 s1 r1=>?_⟩
 obtain rfl:=RA.intE r1
 have at1:atI vs jj=some (.ref a):=Nx (by rw [c2];exact e5) c4
 have fin:Gj (.ref a) [] H1 fun _ H3=>Dn.nx σ H3:=by
  obtain ⟨bs,d7,d8,d9,d10⟩:=c7 H1 s1
  refine ⟨a,xs,rfl,rfl,c5 H1 s1,?_⟩
  obtain ⟨ow',R'⟩:=d10 [] [] [] .nil (fun b hb=>by cases hb) .nil
  exact q ow' σ _ R'
 rcases c3 H1 s1 with b3 | b3
 ·exact .inl ⟨p,vs,jj,.ref a,rfl,rfl,b3,at1,.inl ⟨rfl,_,SqL.of (c5 H1 s1)⟩,fin⟩
 ·exact .inr (.inl ⟨p,vs,jj,.ref a,rfl,rfl,b3,at1,.inl ⟨rfl,_,SqL.of (c5 H1 s1)⟩,fin⟩)
end
end D3
namespace D3
open PySem
noncomputable def qM (g:List D→Option (List D)) (i:Nat) (x:Option D) (δ:DS):Option Oc:=match x with
 | some (.list l)=>match g l with
  | some m=>some (.nx (δ.set i (some (.d (.list m)))))
  | none=>none
 | _=>none
noncomputable def xR (i:Nat):FS:=fun δ=>qM (fun _=>some []) i (ao i δ) δ
noncomputable def Lw:D→Option (List D)
 | .list l=>some l
 | .tuple l=>some l
 | _=>none
noncomputable def qSq (x:Option D):Option (List D):=x.bind Lw
noncomputable def Ny (f:FE):FA:=fun δ=>(f δ).bind Lw
theorem Q5 {f:FE} {δ:DS}:Ny f δ=qSq (f δ):=rfl
theorem Nz {l:List D}:qSq (some (.list l))=some l:=rfl
theorem NK {l:List D}:qSq (some (.tuple l))=some l:=rfl
theorem NP {g:List D→Option (List D)} {i:Nat} {x:Option D} {δ:DS} {o:Oc} (h:qM g i x δ=some o):∃ l m,x=some (.list l)∧g l=some m∧o = .nx (δ.set i (some (.d (.list m)))):=by
 unfold qM at h
 split at h
 ·next l =>
  split at h
  ·next m e=>cases h;exact ⟨l,m,rfl,e,rfl⟩
  ·cases h
 ·cases h
noncomputable def gIn:D→D→Option D:=fun x y=>match y with
 | .list l=>if (SeqAt.shaped x && SeqAt.shaped (.list l))=true then some (.bool (l.any fun z=>PyData.eqv z x)) else none
 | .tuple l=>if (SeqAt.shaped x && SeqAt.shaped (.tuple l))=true then some (.bool (l.any fun z=>PyData.eqv z x)) else none
 | _=>none
noncomputable def oF:D→D→Option D:=fun x y=>match y with
 | .list l=>if (SeqAt.shaped x && SeqAt.shaped (.list l))=true then some (.bool (!l.any fun z=>PyData.eqv z x)) else none
 | .tuple l=>if (SeqAt.shaped x && SeqAt.shaped (.tuple l))=true then some (.bool (!l.any fun z=>PyData.eqv z x)) else none
 | _=>none
noncomputable def qRv (x:Option D):Option (List D):=x.bind fun x=>match x with
 | .list l=>some l.reverse
 | _=>none
theorem Tr {f:FE} {δ:DS}:Ni f δ=qRv (f δ):=rfl
theorem NQ {l:List D}:qRv (some (.list l))=some l.reverse:=rfl
noncomputable def G4 (o:Option Oc):Option D:=match o with
 | some (.rt d)=>some d
 | some (.ex _ _ d)=>some d
 | some (.nx _)=>some .none
 | _=>none
noncomputable def fnL (p q:Nat) (b:FS):List D→Option D:=fun ds=>if ds.length=p then G4 (b (ds.map (fun d=>some (.d d))++aK q none)) else none
theorem CK {p q:Nat} {b:FS} {ds:List D}:fnL p q b ds=if ds.length=p then G4 (b (ds.map (fun d=>some (.d d))++aK q none)) else none:=rfl
theorem rA {c f:Str} {d:D}:G4 (some (.ex c f d))=some d:=rfl
end D3
namespace D3
open PySem PySem.Spec PyProof.Rows L2 My
section
variable {X:Cx}
end
section
variable {X:Cx} {fl:List Fl} {e ke:Expr} {f fk:FE} {pos:Pos}
theorem RAs.erase {K:PySem.W.Frag} {ok:Ok} {pl:Bool} {H:Hp} {v:List V} {d:List D} (n:Nat) (r:RAs K ok pl H v d):RAs K ok pl H (v.eraseIdx n) (d.eraseIdx n):=by
 rw [kI,kI]
 exact (r.take n).append (r.drop (n + 1))
theorem NT {i:Nat} {x:Str} {vpos apos cpos:Pos} (hfl:fl[i]? = some .O) (hN:X.N[i]? = some x) (hv:Vis X.env.scope x:=by first | exact Or.inl rfl | exact Or.inr (Or.inl rfl) | exact Or.inr (Or.inr rfl)) (hd:(x == ("__debug__" : Str))=false:=by decide)
 (hcd:(x == ("__classdict__" : Str))=false:=by decide)
 (hs:swapsWith (.Call (.Attribute (.Name x vpos) "clear" apos) [] [] cpos) none pos.line X.env=pure false:=by rfl)
 (hbase:attributeBase (.Name x vpos) "clear" X.env (eval (.Name x vpos) X.env)=eval (.Name x vpos) X.env:=by rfl)
 (hline:(apos.endLine == cpos.line)=true:=by rfl) :
 DS1 X fl (.Expr (.Call (.Attribute (.Name x vpos) "clear" apos) [] [] cpos) pos) (xR i) :=
 PS.imp (tR (Gg PySem.F.plainAttrs_list PySem.F.slot_list_clear PySem.F.type_list_clear yQ (lC hN hv hd hcd) hbase hline) hs) fun Dn σ H hh=>by
 obtain ⟨G,ow,δ,o,R,hf,q⟩:=hh
 obtain ⟨l,m,e1,e2,rfl⟩:=NP hf
 cases e2
 obtain ⟨a,xs,ho,h1,h2,h3⟩:=uJ R hfl e1
 exact ⟨_,h1,.inl ⟨rfl,_,SqL.of h2⟩,a,xs,rfl,rfl,h2,q ow σ _ (R.mut hfl ho .nil)⟩
end
section
variable {X:Cx} {fl:List Fl} {a:Expr} {pos p p2 pos2:Pos} {fa:FA}
end
end D3
namespace D3
open PySem PySem.Spec PyProof.Rows L2 My
section
variable {X:Cx} {pins:List (Addr × Obj)} {σ:L2.St} {H:Hp} {s:Shared}
end
section
variable {X:Cx} {K:PySem.W.Frag}
end
section
variable {X:Cx} {fl:List Fl} {es:List Expr} {pos:Pos}
end
section
variable {X:Cx} {fl:List Fl} {e:Expr} {f:FE}
theorem Q6 {tg l:Expr} {t1 t2:TI} (h1:PI X tg l t1) (h2:PI X tg l t2):PI X tg l (fun σ H R=>t1 σ H R∨t2 σ H R):=fun pins s σ H R I h=>by
 rcases h with h | h
 ·exact h1 pins s σ H R I h
 ·exact h2 pins s σ H R I h
theorem NZ {K:PySem.W.Frag} {G:Gh} {ow:Ow} {σ:St} {H Hb:Hp} {δ:DS} {L:List Nat} {v:V} {l:List D} (R:Rel K fl G ow σ H δ) (r:Rs K G.H0 ow Hb H (.B L) v (.tuple l)):∃ a xs,v = .ref a∧SqT K H a xs ∧
 ∀ H2:Hp,(∀ b o,H b=some o→(∀ i,ow i=some b→i ∈ L)→(∀ i,b ∉ ow.n i)→H2 b=some o)→SqT K H2 a xs∧RAs K (fun b=>okA ow b∧H b ≠ none) true H2 xs l:=by
 rcases r with r | ⟨i,hi,a,xs,ds,ho,rfl,e,hx,hr⟩
 ·cases r with
  | tup e q =>
   refine ⟨_,_,rfl,e.sq,fun H2 hk=>⟨?_,RAs.keep hk R.ownL R.ownC (fun b z=>z.1) q.track⟩⟩
   exact .inl (.inl (hk _ _ e (nm R.ownL e (by intro xs z;cases z)) (nm2 R.ownC e Chg.tup)))
 ·cases e
theorem N5 {tg:Expr} {L:List Nat} (h:DE X fl (.B L) e f):DI X fl L tg e (Ny f):=PI.imp (Q6 (Ce h) (MN h)) fun σ H R' h=>by
 obtain ⟨G,ow,δ,l,R,hf,q⟩:=h
 obtain ⟨d,e1,e2⟩:=bind1 hf
 cases d with
 | list l' =>
  cases e2
  refine .inl ⟨G,ow,δ,_,R,e1,fun v H1 s r=>?_⟩
  obtain ⟨a,xs,rfl,hx,keep⟩:=rP (R.grow s) r
  refine ⟨a,rfl,⟨xs,hx⟩,q _ _ s fun H2 k2 i=>?_⟩
  obtain ⟨k3,k4⟩:=keep H2 k2
  refine ⟨fun d hd=>?_,fun hl=>⟨xs,k3,by rw [k4.length];exact hl⟩⟩
  obtain ⟨y,hy,ry⟩:=k4.get hd
  refine ⟨⟨xs,y,k3,hy⟩,fun x H3 hyl=>?_⟩
  obtain ⟨e,hz⟩:=hyl
  subst e
  have:some y=some x:=hy.symm.trans (hz xs k3)
  cases this
  exact ⟨Same.refl _,ry⟩
 | tuple l' =>
  cases e2
  refine .inr ⟨G,ow,δ,_,R,e1,fun v H1 s r=>?_⟩
  obtain ⟨a,xs,rfl,hx,keep⟩:=NZ (R.grow s) r
  refine ⟨a,rfl,⟨xs,hx⟩,q _ _ s fun H2 k2 i=>?_⟩
  obtain ⟨k3,k4⟩:=keep H2 k2
  refine ⟨fun d hd=>?_,fun hl=>⟨xs,k3,by rw [k4.length];exact hl⟩⟩
  obtain ⟨y,hy,ry⟩:=k4.get hd
  refine ⟨⟨xs,y,k3,hy⟩,fun x H3 hyl=>?_⟩
  obtain ⟨e,hz⟩:=hyl
  subst e
  have:some y=some x:=hy.symm.trans (hz xs k3)
  cases this
  exact ⟨Same.refl _,ry⟩
 | none=>cases e2
 | bool _=>cases e2
 | int _=>cases e2
 | str _=>cases e2
 | dict _=>cases e2
end
section
variable {X:Cx} {fl:List Fl} {a:Expr} {f:FE} {pos p:Pos}
end
section
variable {X:Cx} {fl:List Fl} {a b:Expr} {fa fb:FE} {pos:Pos}
end
end D3
namespace D3
open PySem PySem.Spec PyProof.Rows L2 My
section
variable {X:Cx} {K:PySem.W.Frag}
noncomputable def Q7 (K:PySem.W.Frag):R2:=fun x y H Q=>∃ da l,RdV K H x da∧((RdV K H y (.list l)∧SeqAt.shaped (.list l)=true)∨(RdV K H y (.tuple l)∧SeqAt.shaped (.tuple l)=true))∧SeqAt.shaped da=true∧Q (.bl (l.any fun z=>PyData.eqv z da)) H
noncomputable def CN (K:PySem.W.Frag):R2:=fun x y H Q=>∃ da l,RdV K H x da∧((RdV K H y (.list l)∧SeqAt.shaped (.list l)=true)∨(RdV K H y (.tuple l)∧SeqAt.shaped (.tuple l)=true))∧SeqAt.shaped da=true∧Q (.bl (!l.any fun z=>PyData.eqv z da)) H
theorem tZ {A:Around} {l:List D} {d:D} (hu:A.units + 64 < cLine) (h:PyData.depthAll l + 1 ≤ 64):A.units + 1 + min (PyData.depthAll l) d.depth < cLine:=by
 have:=Nat.min_le_left (PyData.depthAll l) d.depth
 omega
theorem mV {l:List D} (h:SeqAt.shaped (.list l)=true):PyData.canLayAll0 l=true∧PyData.depthAll l + 1 ≤ 64:=by
 unfold SeqAt.shaped at h
 rw [aR] at h
 refine ⟨by simpa [PyData.canLay0] using h.1,?_⟩
 have:=of_decide_eq_true h.2
 simpa [PyData.depth] using this
theorem lK {l:List D} (h:SeqAt.shaped (.tuple l)=true):PyData.canLayAll0 l=true∧PyData.depthAll l + 1 ≤ 64:=by
 unfold SeqAt.shaped at h
 rw [aR] at h
 refine ⟨by simpa [PyData.canLay0] using h.1,?_⟩
 have:=of_decide_eq_true h.2
 simpa [PyData.depth] using this
theorem uM (hu:X.A.units + 64 < cLine):OpR X (compareOp .In) (Q7 X.K):=by
 intro pins s σ H x y v u Q I rx ry h
 obtain ⟨da,l,ha,hb,sa,q⟩:=h
 obtain ⟨as,za⟩:=ha.reads I rx
 rcases hb with ⟨hb,sb⟩ | ⟨hb,sb⟩
 ·obtain ⟨bs,zb⟩:=hb.reads I ry
  exact SeqAt.in_list_reads zb za (mV sb).1 (SeqAt.canLay_of_shaped sa) (tZ hu (mV sb).2) ⟨.bl _,H,I,rfl,q⟩
 ·obtain ⟨bs,zb⟩:=hb.reads I ry
  exact SeqAt.in_tuple_reads zb za (lK sb).1 (SeqAt.canLay_of_shaped sa) (tZ hu (lK sb).2) ⟨.bl _,H,I,rfl,q⟩
theorem v9 (hu:X.A.units + 64 < cLine):OpR X (compareOp .NotIn) (CN X.K):=by
 intro pins s σ H x y v u Q I rx ry h
 obtain ⟨da,l,ha,hb,sa,q⟩:=h
 obtain ⟨as,za⟩:=ha.reads I rx
 rcases hb with ⟨hb,sb⟩ | ⟨hb,sb⟩
 ·obtain ⟨bs,zb⟩:=hb.reads I ry
  exact SeqAt.notIn_list_reads zb za (mV sb).1 (SeqAt.canLay_of_shaped sa) (tZ hu (mV sb).2) ⟨.bl _,H,I,rfl,q⟩
 ·obtain ⟨bs,zb⟩:=hb.reads I ry
  exact SeqAt.notIn_tuple_reads zb za (lK sb).1 (SeqAt.canLay_of_shaped sa) (tZ hu (lK sb).2) ⟨.bl _,H,I,rfl,q⟩
theorem G5:BrO K (Q7 K) gIn:=by
 intro H x y dx dy d Q rx ry e q
 cases dy with
 | list l =>
  by_cases z:(SeqAt.shaped dx && SeqAt.shaped (.list l))=true
  ·have e:(if (SeqAt.shaped dx && SeqAt.shaped (.list l))=true then some (PyData.bool (l.any fun z=>PyData.eqv z dx)) else none)=some d:=e
   rw [if_pos z] at e
   cases e
   rw [aR] at z
   exact ⟨dx,l,rx.rd (SeqAt.canLay_of_shaped z.1),.inl ⟨ry.rd (SeqAt.canLay_of_shaped z.2),z.2⟩,z.1,q _ rfl (.bl _)⟩
  ·have e:(if (SeqAt.shaped dx && SeqAt.shaped (.list l))=true then some (PyData.bool (l.any fun z=>PyData.eqv z dx)) else none)=some d:=e
   rw [if_neg z] at e
   cases e
 | tuple l =>
  by_cases z:(SeqAt.shaped dx && SeqAt.shaped (.tuple l))=true
  ·have e:(if (SeqAt.shaped dx && SeqAt.shaped (.tuple l))=true then some (PyData.bool (l.any fun z=>PyData.eqv z dx)) else none)=some d:=e
   rw [if_pos z] at e
   cases e
   rw [aR] at z
   exact ⟨dx,l,rx.rd (SeqAt.canLay_of_shaped z.1),.inr ⟨ry.rd (SeqAt.canLay_of_shaped z.2),z.2⟩,z.1,q _ rfl (.bl _)⟩
  ·have e:(if (SeqAt.shaped dx && SeqAt.shaped (.tuple l))=true then some (PyData.bool (l.any fun z=>PyData.eqv z dx)) else none)=some d:=e
   rw [if_neg z] at e
   cases e
 | _=>cases e
theorem CP:BrO K (CN K) oF:=by
 intro H x y dx dy d Q rx ry e q
 cases dy with
 | list l =>
  by_cases z:(SeqAt.shaped dx && SeqAt.shaped (.list l))=true
  ·have e:(if (SeqAt.shaped dx && SeqAt.shaped (.list l))=true then some (PyData.bool (!l.any fun z=>PyData.eqv z dx)) else none)=some d:=e
   rw [if_pos z] at e
   cases e
   rw [aR] at z
   exact ⟨dx,l,rx.rd (SeqAt.canLay_of_shaped z.1),.inl ⟨ry.rd (SeqAt.canLay_of_shaped z.2),z.2⟩,z.1,q _ rfl (.bl _)⟩
  ·have e:(if (SeqAt.shaped dx && SeqAt.shaped (.list l))=true then some (PyData.bool (!l.any fun z=>PyData.eqv z dx)) else none)=some d:=e
   rw [if_neg z] at e
   cases e
 | tuple l =>
  by_cases z:(SeqAt.shaped dx && SeqAt.shaped (.tuple l))=true
  ·have e:(if (SeqAt.shaped dx && SeqAt.shaped (.tuple l))=true then some (PyData.bool (!l.any fun z=>PyData.eqv z dx)) else none)=some d:=e
   rw [if_pos z] at e
   cases e
   rw [aR] at z
   exact ⟨dx,l,rx.rd (SeqAt.canLay_of_shaped z.1),.inr ⟨ry.rd (SeqAt.canLay_of_shaped z.2),z.2⟩,z.1,q _ rfl (.bl _)⟩
  ·have e:(if (SeqAt.shaped dx && SeqAt.shaped (.tuple l))=true then some (PyData.bool (!l.any fun z=>PyData.eqv z dx)) else none)=some d:=e
   rw [if_neg z] at e
   cases e
 | _=>cases e
end
noncomputable def Itv (K:PySem.W.Frag) (a:Addr) (n:Nat):It :=
 ⟨fun i H=>i < n∧∃ xs x,SqL K H a xs∧xs.length=n∧xs[n - 1 - i]? = some x,fun i H x H'=>H'=H∧∀ xs,SqL K H a xs→xs[n - 1 - i]? = some x,fun i _=>n ≤ i⟩
theorem G6 {P:Program} {w:World} {K:PySem.W.Frag} {tg:Expr} (a it:Addr) (n:Nat):Turn P w K tg (Itv K a n) [it] it (fun i h=>i ≤ n∧h.IsRevIter it a ((n:Int) - 1 - (i:Int))) where
 mem:=by simp
 obj:=fun i h st b hb=>by
  have e:b=it:=by simpa using hb
  subst e
  obtain ⟨_,o,e,c,d⟩:=st
  exact ⟨o,e,fun v z=>by rw [d] at z;cases z⟩
 keep:=fun i h h' st k=>⟨st.1,st.2.at fun o e=>k it (by simp) o e⟩
 item:=by
  intro X hP hw hK hc i pins s σ H E I hf st hg
  subst hP hw hK
  obtain ⟨hi,xs,x,hq,hn,hx⟩:=hg
  obtain ⟨its,rv,p,hz⟩:=I.list hq
  obtain ⟨u,hu,ru⟩:=rv.get hx
  obtain ⟨f0,f1,f2,f3,f4,f5⟩:=hf it (by simp)
  have st2:=st.2
  rw [show (n:Int) - 1 - (i:Int)=((n - 1 - i:Nat):Int) by omega] at st2
  refine wpAny_pyNext_rev_item st2 p.isList (x:=u) (by simpa using hu) fun h' st' sb=>?_
  rw [show ((n - 1 - i:Nat):Int) - 1=(n:Int) - 1 - ((i + 1:Nat):Int) by omega] at st'
  have I1:Inv X pins σ H { s with heap:=h' }:=I.turned (t':=s.toks) (fun b o hb e=>(sb.2 b hb).trans e) f0 f1 f3 f4 f5
  obtain ⟨o,e,c,d⟩:=id st'
  exact ⟨u,rfl,Cd (s:={ s with heap:=h' }) e c d (by decide) ⟨x,H,I1,ru,⟨rfl,fun ys hy=>by rw [I.list_inj hy hq];exact hx⟩,⟨by omega,st'⟩,fun b hb=>(hf b hb).1⟩⟩
 done:=by
  intro X hP hw hK hc i pins s σ H E I hf st hg
  subst hP hw hK
  obtain ⟨f0,f1,f2,f3,f4,f5⟩:=hf it (by simp)
  have hg:n ≤ i:=hg
  have st2:=st.2
  have st1:=st.1
  rw [show (n:Int) - 1 - (i:Int) = -1 by omega] at st2
  exact wpAny_pyNext_rev_end (I.ok.hd hc) st2 fun h' eb=>⟨rfl,I.turned (t':=s.toks) (fun b o hb e=>eb b o hb e) f0 f1 f3 f4 f5⟩
 self:=fun _ _ _ _ _ st h=>wpAny_pyIter_revIter st.2 h
section
variable {X:Cx} {fl:List Fl} {a:Expr} {f:FE} {pos:Pos}
noncomputable def Tt (K:PySem.W.Frag) (ta:TE):TI:=fun σ H R=>ta σ H fun x H1=>∃ p xs,x = .ref p∧SqL K H1 p xs∧R (Itv K p xs.length) H1
theorem N6 {tg:Expr} {p:Pos} {ta:TE} (hg:Gl X "reversed") (hm:X.mg "reversed" = none) (ha:PE X a ta) (he:starEach [a] X.env=(false,eval a X.env) :: starEach [] X.env:=by rfl)
 (hpl:(backTo pos (starEach [] X.env)).any (·.1)=false:=by rfl):PI X tg (.Call (.Name "reversed" p) [a] [] pos) (Tt X.K ta):=by
 intro pins s σ H R I h
 refine wpAny_Call_Name_kw (pX I hg hm boot_reversed (PyProof.Rows.callWith_type1 (thn ((gU ha m9 he) pos pins s σ H (fun vs H1=>match vs with | [x]=>∃ p xs,x = .ref p∧SqL X.K H1 p xs∧R (Itv X.K p xs.length) H1 | _=>False) I h) fun us s1 ⟨vs,H1,I1,r1,q1⟩=>?_) he hpl))
 cases r1 with
 | nil=>exact q1.elim
 | cons r rr =>
  cases rr with
  | cons _ _=>exact q1.elim
  | nil =>
  obtain ⟨l,xs,e,hq,q⟩:=q1
  subst e
  cases r
  obtain ⟨its,rv,pl,hz⟩:=I1.list hq
  have hl:=rv.length
  refine call_reversed_list pl.isList ?_
  have I2:Inv X pins σ H1 { s1 with heap:=s1.heap.push (revObj l ((its.toArray.size:Int) - 1)) }:=I1.kept (t':=s1.toks) fun b o e=>Heap.get?_push_of_some _ e
  have it0:(s1.heap.push (revObj l ((its.toArray.size:Int) - 1))).IsRevIter s1.heap.objs.size l ((its.toArray.size:Int) - 1):=⟨_,Heap.get?_push_size _ rfl,rfl,rfl⟩
  refine wpAny_pyIter_revIter (s:={ s1 with heap:=s1.heap.push (revObj l ((its.toArray.size:Int) - 1)) }) it0 ?_
  have it1:=it0
  rw [show (its.toArray.size:Int) - 1=(xs.length:Int) - 1 - ((0:Nat):Int) by rw [bD];omega] at it1
  refine ⟨s1.heap.objs.size,[s1.heap.objs.size],_,_,H1,rfl,I2,G6 l s1.heap.objs.size xs.length,⟨iJ _,by rw [show (xs.length:Int) - 1 - ((0:Nat):Int)=(its.toArray.size:Int) - 1 by rw [bD];omega];exact it0⟩,fun b hb=>?_,q⟩
  have e:b=s1.heap.objs.size:=by simpa using hb
  subst e
  exact I1.fpOk (bG _) (I1.hok.fresh (bG _))
theorem N7 {tg:Expr} {p:Pos} {L:List Nat} (h:DE X fl (.B L) a f) (hg:Gl X "reversed") (hm:X.mg "reversed" = none) (he:starEach [a] X.env=(false,eval a X.env) :: starEach [] X.env:=by rfl)
 (hpl:(backTo pos (starEach [] X.env)).any (·.1)=false:=by rfl):DI X fl L tg (.Call (.Name "reversed" p) [a] [] pos) (Ni f):=PI.imp (N6 hg hm h he hpl) fun σ H R' h=>by
 obtain ⟨G,ow,δ,l,R,hf,q⟩:=h
 obtain ⟨d,e1,e2⟩:=bind1 hf
 obtain ⟨l0,rfl⟩:∃ l0,d = .list l0:=by cases d <;> first | exact ⟨_,rfl⟩ | (cases e2;done)
 cases e2
 refine ⟨G,ow,δ,_,R,e1,fun v H1 s r=>?_⟩
 obtain ⟨a,xs,rfl,hx,keep⟩:=rP (R.grow s) r
 refine ⟨a,xs,rfl,hx,q _ _ s fun H2 k2 i=>?_⟩
 obtain ⟨k3,k4⟩:=keep H2 k2
 have kl:=k4.length
 refine ⟨fun d hd=>?_,fun hl=>by rw [iz] at hl;show xs.length ≤ i;omega⟩
 have hi:i < l0.length:=by
  have:=(cg.mp hd).1
  rwa [iz] at this
 rw [List.getElem?_reverse hi] at hd
 obtain ⟨y,hy,ry⟩:=k4.get hd
 rw [← kl] at hy
 refine ⟨⟨by omega,xs,y,k3,rfl,hy⟩,fun x H3 hyl=>?_⟩
 obtain ⟨e,hz⟩:=hyl
 subst e
 have:some y=some x:=hy.symm.trans (hz xs k3)
 cases this
 exact ⟨Same.refl _,ry⟩
end
section
variable {X:Cx} {fl:List Fl} {e:Expr} {es:List Expr} {f:FE} {pos p:Pos} {x:Str} {n:Nat} {F:List D→Option D} {fa:FA}
end
section
variable {P:Program} {w:World} {K:PySem.W.Frag} {mg:Str→Option Value} {base:Heap} {x:Str} {ps N:List Str} {st:Stmt} {k n:Nat} {fs:FS} {fl:List Fl}
end
section
variable {P:Program} {w:World} {K:PySem.W.Frag} {mg:Str→Option Value} {base:Heap} {x:Str} {ps:List Str} {st:Stmt} {n:Nat}
end
end D3
namespace D3
open PySem PySem.Spec PyProof.Rows L2 My
section
variable {K:PySem.W.Frag} {fl flA:List Fl} {G:Gh} {ow:Ow} {σ σ':St} {H H1:Hp} {δ:DS} {T:List Nat}
end
section
variable {X:Cx} {fl flA:List Fl} {e:Expr} {es:List Expr} {f:FE} {fa:FA} {pos:Pos}
end
section
variable {X:Cx} {fl:List Fl} {pos:Pos}
end
end D3
namespace D3
open PySem
end D3
namespace D3
open PySem
end D3
namespace D3
open PySem
end D3
namespace D3
open PySem
end D3
namespace D3
open PySem
noncomputable def vH (i j k q:Nat):FS:=fun δ=>(ao q δ).bind fun x=>match x with
 | .tuple [d0,.list l1,.list l2]=>if flat d0=true∧flats l1=true∧flats l2=true∧i < δ.length∧j < δ.length∧k < δ.length then
  some (.nx ((((δ.set i (some (.d d0))).set j (some (.d (.list l1)))).set k (some (.d (.list l2)))).set q none)) else none
 | _=>none
end D3
namespace D3
open PySem
noncomputable def rB (f:FE):FS:=fun δ=>(f δ).bind fun d=>match d with
 | .list l=>if flats l=true then some (.ex "" "" (.list l)) else none
 | _=>none
noncomputable def wg (i:Nat) (F:List D→Option D) (f0 f1 f3:FE):FS:=fun δ=>(f0 δ).bind fun d0=>(f1 δ).bind fun d1=>(ao i δ).bind fun d2=>(f3 δ).bind fun d3=>match d2 with
 | .list l0=>if flats l0=true∧i < δ.length then (F [d0,d1,.list l0,d3]).bind fun d=>match d with
  | .list l=>if flats l=true then some (.nx (δ.set i (some (.d (.list l))))) else none
  | _=>none
  else none
 | _=>none
noncomputable def tu (i:Nat) (f1 f3:FE):FS:=fun δ=>(f1 δ).bind fun d1=>(ao i δ).bind fun d2=>(f3 δ).bind fun d3=>match d1,d2,d3 with
 | .int n,.list l,.list m=>if flats l=true∧flats m=true then some (.ex "" "" (.tuple [.int n,.list l,.list m])) else none
 | _,_,_=>none
end D3
namespace XY
open PySem PySem.Spec PyProof.Rows L2 My D3
theorem N8 {α:Type} {l:List (Option α)} {i j k q m:Nat} {A B C x:α} (h:((((l.set i (some A)).set j (some B)).set k (some C)).set q none)[m]? = some (some x)) :
 m ≠ q∧((m=k∧x=C)∨(m ≠ k∧m=j∧x=B)∨(m ≠ k∧m ≠ j∧m=i∧x=A)∨(m ≠ k∧m ≠ j∧m ≠ i∧l[m]? = some (some x))):=by
 by_cases mq:m=q
 ·subst mq
  rw [j4] at h
  rw [if_pos rfl] at h
  split at h <;> cases h
 ·refine ⟨mq,?_⟩
  rw [aL (Ne.symm mq)] at h
  rcases fO h with ⟨rfl,e⟩ | ⟨h1,h⟩
  ·exact .inl ⟨rfl,e.symm⟩
  ·rcases fO h with ⟨rfl,e⟩ | ⟨h2,h⟩
   ·exact .inr (.inl ⟨h1,rfl,e.symm⟩)
   ·rcases fO h with ⟨rfl,e⟩ | ⟨h3,h⟩
    ·exact .inr (.inr (.inl ⟨h1,h2,rfl,e.symm⟩))
    ·exact .inr (.inr (.inr ⟨h1,h2,h3,h⟩))
section
variable {K:PySem.W.Frag} {fl:List Fl} {G:Gh} {ow:Ow} {σ:L2.St} {H:Hp} {δ:DS} {i j k q:Nat} {d0:D} {l1 l2:List D}
noncomputable def owM (ow:Ow) (j k q:Nat) (a1 a2:Addr):Ow:=⟨fun m=>if m=k then some a2 else if m=j then some a1 else ow m,fun m=>if m=q then [] else ow.n m⟩
theorem JT (R:Rel K fl G ow σ H δ) (hq:fl[q]? = some .N) (hi:fl[i]? = some .A) (hj:fl[j]? = some .O) (hk:fl[k]? = some .O) (jk:j ≠ k) (li:i < δ.length) (lj:j < δ.length) (lk:k < δ.length)
 (hd:δ[q]? = some (some (.d (.tuple [d0,.list l1,.list l2])))) (f0:flat d0=true) (f1:flats l1=true) (f2:flats l2=true) :
 ∃ a x0 a1 a2,σ[q]? = some (some (.ref a))∧j7 H a [x0,.ref a1,.ref a2]∧Rel K fl G (owM ow j k q a1 a2) (((σ.set i (some x0)).set j (some (.ref a1))).set k (some (.ref a2))) H ((((δ.set i (some (.d d0))).set j (some (.d (.list l1)))).set k (some (.d (.list l2)))).set q none):=by
 obtain ⟨v,sv,rt,nd⟩:=R.nr q _ (by rw [hq];rfl) hd
 generalize ea:ow.n q=as at rt nd
 cases rt with
 | tup ht rs =>
 rename_i a xs
 cases rs with
 | cons r0 rs =>
 rename_i x0 xs as0 as'
 cases rs with
 | cons r1 rs =>
 rename_i x1 xs as1 as''
 cases rs with
 | cons r2 rs =>
 rename_i x2 xs as2 as3
 cases rs
 cases r1 with
 | lst h1 c1 =>
 rename_i a1 ys1 bs1
 cases r2 with
 | lst h2 c2 =>
 rename_i a2 ys2 bs2
 have m1:a1 ∈ ow.n q:=by rw [ea];simp
 have m2:a2 ∈ ow.n q:=by rw [ea];simp
 have ne:a1 ≠ a2:=fun z=>by
  subst z
  simp [gP] at nd
 have iq:i ≠ q:=fun z=>by rw [z,hq] at hi;cases hi
 have jq:j ≠ q:=fun z=>by rw [z,hq] at hj;cases hj
 have kq:k ≠ q:=fun z=>by rw [z,hq] at hk;cases hk
 have ij:i ≠ j:=fun z=>by rw [z,hj] at hi;cases hi
 have ik:i ≠ k:=fun z=>by rw [z,hk] at hi;cases hi
 have len:=R.len
 have n1:=R.nt q a1 m1
 have n2:=R.nt q a2 m2
 have F1:G.HF a1=none:=by
  rcases n1.2.2 with ⟨_,z⟩ | z
  ·exact z
  ·rw [hq] at z;cases z
 have F2:G.HF a2=none:=by
  rcases n2.2.2 with ⟨_,z⟩ | z
  ·exact z
  ·rw [hq] at z;cases z
 have oS:∀ m b,(owM ow j k q a1 a2) m=some b→(m=k∧b=a2)∨(m ≠ k∧m=j∧b=a1)∨(m ≠ k∧m ≠ j∧ow m=some b):=fun m b h=>by
  have h:(if m=k then some a2 else if m=j then some a1 else ow m)=some b:=h
  by_cases c1:m=k
  ·rw [if_pos c1] at h;cases h;exact .inl ⟨c1,rfl⟩
  ·rw [if_neg c1] at h
   by_cases c2:m=j
   ·rw [if_pos c2] at h;cases h;exact .inr (.inl ⟨c1,c2,rfl⟩)
   ·rw [if_neg c2] at h;exact .inr (.inr ⟨c1,c2,h⟩)
 have oN:∀ m b,b ∈ (owM ow j k q a1 a2).n m→m ≠ q∧b ∈ ow.n m:=fun m b h=>by
  have h:b ∈ (if m=q then [] else ow.n m):=h
  by_cases c1:m=q
  ·rw [if_pos c1] at h;cases h
  ·rw [if_neg c1] at h;exact ⟨c1,h⟩
 have oNn:∀ m,m ≠ q→(owM ow j k q a1 a2).n m=ow.n m:=fun m h=>if_neg h
 have sub:∀ b,okA ow b→okA (owM ow j k q a1 a2) b:=fun b z=>⟨fun m h=>by
  rcases oS m b h with ⟨_,rfl⟩ | ⟨_,_,rfl⟩ | ⟨_,_,e⟩
  ·exact z.2 q m2
  ·exact z.2 q m1
  ·exact z.1 m e,fun m h=>z.2 m (oN m b h).2⟩
 have sg:∀ m,m ≠ i→m ≠ j→m ≠ k→(((σ.set i (some x0)).set j (some (.ref a1))).set k (some (.ref a2)))[m]? = σ[m]?:=fun m h1 h2 h3=>by
  rw [aL (Ne.symm h3),aL (Ne.symm h2),aL (Ne.symm h1)]
 have dg:∀ m,m ≠ i→m ≠ j→m ≠ k→m ≠ q→((((δ.set i (some (.d d0))).set j (some (.d (.list l1)))).set k (some (.d (.list l2)))).set q none)[m]? = δ[m]?:=fun m h1 h2 h3 h4=>by
  rw [aL (Ne.symm h4),aL (Ne.symm h3),aL (Ne.symm h2),aL (Ne.symm h1)]
 have ownO:∀ m b,ow m=some b→fl[m]? = some .O∨fl[m]? = some .L:=fun m b h=>by
  rcases (R.own m b h).2.1 with ⟨z,_⟩ | ⟨z,_⟩
  ·exact .inl z
  ·exact .inr z
 refine ⟨a,x0,a1,a2,sv,ht,R.s0,R.s1,by simp only [bM];exact len,fun m b h=>?_,fun m m' b h h'=>?_,fun m h=>?_,fun m d h1 hn h2=>?_,fun m d h1 hn h2 h3=>?_,fun m b h=>?_,fun m m' b h h'=>?_,fun m m' b h h'=>?_,fun m h=>?_,fun m d hn h1=>?_⟩
 ·rcases oS m b h with ⟨rfl,rfl⟩ | ⟨mk,rfl,rfl⟩ | ⟨mk,mj,e⟩
  ·refine ⟨n2.1,.inl ⟨hk,F2⟩,ys2,l2,?_,h2,RAs.flat f2 (c2.ra (ok:=ok1) (pl:=true) fun _ _=>trivial),?_⟩
   ·rw [bH (by simp only [bM];omega)]
   ·rw [aL (Ne.symm kq),bH (by simp only [bM];omega)]
  ·refine ⟨n1.1,.inl ⟨hj,F1⟩,ys1,l1,?_,h1,RAs.flat f1 (c1.ra (ok:=ok1) (pl:=true) fun _ _=>trivial),?_⟩
   ·rw [aL (Ne.symm mk),bH (by simp only [bM];omega)]
   ·rw [aL (Ne.symm jq),aL (Ne.symm mk),bH (by simp only [bM];omega)]
  ·have mi:m ≠ i:=fun z=>by rcases ownO m b e with w | w <;> (rw [z,hi] at w;cases w)
   have mq:m ≠ q:=fun z=>by rcases ownO m b e with w | w <;> (rw [z,hq] at w;cases w)
   obtain ⟨g1,g2,xs,ds,g3,g4,g5,g6⟩:=R.own m b e
   exact ⟨g1,g2,xs,ds,by rw [sg m mi mj mk];exact g3,g4,g5.imp sub (fun z=>z),by rw [dg m mi mj mk mq];exact g6⟩
 ·rcases oS m b h with ⟨rfl,rfl⟩ | ⟨mk,rfl,rfl⟩ | ⟨mk,mj,e⟩ <;> rcases oS m' _ h' with ⟨z1,z2⟩ | ⟨z0,z1,z2⟩ | ⟨z0,z1,e'⟩
  ·exact z1.symm
  ·exact absurd z2.symm ne
  ·exact absurd e' (R.ns q m' _ m2)
  ·exact absurd z2 ne
  ·exact z1.symm
  ·exact absurd e' (R.ns q m' _ m1)
  ·rw [z2] at e;exact absurd e (R.ns q m _ m2)
  ·rw [z2] at e;exact absurd e (R.ns q m _ m1)
  ·exact R.inj m m' b e e'
 ·have mk:m ≠ k:=fun z=>by rw [z,hk] at h;cases h
  have mj:m ≠ j:=fun z=>by rw [z,hj] at h;cases h
  show (if m=k then some a2 else if m=j then some a1 else ow m)=_
  rw [if_neg mk,if_neg mj]
  exact R.pin m h
 ·obtain ⟨mq,c⟩:=N8 h1
  have h2:(if m=k then some a2 else if m=j then some a1 else ow m)=none:=h2
  rcases c with ⟨rfl,e⟩ | ⟨mk,rfl,e⟩ | ⟨mk,mj,rfl,e⟩ | ⟨mk,mj,mi,e⟩
  ·rw [if_pos rfl] at h2;cases h2
  ·rw [if_neg mk,if_pos rfl] at h2;cases h2
  ·cases e
   refine ⟨x0,?_,RA.flat f0 (r0.ra (ok:=ok1) (pl:=true) fun _ _=>trivial)⟩
   rw [aL (Ne.symm mk),aL (Ne.symm mj),bH (by omega)]
  ·rw [if_neg mk,if_neg mj] at h2
   obtain ⟨v,g1,g2⟩:=R.dat m d e hn h2
   exact ⟨v,by rw [sg m mi mj mk];exact g1,g2.imp sub (fun z=>z)⟩
 ·obtain ⟨mq,c⟩:=N8 h1
  have h3:(if m=k then some a2 else if m=j then some a1 else ow m)=none:=h3
  rcases c with ⟨rfl,e⟩ | ⟨mk,rfl,e⟩ | ⟨mk,mj,rfl,e⟩ | ⟨mk,mj,mi,e⟩
  ·rw [if_pos rfl] at h3;cases h3
  ·rw [if_neg mk,if_pos rfl] at h3;cases h3
  ·exact absurd hi h2
  ·rw [if_neg mk,if_neg mj] at h3
   exact R.oo m d e hn h2 h3
 ·exact R.nt m b (oN m b h).2
 ·exact R.nd m m' b (oN m b h).2 (oN m' b h').2
 ·obtain ⟨mq,hb⟩:=oN m b h
  rcases oS m' b h' with ⟨_,rfl⟩ | ⟨_,_,rfl⟩ | ⟨_,_,e⟩
  ·exact mq (R.nd m q _ hb m2)
  ·exact mq (R.nd m q _ hb m1)
  ·exact R.ns m m' b hb e
 ·have mq:m ≠ q:=fun z=>by rw [z,hq] at h;cases h
  rw [oNn m mq]
  exact R.np m h
 ·obtain ⟨mq,c⟩:=N8 h1
  have mi:m ≠ i:=fun z=>by rw [z,hi] at hn;cases hn
  have mj:m ≠ j:=fun z=>by rw [z,hj] at hn;cases hn
  have mk:m ≠ k:=fun z=>by rw [z,hk] at hn;cases hn
  rw [oNn m mq,sg m mi mj mk]
  rcases c with ⟨z,_⟩ | ⟨_,z,_⟩ | ⟨_,_,z,_⟩ | ⟨_,_,_,e⟩
  ·exact absurd z mk
  ·exact absurd z mj
  ·exact absurd z mi
  ·exact R.nr m d hn e
end
section
variable {X:Cx} {fl:List Fl} {i j k q:Nat} {pos:Pos}
theorem N_ {x0 x1 x2 xt:Str} {p0 p1 p2 pt ptup:Pos} {kk:Nat} (hc:X.calm=true) (hq:fl[q]? = some .N) (hi:fl[i]? = some .A) (hj:fl[j]? = some .O) (hk:fl[k]? = some .O) (jk:j ≠ k) (hN:X.N.Nodup) (ni:X.N[i]? = some x0) (nj:X.N[j]? = some x1) (nk:X.N[k]? = some x2) (nq:X.N[q]? = some xt)
 (v0:Loc X.env.scope x0) (v1:Loc X.env.scope x1) (v2:Loc X.env.scope x2)
 (w0:X.fn x0=true∨X.env.scope.names.lookup x0=some .local:=by first | exact .inl rfl | exact .inr rfl) (w1:X.fn x1=true∨X.env.scope.names.lookup x1=some .local:=by first | exact .inl rfl | exact .inr rfl) (w2:X.fn x2=true∨X.env.scope.names.lookup x2=some .local:=by first | exact .inl rfl | exact .inr rfl)
 (hv:Vis X.env.scope xt:=by first | exact Or.inl rfl | exact Or.inr (Or.inl rfl) | exact Or.inr (Or.inr rfl)) (hd:(xt == ("__debug__" : Str))=false:=by decide) (hcd:(xt == ("__classdict__" : Str))=false:=by decide)
 (e1:(assignEach [.Name x0 p0,.Name x1 p1,.Name x2 p2] X.env).map (·.2)=assign (.Name x0 p0) X.env :: (assignEach [.Name x1 p1,.Name x2 p2] X.env).map (·.2):=by rfl) (e2:(assignEach [.Name x1 p1,.Name x2 p2] X.env).map (·.2)=assign (.Name x1 p1) X.env :: (assignEach [.Name x2 p2] X.env).map (·.2):=by rfl) (e3:(assignEach [.Name x2 p2] X.env).map (·.2)=assign (.Name x2 p2) X.env :: (assignEach [] X.env).map (·.2):=by rfl)
 (hn:(assignEach [.Name x0 p0,.Name x1 p1,.Name x2 p2] X.env).length=3:=by rfl) (hst:(assignEach [.Name x0 p0,.Name x1 p1,.Name x2 p2] X.env).findIdx? (·.1)=none:=by rfl)
 (hs:swapsWithSole [.Tuple [.Name x0 p0,.Name x1 p1,.Name x2 p2] kk ptup] (.Name xt pt) pos.line X.env=pure false:=by rfl) (hw:swappedStores [.Tuple [.Name x0 p0,.Name x1 p1,.Name x2 p2] kk ptup] (.Name xt pt) X.env=pure none:=by rfl)
 (h1:(assignEach [.Tuple [.Name x0 p0,.Name x1 p1,.Name x2 p2] kk ptup] X.env).map (·.2)=[assign (.Tuple [.Name x0 p0,.Name x1 p1,.Name x2 p2] kk ptup) X.env]:=by rfl) :
 DS1 X fl (.Assign [.Tuple [.Name x0 p0,.Name x1 p1,.Name x2 p2] kk ptup] (.Name xt pt) pos) (vH i j k q) :=
 PS.imp (Af (lC nq hv hd hcd) (Fz (n:=3) hc (qy (tU (i:=i) hN ni v0 w0) (qy (tU (i:=j) hN nj v1 w1) (qy (tU (i:=k) hN nk v2 w2) Ca e3) e2) e1) hn hst) hs hw h1) fun Dn σ H h=>by
 obtain ⟨G,ow,δ,o,R,hf,z⟩:=h
 obtain ⟨x,ex,hf⟩:=bind1 hf
 split at hf
 case h_2=>cases hf
 next d0 l1 l2 =>
 by_cases c:flat d0=true∧flats l1=true∧flats l2=true∧i < δ.length∧j < δ.length∧k < δ.length
 case neg=>rw [if_neg c] at hf;cases hf
 rw [if_pos c] at hf
 cases hf
 obtain ⟨c1,c2,c3,c4,c5,c6⟩:=c
 obtain ⟨a,y0,a1,a2,g1,g2,R'⟩:=JT R hq hi hj hk jk c4 c5 c6 (mR ex) c1 c2 c3
 exact ⟨_,g1,a,_,rfl,g2.sq,rfl,_,_,rfl,_,_,rfl,_,_,rfl,rfl,z _ _ H R'⟩
end
end XY
namespace XO
open PySem PySem.Spec PyProof.Rows L2 My D3
noncomputable def nin (Z:List Addr):Ok:=fun a=>a ∉ Z
noncomputable def Uq (K:PySem.W.Frag) (fl:List Fl) (g:Nat) (G:Gh) (Dn:Ends):Oc→Prop
 | .ex _ _ d=>∀ v H',Same G.HF H'→RA K (nin (G.pn g)) true H' v d→Dn.rt v H'
 | .rt _=>False
 | o=>xG K fl G Dn o
noncomputable def Go (f:FS):Prop:=∀ δ o,f δ=some o→(∀ d,o ≠ .rt d)∧∀ c x d,o ≠ .ex c x d
section
variable {X:Cx} {fl:List Fl} {g:Nat} {st:Stmt} {sts body orelse:List Stmt} {c e:Expr} {pos:Pos} {fs gs:FS} {ft:FT} {f:FE}
theorem jP {i:Nat} {fe:FE}:Go (bh i fe):=fun δ o h=>by
 unfold bh Nf at h
 split at h
 ·cases e:fe δ with
  | none=>rw [e] at h;cases h
  | some d=>rw [e] at h;cases h;exact ⟨fun _ z=>(by cases z),fun _ _ _ z=>(by cases z)⟩
 ·cases h
theorem CQ {fe:FE}:Go (sS fe):=fun δ o h=>by
 unfold sS at h
 cases e:fe δ with
 | none=>rw [e] at h;cases h
 | some d=>rw [e] at h;cases h;exact ⟨fun _ z=>(by cases z),fun _ _ _ z=>(by cases z)⟩
theorem G7 {i:Nat} {fk fe:FE}:Go (oU i fk fe):=fun δ o h=>by
 unfold oU at h
 obtain ⟨d,_,h⟩:=bind1 h
 obtain ⟨x,_,h⟩:=bind1 h
 obtain ⟨k,_,h⟩:=bind1 h
 split at h
 ·obtain ⟨n,_,h⟩:=bind1 h
  cases h
  exact ⟨fun _ z=>(by cases z),fun _ _ _ z=>(by cases z)⟩
 ·cases h
theorem G8 {fi:FA} {gg:FG} {b:FS} (hb:Go b):Go (ou fi gg b):=fun δ o h=>by
 unfold ou at h
 obtain ⟨l,_,h⟩:=bind1 h
 have go:∀ (l:List D) (δ:DS),jY gg b l δ=some o→(∀ d,o ≠ .rt d)∧∀ c x d,o ≠ .ex c x d:=by
  intro l
  induction l with
  | nil=>intro δ h;cases h;exact ⟨fun _ z=>(by cases z),fun _ _ _ z=>(by cases z)⟩
  | cons d l ih =>
   intro δ h
   rw [jY] at h
   obtain ⟨δ1,_,h⟩:=bind1 h
   cases e:b δ1 with
   | none=>rw [e] at h;cases h
   | some o1 =>
    rw [e] at h
    have n:=hb δ1 o1 e
    cases o1 with
    | nx δ2=>exact ih δ2 h
    | ct δ2=>exact ih δ2 h
    | bk δ2=>cases h;exact ⟨fun _ z=>(by cases z),fun _ _ _ z=>(by cases z)⟩
    | rt d=>exact absurd rfl (n.1 d)
    | ex c x d=>exact absurd rfl (n.2 c x d)
 exact go l δ h
end
noncomputable def Nr (f:FS):Prop:=∀ δ d,f δ ≠ some (.rt d)
theorem rC {f:FS} (h:Go f):Nr f:=fun δ d e=>(h δ _ e).1 d rfl
theorem Oa:Nr dF:=fun δ d e=>by cases e
theorem nF {f g:FS} (h1:Nr f) (h2:Nr g):Nr (aY f g):=fun δ d e=>by
 obtain ⟨o1,e1,e2⟩:=bind1 (show (f δ).bind _=_ from e)
 cases o1 with
 | nx δ'=>exact h2 δ' d e2
 | rt x=>exact h1 δ x e1
 | bk _=>cases e2
 | ct _=>cases e2
 | ex _ _ _=>cases e2
theorem Q8 {t:FT} {f g:FS} (h1:Nr f) (h2:Nr g):Nr (sIf t f g):=fun δ d e=>by
 obtain ⟨b,_,e2⟩:=bind1 (show (t δ).bind _=_ from e)
 cases b with
 | true=>exact h1 δ d e2
 | false=>exact h2 δ d e2
noncomputable def Bc (Z:List Addr) (H:Hp):Hp:=fun a=>if a ∈ Z then none else H a
theorem G9 (Z:List Addr) (H:Hp):Same (Bc Z H) H:=fun a o e=>by
 unfold Bc at e
 split at e
 ·cases e
 ·exact e
theorem Ob {Z:List Addr} {H:Hp} (tb:Tb H) (hz:∀ a ∈ Z,Chd (H a)):Tb (Bc Z H):=fun t ht=>by
 unfold Bc
 split
 ·next c =>
  obtain ⟨u,e,ch⟩:=hz _ c
  rw [tb t ht] at e
  cases e
  rcases ch.ch with ⟨_,z⟩ | ⟨_,z⟩ | ⟨_,z⟩ <;> cases z
 ·exact tb t ht
section
variable {K:PySem.W.Frag} {fl:List Fl} {N:List Str}
end
section
variable {P:Program} {w:World} {K:PySem.W.Frag} {mg:Str→Option Value} {base:Heap} {x:Str} {ps N:List Str} {st:Stmt} {k n:Nat} {fs:FS} {fl:List Fl}
end
section
variable {X:Cx} {fl:List Fl} {e:Expr} {es:List Expr} {pos p:Pos} {x:Str} {n:Nat} {F:List D→Option D} {fa:FA}
end
end XO
namespace XH
open PySem PySem.Spec PyProof.Rows L2 My D3 XO
noncomputable abbrev Ee:=Gh→(V→Hp→Prop)→D→Prop
noncomputable def Tv (K:PySem.W.Frag) (fl:List Fl) (E:Ee) (G:Gh) (Dn:Ends):Oc→Prop
 | .ex _ _ d=>E G Dn.rt d
 | .rt _=>False
 | o=>xG K fl G Dn o
noncomputable def Q9 (K:PySem.W.Frag) (fl:List Fl) (E:Ee) (f:FS):TS:=fun Dn σ H=>∃ G ow δ o,Rel K fl G ow σ H δ∧f δ=some o∧Tv K fl E G Dn o
noncomputable abbrev DQ1 (X:Cx) (fl:List Fl) (E:Ee) (s:Stmt) (f:FS):Prop:=PS X s (Q9 X.K fl E f)
noncomputable abbrev DQs (X:Cx) (fl:List Fl) (E:Ee) (s:List Stmt) (f:FS):Prop:=PSs X s (Q9 X.K fl E f)
section
variable {X:Cx} {fl:List Fl} {E:Ee} {st:Stmt} {sts body orelse:List Stmt} {c e:Expr} {pos:Pos} {fs gs:FS} {ft:FT} {f:FE}
theorem rD (h:DS1 X fl st fs) (hg:Go fs):DQ1 X fl E st fs:=PS.imp h fun Dn σ H h=>by
 obtain ⟨G,ow,δ,o,R,hf,q⟩:=h
 obtain ⟨n1,n2⟩:=hg δ o hf
 refine ⟨G,ow,δ,o,R,hf,?_⟩
 cases o with
 | nx _=>exact q
 | bk _=>exact q
 | ct _=>exact q
 | rt d=>exact absurd rfl (n1 d)
 | ex c x d=>exact absurd rfl (n2 c x d)
theorem jM (h1:DQ1 X fl E st fs) (h2:DQs X fl E sts gs):DQs X fl E (st :: sts) (aY fs gs):=PSs.imp (yM h1 h2) fun Dn σ H h=>by
 obtain ⟨G,ow,δ,o,R,hf,q⟩:=h
 obtain ⟨o1,e1,e2⟩:=bind1 hf
 refine ⟨G,ow,δ,o1,R,e1,?_⟩
 cases o1 with
 | nx δ'=>exact fun ow' σ' H' R'=>⟨G,ow',δ',o,R',e2,q⟩
 | rt d=>cases e2;exact q
 | bk d=>cases e2;exact q
 | ct d=>cases e2;exact q
 | ex c f v=>cases e2;exact q
theorem xT (h1:DQ1 X fl E st fs):DQs X fl E [st] fs:=PSs.imp (B_ h1) fun _ _ _ h=>h
theorem JV:DQs X fl E [] dF:=PSs.imp BZ fun Dn σ H h=>by
 obtain ⟨G,ow,δ,o,R,hf,q⟩:=h
 cases hf
 exact q ow σ H R
theorem Q_ (hc:DT X fl c ft) (h1:DQs X fl E body fs) (h2:DQs X fl E orelse gs):DQ1 X fl E (.If c body orelse pos) (sIf ft fs gs):=PS.imp (Lh hc h1 h2) fun Dn σ H h=>by
 obtain ⟨G,ow,δ,o,R,hf,q⟩:=h
 obtain ⟨t,e1,e2⟩:=bind1 hf
 refine ⟨G,ow,δ,t,R,e1,fun H' s=>?_⟩
 cases t with
 | true=>exact xg ⟨G,ow,δ,o,R.grow s,e2,q⟩
 | false=>exact wZ ⟨G,ow,δ,o,R.grow s,e2,q⟩
end
noncomputable def EH (K:PySem.W.Frag) (j:Nat):Ee:=fun G rt d=>∀ b xs l H',Same G.HF H'→d = .list l→flats l=true→H' b=some (.lst xs)→RAs K ok0 false H' xs l→(G.pk j=some b∨G.HF b=none)→rt (.ref b) H'
noncomputable def spH (K:PySem.W.Frag) (j:Nat) (F:List D→Option D):Sp:=fun vs H Q _=>∃ ds d a xs0 l0,
 (Tb H∧(∀ i v d,i ≠ j→vs[i]? = some v→ds[i]? = some d→RA K (nin [a]) true H v d)∧vs.length=ds.length∧vs[j]? = some (.ref a)∧ds[j]? = some (.list l0)∧flats l0=true∧H a=some (.lst xs0)∧RAs K ok0 false H xs0 l0)∧F ds=some d ∧
 ∀ b xs l H',Same H H'→d = .list l→flats l=true→H' b=some (.lst xs)→RAs K ok0 false H' xs l→(b=a∨H b=none)→Q (.ref b) H'
section
variable {X:Cx} {fl:List Fl} {j:Nat} {e:Expr} {pos:Pos} {f:FE}
theorem JW {x:Str} {vpos:Pos} (hfl:fl[j]? = some .L) (hN:X.N[j]? = some x) (hv:Vis X.env.scope x:=by first | exact Or.inl rfl | exact Or.inr (Or.inl rfl) | exact Or.inr (Or.inr rfl)) (hd:(x == ("__debug__" : Str))=false:=by decide) (hcd:(x == ("__classdict__" : Str))=false:=by decide) :
 DQ1 X fl (EH X.K j) (.Return (some (.Name x vpos)) pos) (rB (ao j)):=PS.imp (wU (lC hN hv hd hcd)) fun Dn σ H h=>by
 obtain ⟨G,ow,δ,o,R,hf,q⟩:=h
 obtain ⟨d,e1,e2⟩:=bind1 hf
 split at e2
 case h_2=>cases e2
 next l =>
 by_cases c:flats l=true
 case neg=>rw [if_neg c] at e2;cases e2
 rw [if_pos c] at e2
 cases e2
 have ed:=mR e1
 cases ho:ow j with
 | none =>
  have z:=R.oo j _ ed (by rw [hfl];rfl) (by rw [hfl];simp) ho
  simp [flat] at z
 | some a =>
  obtain ⟨h0,_,xs,ds,g1,g2,g3,g4⟩:=R.own j a ho
  rw [ed] at g4
  cases g4
  exact ⟨_,g1,q a xs _ H R.s1 rfl c g2 (RAs.flat c g3) (.inl (by rw [← R.pin j hfl];exact ho))⟩
theorem Od (h:DE X fl .FC e f):DQ1 X fl (EH X.K j) (.Return (some e) pos) (rB f):=PS.imp (wU h) fun Dn σ H h=>by
 obtain ⟨G,ow,δ,o,R,hf,q⟩:=h
 obtain ⟨d,e1,e2⟩:=bind1 hf
 split at e2
 case h_2=>cases e2
 next l =>
 by_cases c:flats l=true
 case neg=>rw [if_neg c] at e2;cases e2
 rw [if_pos c] at e2
 cases e2
 refine ⟨G,ow,δ,_,R,e1,fun v H' s r=>?_⟩
 rcases r with ⟨z,_⟩ | ⟨a,xs,ds,rfl,e,g1,g2,g3⟩
 ·simp [flat] at z
 ·cases e
  exact q a xs _ H' (R.s1.trans s) rfl c g2 (RAs.flat c g3) (.inr (R.s1.free g1))
end
section
variable {K:PySem.W.Frag} {fl:List Fl} {N:List Str} {j:Nat}
noncomputable def owJ (j:Nat) (a:Addr):Ow:=⟨fun m=>if m=j then some a else none,fun _=>[]⟩
theorem zE {j m:Nat} {a b:Addr} (h:(owJ j a) m=some b):m=j∧b=a:=by
 have h:(if m=j then some a else none)=some b:=h
 split at h
 ·next c=>cases h;exact ⟨c,rfl⟩
 ·cases h
theorem Bd {vs:List V} {ds:List D} {H:Hp} {a:Addr} {xs0:List V} {l0:List D} (p:Nat) (hp:∀ i,i < p→i ≠ j→fl[i]? = some .A) (hj:fl[j]? = some .L) (hl:ds.length=p) (hN:p ≤ N.length)
 (tb:Tb H) (r:∀ i v d,i ≠ j→vs[i]? = some v→ds[i]? = some d→RA K (nin [a]) true H v d) (hv:vs.length=ds.length) (vj:vs[j]? = some (.ref a)) (dj:ds[j]? = some (.list l0)) (f0:flats l0=true) (ha:H a=some (.lst xs0)) (r0:RAs K ok0 false H xs0 l0) :
 Rel K fl ⟨Bc [a] H,H,(owJ j a).s,fun _=>[],Ob tb (fun b hb=>by rw [bW.mp hb];exact ⟨_,ha,inferInstance⟩)⟩ (owJ j a) (L2.start N vs) H (ds.map (fun d=>some (.d d))++aK (N.length - p) none):=by
 have hv':vs.length=p:=by omega
 have jp:j < p:=by
  have:=(cg.mp dj).1
  omega
 have get:∀ i d,(ds.map (fun d=>some (U.d d))++aK (N.length - p) none)[i]? = some (some (.d d))→i < p∧ds[i]? = some d:=fun i d h=>by
  by_cases hi:i < p
  ·rw [cj (by rw [aU,hl];exact hi),bf] at h
   cases e:ds[i]? with
   | none=>rw [e] at h;cases h
   | some z=>rw [e] at h;cases h;exact ⟨hi,rfl⟩
  ·rw [cR (by rw [aU,hl];omega),cT] at h
   split at h <;> cases h
 have st:∀ i v,i < p→vs[i]? = some v→(L2.start N vs)[i]? = some (some v):=fun i v hi e=>by
  unfold L2.start
  rw [cj (by rw [aU,hv'];exact hi),bf,e]
  rfl
 refine ⟨G9 _ H,Same.refl H,?_,fun i b h=>?_,fun i i' b h h'=>(zE h).1.trans (zE h').1.symm,fun i h=>rfl,fun i d h hn h2=>?_,fun i d h hn h2 h3=>?_,fun i b h=>(by cases h),fun i i' b h=>(by cases h),fun i i' b h=>(by cases h),fun i h=>rfl,fun i d hn h=>?_⟩
 ·unfold L2.start
  simp only [cI,aU,aQ,hv',hl]
 ·obtain ⟨rfl,rfl⟩:=zE h
  refine ⟨?_,.inr ⟨hj,xs0,ha⟩,xs0,l0,st i _ jp vj,ha,RAs.flat f0 r0,?_⟩
  ·show Bc [b] H b=none
   unfold Bc
   rw [if_pos (bW.mpr rfl)]
  ·rw [cj (by rw [aU,hl];exact jp),bf,dj]
   rfl
 ·obtain ⟨hi,e⟩:=get i d h
  have ij:i ≠ j:=fun z=>by
   have h2:(if i=j then some a else none)=none:=h2
   rw [if_pos z] at h2
   cases h2
  have ev:vs[i]? = some (vs[i]'(by omega)):=aO (by omega)
  exact ⟨_,st i _ hi ev,(r i _ d ij ev e).imp (fun b hb=>⟨fun m z=>hb (bW.mpr (zE z).2),fun m z=>by cases z⟩) (fun z=>z)⟩
 ·obtain ⟨hi,e⟩:=get i d h
  have ij:i ≠ j:=fun z=>by
   have h3:(if i=j then some a else none)=none:=h3
   rw [if_pos z] at h3
   cases h3
  exact absurd (hp i hi ij) h2
 ·obtain ⟨hi,e⟩:=get i d h
  by_cases ij:i=j
  ·rw [ij,hj] at hn;cases hn
  ·rw [hp i hi ij] at hn;cases hn
end
section
variable {P:Program} {w:World} {K:PySem.W.Frag} {mg:Str→Option Value} {base:Heap} {x:Str} {ps N:List Str} {st:Stmt} {k n j:Nat} {fs:FS} {fl:List Fl}
theorem Oe (Dd:Dg K mg x st ps) (S:FnScope N ps (bA st)) (hp:∀ i,i < ps.length→i ≠ j→fl[i]? = some .A) (hj:fl[j]? = some .L) (hN:ps.length ≤ N.length) (hnr:Nr fs) (hnn:∀ δ δ',fs δ ≠ some (.nx δ'))
 (hbody:∀ (f:Addr) (cdv:Value) (A:Around) (outer:List Env) (s:Shared) (H:Hp) (E:XK),Room k (A.deeper (envOfC x (bA st) s.heap.objs.size f cdv))→DQs (cx P w K mg base N x st f cdv A outer s H E) fl (EH K j) (j6 st) fs) :
 Has P w K mg base (k + 1) x ps (spH K j (fnL ps.length (N.length - ps.length) fs)):=by
 obtain ⟨f,fd,Fn,b,m⟩:=Dd.ex
 refine ⟨f,fd,?_,b,Fn.kp,m⟩
 refine Fn.ok S (fun vs H Q E h=>?_) (fun cdv A outer s H vs Q E hr h=>?_)
 ·obtain ⟨ds,d,a,xs0,l0,r,hf,_⟩:=h
  unfold fnL at hf
  by_cases z:ds.length=ps.length
  ·rw [r.2.2.1];exact z
  ·rw [if_neg z] at hf;cases hf
 ·obtain ⟨ds,d,a,xs0,l0,⟨r1,r2,r3,r4,r5,r6,r7,r8⟩,hf,q⟩:=h
  refine ⟨_,hbody f cdv A outer s H E hr,?_⟩
  unfold fnL G4 at hf
  by_cases z:ds.length=ps.length
  ·rw [if_pos z] at hf
   have R:=Bd (K:=K) (N:=N) ps.length hp hj z hN r1 r2 r3 r4 r5 r6 r7 r8
   split at hf
   ·next d' e=>exact absurd e (hnr _ _)
   ·next c' f' d' e =>
    cases hf
    refine ⟨_,_,_,_,R,e,fun b xs l H' s e1 e2 e3 e4 e5=>q b xs l H' s e1 e2 e3 e4 ?_⟩
    rcases e5 with e5 | e5
    ·exact .inl (zE e5).2
    ·exact .inr e5
   ·next δ' e=>exact absurd e (hnn _ _)
   ·cases hf
  ·rw [if_neg z] at hf;cases hf
end
theorem Og {H:Hp} {a:Addr} {o:HO} (h:H a=some o):upd H a o=H:=by
 funext b
 by_cases c:b=a
 ·subst c
  rw [fH,h]
 ·rw [dG c]
section
variable {X:Cx} {fl:List Fl} {i n:Nat} {e0 e1 e3:Expr} {f0 f1 f3:FE} {F:List D→Option D} {pos:Pos}
theorem JX {x g:Str} {ps:List Str} {pos' vpos gp cpos:Pos} (hfl:fl[i]? = some .O) (hN:X.N.Nodup) (hi:X.N[i]? = some x) (hv:X.env.scope.names.lookup x=some .local∨X.env.scope.names.lookup x=some .cell)
 (h:Has X.prog X.w X.K X.mg X.base n g ps (spH X.K 2 F)) (hr:Room n X.A) (h0:DE X fl .A e0 f0) (h1:DE X fl .A e1 f1) (h3:DE X fl .A e3 f3) (hg:Gl X g:=by rfl) (hdb:(g == ("__debug__" : Str))=false:=by decide)
 (hvx:Vis X.env.scope x:=by first | exact Or.inl rfl | exact Or.inr (Or.inl rfl) | exact Or.inr (Or.inr rfl)) (hd:(x == ("__debug__" : Str))=false:=by decide) (hcd:(x == ("__classdict__" : Str))=false:=by decide)
 (s0:starEach [e0,e1,.Name x vpos,e3] X.env=(false,eval e0 X.env) :: starEach [e1,.Name x vpos,e3] X.env:=by exact jy rfl) (s1:starEach [e1,.Name x vpos,e3] X.env=(false,eval e1 X.env) :: starEach [.Name x vpos,e3] X.env:=by exact jy rfl)
 (s2:starEach [.Name x vpos,e3] X.env=(false,eval (.Name x vpos) X.env) :: starEach [e3] X.env:=by exact jy rfl) (s3:starEach [e3] X.env=(false,eval e3 X.env) :: starEach [] X.env:=by exact jy rfl)
 (hpl:(backTo cpos (starEach [e1,.Name x vpos,e3] X.env)).any (·.1)=false:=by exact Cu rfl)
 (hs:swapsWith (.Call (.Name g gp) [e0,e1,.Name x vpos,e3] [] cpos) (some (.Name x pos')) pos.line X.env=pure false:=by rfl) (hfn:X.fn x=true∨X.env.scope.names.lookup x=some .local:=by first | exact .inl rfl | exact .inr rfl) :
 DS1 X fl (.Assign [.Name x pos'] (.Call (.Name g gp) [e0,e1,.Name x vpos,e3] [] cpos) pos) (wg i F f0 f1 f3) :=
 PS.imp (wV (i:=i) hN hi hv (uw h hr (gU h0 (gU h1 (gU (lC hi hvx hd hcd) (gU h3 m9 s3) s2) s1) s0) hg hdb s0 hpl) hs hfn) fun Dn σ H h=>by
 obtain ⟨G,ow,δ,o,R,hf,z⟩:=h
 obtain ⟨d0,c0,hf⟩:=bind1 hf
 obtain ⟨d1,c1,hf⟩:=bind1 hf
 obtain ⟨d2,c2,hf⟩:=bind1 hf
 obtain ⟨d3,c3,hf⟩:=bind1 hf
 obtain ⟨l0,rfl⟩:∃ l0,d2 = .list l0:=by cases d2 <;> first | exact ⟨_,rfl⟩ | (cases hf;done)
 dsimp only at hf
 by_cases c:flats l0=true∧i < δ.length
 case neg=>rw [if_neg c] at hf;cases hf
 rw [if_pos c] at hf
 obtain ⟨d,c4,hf⟩:=bind1 hf
 obtain ⟨l,rfl⟩:∃ l,d = .list l:=by cases d <;> first | exact ⟨_,rfl⟩ | (cases hf;done)
 dsimp only at hf
 by_cases c5:flats l=true
 case neg=>rw [if_neg c5] at hf;cases hf
 rw [if_pos c5] at hf
 cases hf
 obtain ⟨a,xs,ho,g1,g2,g3⟩:=uJ R hfl c2
 have na:∀ b,okA ow b→nin [a] b:=fun b hb hm=>hb.1 i (by rw [bW.mp hm];exact ho)
 refine ⟨G,ow,δ,d0,R,c0,fun v0 H0 t0 r0=>⟨G,ow,δ,d1,R.grow t0,c1,fun v1 H1 t1 r1=>⟨_,g1,G,ow,δ,d3,R.grow (t0.trans t1),c3,fun v3 H3 t3 r3=>?_⟩⟩⟩
 have t:Same H H3:=(t0.trans t1).trans t3
 have R3:=R.grow t
 refine ⟨[d0,d1,.list l0,d3],.list l,a,xs,l0,⟨R.tb.same t,fun m v d hm ev ed=>?_,rfl,rfl,rfl,c.1,t _ _ g2,RAs.flat c.1 (g3.same t)⟩,c4,fun b ys l' H' s el _ hb hbs hor=>?_⟩
 ·match m with
  | 0=>cases ev;cases ed;exact (RA.imp na (fun z=>z) r0).same (t1.trans t3)
  | 1=>cases ev;cases ed;exact (RA.imp na (fun z=>z) r1).same t3
  | 2=>exact absurd rfl hm
  | 3=>cases ev;cases ed;exact RA.imp na (fun z=>z) r3
  | m + 4=>cases ev
 ·cases el
  rcases hor with rfl | hb0
  ·have R4:=(R3.grow s).mut hfl ho (ys:=ys) (ds:=l) (RAs.flat c5 hbs)
   rw [Og hb] at R4
   have e:σ.set i (some (.ref b))=σ:=by
    apply ju
    intro m
    by_cases hm:m=i
    ·subst hm
     have:m < σ.length:=(cg.mp g1).1
     rw [bH this,g1]
    ·rw [aL (Ne.symm hm)]
   show Dn.nx (σ.set i (some (.ref b))) H'
   rw [e]
   exact z ow σ H' R4
  ·obtain ⟨ow',R4⟩:=R3.setO s hfl (pG R c.2) (v:=.ref b) (d:=.list l) (.inr ⟨b,ys,l,rfl,rfl,hb0,hb,RAs.flat c5 hbs⟩)
   exact z ow' _ H' R4
theorem CT:Go (wg i F f0 f1 f3):=fun δ o h=>by
 obtain ⟨d0,_,h⟩:=bind1 h
 obtain ⟨d1,_,h⟩:=bind1 h
 obtain ⟨d2,_,h⟩:=bind1 h
 obtain ⟨d3,_,h⟩:=bind1 h
 split at h
 ·split at h
  ·obtain ⟨d,_,h⟩:=bind1 h
   split at h
   ·split at h
    ·cases h;exact ⟨fun _ z=>(by cases z),fun _ _ _ z=>(by cases z)⟩
    ·cases h
   ·cases h
  ·cases h
 ·cases h
end
noncomputable def ET (K:PySem.W.Frag):Ee:=fun G rt d=>∀ v H' as,Same G.H0 H'→RT K H' v d as→as.Nodup→(∀ a ∈ as,G.H0 a=none)→rt v H'
noncomputable def spT (K:PySem.W.Frag) (F:List D→Option D):Sp:=fun vs H Q _=>∃ ds d,(Tb H∧RAs K ok1 true H vs ds)∧F ds=some d∧∀ v H' as,Same H H'→RT K H' v d as→as.Nodup→(∀ a ∈ as,H a=none)→Q v H'
theorem JZ (d:D):flat d=true→nl d=0 :=
 PyData.rec (motive_1:=fun d=>flat d=true→nl d=0) (motive_2:=fun l=>flats l=true→nls l=0) (motive_3:=fun _=>True) (motive_4:=fun _=>True)
  (fun _=>rfl) (fun _ _=>rfl) (fun _ _=>rfl) (fun _ _=>rfl) (fun _ _ z=>by simp [flat] at z) (fun _ ih z=>ih z) (fun _ _ z=>by simp [flat] at z)
  (fun _=>rfl) (fun d l h1 h2 z=>by
   simp only [flats,aR] at z
   simp only [nls,h1 z.1,h2 z.2]) trivial (fun _ _ _ _=>trivial) (fun _ _ _ _=>trivial) d
theorem rT:∀ l:List D,flats l=true→nls l=0
 | [],_=>rfl
 | d :: l,h=>by
  simp only [flats,aR] at h
  simp only [nls,JZ d h.1,rT l h.2]
section
variable {K:PySem.W.Frag} {H:Hp}
theorem zF {xs:List V} {l:List D} (hn:nls l=0) (r:RAs K ok0 false H xs l):RTs K H xs l []:=by
 obtain ⟨as,h1,h2,_⟩:=r.rts
 rw [hn] at h2
 rw [List.length_eq_zero_iff.mp h2] at h1
 exact h1
end
section
variable {X:Cx} {fl:List Fl} {i n:Nat} {e1 e3:Expr} {f1 f3:FE} {pos:Pos}
theorem J0 {x:Str} {vpos tp:Pos} {kk:Nat} (hfl:fl[i]? = some .O) (h1:DE X fl .P e1 f1) (hN:X.N[i]? = some x) (h3:DE X fl .C e3 f3)
 (hvx:Vis X.env.scope x:=by first | exact Or.inl rfl | exact Or.inr (Or.inl rfl) | exact Or.inr (Or.inr rfl)) (hd:(x == ("__debug__" : Str))=false:=by decide) (hcd:(x == ("__classdict__" : Str))=false:=by decide)
 (s1:starEach [e1,.Name x vpos,e3] X.env=(false,eval e1 X.env) :: starEach [.Name x vpos,e3] X.env:=by exact jy rfl) (s2:starEach [.Name x vpos,e3] X.env=(false,eval (.Name x vpos) X.env) :: starEach [e3] X.env:=by exact jy rfl) (s3:starEach [e3] X.env=(false,eval e3 X.env) :: starEach [] X.env:=by exact jy rfl) :
 DQ1 X fl (ET X.K) (.Return (some (.Tuple [e1,.Name x vpos,e3] kk tp)) pos) (tu i f1 f3) :=
 PS.imp (wU (Gb (gU h1 (gU (lC hN hvx hd hcd) (gU h3 m9 s3) s2) s1))) fun Dn σ H h=>by
 obtain ⟨G,ow,δ,o,R,hf,z⟩:=h
 obtain ⟨d1,c1,hf⟩:=bind1 hf
 obtain ⟨d2,c2,hf⟩:=bind1 hf
 obtain ⟨d3,c3,hf⟩:=bind1 hf
 obtain ⟨n,rfl⟩:∃ n,d1 = .int n:=by cases d1 <;> first | exact ⟨_,rfl⟩ | (cases hf;done)
 obtain ⟨l,rfl⟩:∃ l,d2 = .list l:=by cases d2 <;> first | exact ⟨_,rfl⟩ | (cases hf;done)
 obtain ⟨m,rfl⟩:∃ m,d3 = .list m:=by cases d3 <;> first | exact ⟨_,rfl⟩ | (cases hf;done)
 dsimp only at hf
 by_cases c:flats l=true∧flats m=true
 case neg=>rw [if_neg c] at hf;cases hf
 rw [if_pos c] at hf
 cases hf
 obtain ⟨a,xs,ho,g1,g2,g3⟩:=uJ R hfl c2
 refine ⟨G,ow,δ,_,R,c1,fun v1 H1 t1 r1=>⟨_,g1,G,ow,δ,_,R.grow t1,c3,fun v3 H3 t3 r3=>⟨(show 3 ≤ sizeLine by decide),fun p hp=>?_⟩⟩⟩
 obtain rfl:=RA.intE r1
 have t:Same H H3:=t1.trans t3
 have sp:=gW hp (.tup [.int n,.ref a,v3])
 cases r3 with
 | lsk _ z _=>cases z
 | lst hb okb rs =>
  rename_i b ys
  have ab:a ≠ b:=fun e=>by
   have:H1 a=some (.lst xs):=t1 _ _ g2
   rw [e,okb] at this
   cases this
  have k2:RTs X.K (upd H3 p (.tup [.int n,.ref a,.ref b])) xs l []:=zF (rT l c.1) (RAs.flat c.1 ((g3.same t).same sp))
  have k3:RTs X.K (upd H3 p (.tup [.int n,.ref a,.ref b])) ys m []:=zF (rT m c.2) (RAs.flat c.2 (rs.same sp))
  refine z _ _ [a,b] ((R.same0.trans t).trans sp) (.tup (as:=[]++([a]++([b]++[]))) fH (.cons (.int n) (.cons (.lst (sp _ _ (t _ _ g2)) k2) (.cons (.lst (sp _ _ hb) k3) .nil)))) ?_ fun q hq=>?_
  ·simp [ab]
  ·rcases bQ.mp hq with rfl | hq
   ·exact (R.own i _ ho).1
   ·rw [bW.mp hq]
    exact (R.same0.trans t1).free okb
end
section
variable {P:Program} {w:World} {K:PySem.W.Frag} {mg:Str→Option Value} {base:Heap} {x:Str} {ps N:List Str} {st:Stmt} {k n:Nat} {fs:FS} {fl:List Fl}
theorem J1 (Dd:Dg K mg x st ps) (S:FnScope N ps (bA st)) (hp:∀ i,i < ps.length→fl[i]? = some .A) (hN:ps.length ≤ N.length) (hnr:Nr fs) (hnn:∀ δ δ',fs δ ≠ some (.nx δ'))
 (hbody:∀ (f:Addr) (cdv:Value) (A:Around) (outer:List Env) (s:Shared) (H:Hp) (E:XK),Room k (A.deeper (envOfC x (bA st) s.heap.objs.size f cdv))→DQs (cx P w K mg base N x st f cdv A outer s H E) fl (ET K) (j6 st) fs) :
 Has P w K mg base (k + 1) x ps (spT K (fnL ps.length (N.length - ps.length) fs)):=by
 obtain ⟨f,fd,Fn,b,m⟩:=Dd.ex
 refine ⟨f,fd,?_,b,Fn.kp,m⟩
 refine Fn.ok S (fun vs H Q E h=>?_) (fun cdv A outer s H vs Q E hr h=>?_)
 ·obtain ⟨ds,d,r,hf,_⟩:=h
  unfold fnL at hf
  by_cases z:ds.length=ps.length
  ·rw [r.2.length];exact z
  ·rw [if_neg z] at hf;cases hf
 ·obtain ⟨ds,d,r,hf,q⟩:=h
  refine ⟨_,hbody f cdv A outer s H E hr,?_⟩
  unfold fnL G4 at hf
  by_cases z:ds.length=ps.length
  ·rw [if_pos z] at hf
   split at hf
   ·next d' e=>exact absurd e (hnr _ _)
   ·next c' f' d' e =>
    cases hf
    exact ⟨_,_,_,_,rQ ps.length hp z hN r,e,fun v H' as s e1 e2 e3=>q v H' as s e1 e2 e3⟩
   ·next δ' e=>exact absurd e (hnn _ _)
   ·cases hf
  ·rw [if_neg z] at hf;cases hf
end
section
variable {X:Cx} {fl:List Fl} {e:Expr} {es:List Expr} {pos p:Pos} {x:Str} {n:Nat} {F:List D→Option D} {fa:FA}
theorem uN {ps:List Str} (h:Has X.prog X.w X.K X.mg X.base n x ps (spT X.K F)) (hr:Room n X.A) (ha:DB X fl .P (e :: es) fa) (hg:Gl X x:=by rfl) (hdb:(x == ("__debug__" : Str))=false:=by decide)
 (he:starEach (e :: es) X.env=(false,eval e X.env) :: starEach es X.env:=by exact jy rfl) (hpl:(backTo pos (starEach es X.env)).any (·.1)=false:=by exact Cu rfl) :
 DE X fl .T (.Call (.Name x p) (e :: es) [] pos) (dCall F fa):=PE.imp (uw h hr ha hg hdb he hpl) fun σ H Q h=>by
 obtain ⟨G,ow,δ,d,R,hf,q⟩:=h
 obtain ⟨ds,e1,e2⟩:=bind1 hf
 refine ⟨G,ow,δ,ds,R,e1,fun vs H' s r=>?_⟩
 show spT X.K F (vs++[]) H' Q E0
 rw [i_]
 exact ⟨ds,d,⟨R.tb.same s,r⟩,e2,fun v H2 as s2 r2 nd new=>q v H2 (s.trans s2) ⟨as,r2,nd,fun a ha=>s.free (new a ha)⟩⟩
end
noncomputable def Nn (f:FS):Prop:=∀ δ δ',f δ ≠ some (.nx δ')
theorem nG {f g:FS} (h:Nn g):Nn (aY f g):=fun δ δ' e=>by
 obtain ⟨o1,_,e2⟩:=bind1 (show (f δ).bind _=_ from e)
 cases o1 with
 | nx δ1=>exact h δ1 δ' e2
 | rt x=>cases e2
 | bk _=>cases e2
 | ct _=>cases e2
 | ex _ _ _=>cases e2
theorem CV {f:FE} {δ:DS} {o:Oc} (e:rB f δ=some o):∃ d,o = .ex "" "" d:=by
 obtain ⟨d,_,e⟩:=bind1 e
 obtain ⟨l,rfl⟩:∃ l,d = .list l:=by cases d <;> first | exact ⟨_,rfl⟩ | (cases e;done)
 dsimp only at e
 split at e
 ·cases e;exact ⟨_,rfl⟩
 ·cases e
theorem J2 {f:FE}:Nn (rB f):=fun δ δ' e=>by obtain ⟨d,z⟩:=CV e;cases z
theorem CW {f:FE}:Nr (rB f):=fun δ d e=>by obtain ⟨d,z⟩:=CV e;cases z
theorem CZ {i:Nat} {f1 f3:FE} {δ:DS} {o:Oc} (e:tu i f1 f3 δ=some o):∃ d,o = .ex "" "" d:=by
 obtain ⟨d1,_,e⟩:=bind1 e
 obtain ⟨d2,_,e⟩:=bind1 e
 obtain ⟨d3,_,e⟩:=bind1 e
 obtain ⟨n,rfl⟩:∃ n,d1 = .int n:=by cases d1 <;> first | exact ⟨_,rfl⟩ | (cases e;done)
 obtain ⟨l,rfl⟩:∃ l,d2 = .list l:=by cases d2 <;> first | exact ⟨_,rfl⟩ | (cases e;done)
 obtain ⟨m,rfl⟩:∃ m,d3 = .list m:=by cases d3 <;> first | exact ⟨_,rfl⟩ | (cases e;done)
 dsimp only at e
 split at e
 ·cases e;exact ⟨_,rfl⟩
 ·cases e
theorem J3 {i:Nat} {f1 f3:FE}:Nn (tu i f1 f3):=fun δ δ' e=>by obtain ⟨d,z⟩:=CZ e;cases z
theorem J4 {i:Nat} {f1 f3:FE}:Nr (tu i f1 f3):=fun δ d e=>by obtain ⟨d,z⟩:=CZ e;cases z
end XH
namespace D3
open PySem PySem.Spec PyProof.Rows L2 My
section
variable {X:Cx} {fl:List Fl} {e a b:Expr} {es:List Expr} {f fa fb:FE} {fr:FA} {k:Kd} {pos:Pos}
theorem vA (i:Nat) {x:Str} (hfl:fl[i]? = some .A:=by rfl) (hN:X.N[i]? = some x:=by rfl) (hv:Vis X.env.scope x:=by first | exact Or.inl rfl | exact Or.inr (Or.inl rfl) | exact Or.inr (Or.inr rfl)) (hd:(x == ("__debug__" : Str))=false:=by decide)
 (hcd:(x == ("__classdict__" : Str))=false:=by decide):DE X fl .A (.Name x pos) (ao i):=xH i hfl hN hv hd hcd
theorem vP (i:Nat) {x:Str} (hfl:fl[i]? = some .A:=by rfl) (hN:X.N[i]? = some x:=by rfl) (hv:Vis X.env.scope x:=by first | exact Or.inl rfl | exact Or.inr (Or.inl rfl) | exact Or.inr (Or.inr rfl)) (hd:(x == ("__debug__" : Str))=false:=by decide)
 (hcd:(x == ("__classdict__" : Str))=false:=by decide):DE X fl .P (.Name x pos) (ao i):=bL (xH i hfl hN hv hd hcd)
theorem vB (i:Nat) {x:Str} (hfl:fl[i]? = some .A:=by rfl) (hN:X.N[i]? = some x:=by rfl) (hv:Vis X.env.scope x:=by first | exact Or.inl rfl | exact Or.inr (Or.inl rfl) | exact Or.inr (Or.inr rfl)) (hd:(x == ("__debug__" : Str))=false:=by decide)
 (hcd:(x == ("__classdict__" : Str))=false:=by decide):DE X fl (.B []) (.Name x pos) (ao i):=jE (xH i hfl hN hv hd hcd)
theorem iP {i j pos}:DE X fl .P (.Constant (.int i) j pos) (dC (.int i)):=aW mD
theorem iC {i j pos}:DE X fl .C (.Constant (.int i) j pos) (dC (.int i)):=cW mD
theorem dz:DB X fl k [] aM:=Nm
theorem dq (h:DE X fl k e f) (hr:DB X fl k es fr) (hk:isR k=true:=by rfl) (hs:starEach (e :: es) X.env=(false,eval e X.env) :: starEach es X.env:=by exact jy rfl):DB X fl k (e :: es) (aF f fr):=JD hk h hr hs
theorem dx {L:List Nat} (ha:DE X fl (.B L) a fa) (hb:DE X fl .P b fb) (hs:qz b:=by exact fun _ _=>rfl):DE X fl .A (.Subscript a b pos) (dOp gIx fa fb):=QW ha hb hs
theorem sA {i:Nat} {x:Str} {pos':Pos} (hN:X.N.Nodup) (h:DE X fl .A e f) (hfl:fl[i]? = some .A:=by rfl) (hi:X.N[i]? = some x:=by rfl) (hv:X.env.scope.names.lookup x=some .local∨X.env.scope.names.lookup x=some .cell:=by first | exact Or.inl rfl | exact Or.inr rfl)
 (hs:swapsWith e (some (.Name x pos')) pos.line X.env=pure false:=by rfl) (hfn:X.fn x=true∨X.env.scope.names.lookup x=some .local:=by first | exact .inl rfl | exact .inr rfl) :
 DS1 X fl (.Assign [.Name x pos'] e pos) (bh i f):=JB hfl hN hi hv h hs hfn
theorem gN' {i:Nat} {x:Str} {pos:Pos} (hN:X.N.Nodup) (hfl:fl[i]? = some .A:=by rfl) (hi:X.N[i]? = some x:=by rfl) (hv:X.env.scope.names.lookup x=some .local∨X.env.scope.names.lookup x=some .cell:=by first | exact Or.inl rfl | exact Or.inr rfl)
 (hfn:X.fn x=true∨X.env.scope.names.lookup x=some .local:=by first | exact .inl rfl | exact .inr rfl):DG X fl [i] (.Name x pos) (gNl i):=JC hfl hN hi hv hfn
end
theorem fsc {N P:List Str} {sc:Scope} (a:sc.kind = .function:=by rfl) (b:sc.isCoroutine=false:=by rfl) (c:sc.isGenerator=false:=by rfl) (d:N.Nodup:=by decide +kernel) (e:N.take P.length=P:=by rfl) (f:∀ x ∈ P,sc.names.lookup x=some .local∨sc.names.lookup x=some .cell:=by decide +kernel) (g:∀ y ∈ sc.names,y.2 ≠ .free:=by decide +kernel):FnScope N P sc:=⟨a,b,c,d,e,f,g⟩
end D3
namespace D3
open PySem
noncomputable def qS (o:Option Oc) (b:FS):Option Oc:=match o with
 | some (.nx δ)=>b δ
 | some o=>some o
 | none=>none
noncomputable def qI (o:Option Bool) (a b:FS) (δ:DS):Option Oc:=match o with
 | some true=>a δ
 | some false=>b δ
 | none=>none
noncomputable def qO (g:D→D→Option D) (a b:Option D):Option D:=match a,b with
 | some x,some y=>g x y
 | _,_=>none
noncomputable def qU (g:D→Option D) (a:Option D):Option D:=match a with
 | some x=>g x
 | none=>none
noncomputable def qC (a:Option D) (r:Option (List D)):Option (List D):=match a,r with
 | some x,some l=>some (x :: l)
 | _,_=>none
noncomputable def qF (F:List D→Option D) (l:Option (List D)):Option D:=match l with
 | some l=>F l
 | none=>none
noncomputable def qR (a:Option D):Option Oc:=match a with
 | some d=>some (.rt d)
 | none=>none
noncomputable def Oh (i:Nat) (a:Option D) (δ:DS):Option Oc:=match a with
 | some d=>if i < δ.length then some (.nx (δ.set i (some (.d d)))) else none
 | none=>none
noncomputable def Eh (a:Option D) (fb:FE) (δ:DS):Option D:=match a with
 | some (.bool true)=>fb δ
 | some (.bool false)=>some (.bool false)
 | _=>none
noncomputable def qOr (a:Option D) (fb:FE) (δ:DS):Option D:=match a with
 | some (.bool true)=>some (.bool true)
 | some (.bool false)=>fb δ
 | _=>none
noncomputable def qN (a:Option D):Option D:=match a with
 | some (.bool b)=>some (.bool (!b))
 | _=>none
noncomputable def qB (a:Option D):Option Bool:=match a with
 | some (.bool b)=>some b
 | _=>none
noncomputable def qTA (a:Option Bool) (b:FT) (δ:DS):Option Bool:=match a with
 | some true=>b δ
 | some false=>some false
 | none=>none
noncomputable def qTO (a:Option Bool) (b:FT) (δ:DS):Option Bool:=match a with
 | some true=>some true
 | some false=>b δ
 | none=>none
noncomputable def qTN (a:Option Bool):Option Bool:=match a with
 | some b=>some (!b)
 | none=>none
noncomputable def qE (a:Option Bool) (fa fb:FE) (δ:DS):Option D:=match a with
 | some true=>fa δ
 | some false=>fb δ
 | none=>none
noncomputable def qL (a:Option D):Option (List D):=match a with
 | some (.list l)=>some l
 | _=>none
noncomputable def Oi (a:Option (List D)) (g:FG) (b:FS) (δ:DS):Option Oc:=match a with
 | some l=>jY g b l δ
 | none=>none
noncomputable def qD (a:Option DS):Option Oc:=match a with
 | some δ=>some (.nx δ)
 | none=>none
noncomputable def qG (a:Option D) (g:FG) (δ:DS):Option DS:=match a with
 | some d=>g d δ
 | none=>none
noncomputable def qGs (a:Option DS) (r:List D→DS→Option DS) (l:List D):Option DS:=match a with
 | some δ=>r l δ
 | none=>none
noncomputable def qT (a:Option (List D)):Option D:=match a with
 | some l=>if l.length ≤ sizeLine then some (.tuple l) else none
 | none=>none
noncomputable def qK (a:Option (List D)):Option D:=match a with
 | some l=>if l.length ≤ sizeLine then some (.list l) else none
 | none=>none
noncomputable def qFl (p:D→Bool) (a:Option D):Option D:=match a with
 | some d=>if p d=true then some d else none
 | none=>none
noncomputable def qA (i:Nat) (x a:Option D) (δ:DS):Option Oc:=match x,a with
 | some (.list l),some d=>if l.length < 1000000 then some (.nx (δ.set i (some (.d (.list (l++[d])))))) else none
 | _,_=>none
noncomputable def qP (i:Nat) (a x k:Option D) (δ:DS):Option Oc:=match a,x,k with
 | some d,some (.list l),some (.int j)=>(pIx l.length j).bind fun n=>some (.nx (δ.set i (some (.d (.list (l.set n d))))))
 | _,_,_=>none
noncomputable def qCh (g':D→D→Option D) (z:Option D) (y:Option D) (fc:FE) (δ:DS):Option D:=match z with
 | some (.bool true)=>qO g' y (fc δ)
 | some (.bool false)=>some (.bool false)
 | _=>none
noncomputable def qFn (o:Option Oc):Option D:=match o with
 | some (.rt d)=>some d
 | some (.nx _)=>some .none
 | _=>none
noncomputable def qCo (a:Option (List D)) (g:FG) (c:FT) (e:FE) (t:Nat) (ix:List Nat) (δ:DS):Option D:=match a with
 | some l=>if l.length ≤ 100000 then (match jW g c e (jg t ix δ) l with | some r=>some (.list r) | none=>none) else none
 | none=>none
section
variable {a b:FS} {c c':FT} {fa fb fc:FE} {fr:FA} {δ:DS} {g:D→D→Option D} {h:D→Option D} {F:List D→Option D} {i:Nat} {G:FG} {d:D}
theorem Ra:aY a b δ=qS (a δ) b:=by
 unfold aY qS
 cases a δ with
 | none=>rfl
 | some o=>cases o <;> rfl
theorem G_ {δ':DS}:qS (some (.nx δ')) b=b δ':=rfl
theorem Hf:qS (some (.rt d)) b=some (.rt d):=rfl
theorem Hg {δ':DS}:qS (some (.bk δ')) b=some (.bk δ'):=rfl
theorem Hh {δ':DS}:qS (some (.ct δ')) b=some (.ct δ'):=rfl
theorem Rc:dF δ=some (.nx δ):=rfl
theorem Tw:sBk δ=some (.bk δ):=rfl
theorem Tz:sCt δ=some (.ct δ):=rfl
theorem TF:sIf c a b δ=qI (c δ) a b δ:=by
 unfold sIf qI
 cases c δ with
 | none=>rfl
 | some t=>cases t <;> rfl
theorem Oj:qI (some true) a b δ=a δ:=rfl
theorem Ol:qI (some false) a b δ=b δ:=rfl
theorem v_op:dOp g fa fb δ=qO g (fa δ) (fb δ):=by
 unfold dOp qO
 cases fa δ <;> cases fb δ <;> rfl
theorem Om {x y:D}:qO g (some x) (some y)=g x y:=rfl
theorem TJ:dUn h fa δ=qU h (fa δ):=by
 unfold dUn qU
 cases fa δ <;> rfl
theorem Oo {x:D}:qU h (some x)=h x:=rfl
theorem Oq:aM δ=some []:=rfl
theorem J5:aF fa fr δ=qC (fa δ) (fr δ):=by
 unfold aF qC
 cases fa δ <;> cases fr δ <;> rfl
theorem Ei {x:D} {l:List D}:qC (some x) (some l)=some (x :: l):=rfl
theorem Ot:dCall F fr δ=qF F (fr δ):=by
 unfold dCall qF
 cases fr δ <;> rfl
theorem Hi {l:List D}:qF F (some l)=F l:=rfl
theorem Rf:b_ fa δ=qR (fa δ):=by
 unfold b_ qR
 cases fa δ <;> rfl
theorem J6:qR (some d)=some (.rt d):=rfl
theorem Ou:QS δ=some (.rt .none):=rfl
theorem Rh:bh i fa δ=Oh i (fa δ) δ:=by
 unfold bh Nf Oh
 cases fa δ with
 | none=>simp
 | some d=>rfl
theorem J7:Oh i (some d) δ=if i < δ.length then some (.nx (δ.set i (some (.d d)))) else none:=rfl
theorem v_c:dC d δ=some d:=rfl
theorem v_and:lu fa fb δ=Eh (fa δ) fb δ:=by
 unfold lu Eh
 cases fa δ with
 | none=>rfl
 | some x =>
  cases x <;> try rfl
  next b=>cases b <;> rfl
theorem J8:Eh (some (.bool true)) fb δ=fb δ:=rfl
theorem J9:Eh (some (.bool false)) fb δ=some (.bool false):=rfl
theorem v_or:dOr fa fb δ=qOr (fa δ) fb δ:=by
 unfold dOr qOr
 cases fa δ with
 | none=>rfl
 | some x =>
  cases x <;> try rfl
  next b=>cases b <;> rfl
theorem Ov:qOr (some (.bool true)) fb δ=some (.bool true):=rfl
theorem Ox:qOr (some (.bool false)) fb δ=fb δ:=rfl
theorem v_not:Gr fa δ=qN (fa δ):=by
 unfold Gr qN
 cases fa δ with
 | none=>rfl
 | some x=>cases x <;> rfl
theorem J_ {b:Bool}:qN (some (.bool b))=some (.bool (!b)):=rfl
theorem TQ:aP fa δ=qB (fa δ):=by
 unfold aP qB
 cases fa δ with
 | none=>rfl
 | some x=>cases x <;> rfl
theorem Oz {b:Bool}:qB (some (.bool b))=some b:=rfl
theorem OD:D3.jf c c' δ=qTA (c δ) c' δ:=by
 unfold D3.jf qTA
 cases c δ with
 | none=>rfl
 | some t=>cases t <;> rfl
theorem Hj:qTA (some true) c δ=c δ:=rfl
theorem Hl:qTA (some false) c δ=some false:=rfl
theorem Ri:D3.tOr c c' δ=qTO (c δ) c' δ:=by
 unfold D3.tOr qTO
 cases c δ with
 | none=>rfl
 | some t=>cases t <;> rfl
theorem Ka:qTO (some true) c δ=some true:=rfl
theorem Kc:qTO (some false) c δ=c δ:=rfl
theorem OJ:D3.iI c δ=qTN (c δ):=by
 unfold D3.iI qTN
 cases c δ <;> rfl
theorem Ho {b:Bool}:qTN (some b)=some (!b):=rfl
theorem v_ite:dIf c fa fb δ=qE (c δ) fa fb δ:=by
 unfold dIf qE
 cases c δ with
 | none=>rfl
 | some t=>cases t <;> rfl
theorem Ke:qE (some true) fa fb δ=fa δ:=rfl
theorem Kf:qE (some false) fa fb δ=fb δ:=rfl
theorem Rj:mz fa δ=qL (fa δ):=by
 unfold mz qL asList
 cases fa δ with
 | none=>rfl
 | some x=>cases x <;> rfl
theorem Kg {l:List D}:qL (some (.list l))=some l:=rfl
theorem Rk:ou fr G b δ=Oi (fr δ) G b δ:=by
 unfold ou Oi
 cases fr δ <;> rfl
theorem Kh {l:List D}:Oi (some l) G b δ=jY G b l δ:=rfl
theorem Ej:jY G b [] δ=some (.nx δ):=rfl
theorem Rm:Ao fa G δ=qD (qG (fa δ) G δ):=by
 unfold Ao qG qD
 cases fa δ with
 | none=>rfl
 | some d =>
  dsimp only [aH]
  cases G d δ <;> rfl
theorem Kl:qG (some d) G δ=G d δ:=rfl
theorem Km {δ':DS}:qD (some δ')=some (.nx δ'):=rfl
theorem TX:gNl i d δ=if i < δ.length then some (δ.set i (some (.d d))) else none:=rfl
theorem TY {n:Nat} {gs:List D→DS→Option DS} {l:List D}:gTn n gs (.tuple l) δ=if l.length=n then gs l δ else none:=rfl
theorem Rn:gA [] δ=some δ:=rfl
theorem Ro {gs:List D→DS→Option DS} {l:List D}:bT G gs (d :: l) δ=qGs (G d δ) gs l:=by
 show (G d δ).bind (fun δ'=>gs l δ')=qGs (G d δ) gs l
 cases G d δ <;> rfl
theorem Ko {gs:List D→DS→Option DS} {l:List D} {δ':DS}:qGs (some δ') gs l=gs l δ':=rfl
theorem Rp:dTup fr δ=qT (fr δ):=by
 unfold dTup qT
 cases fr δ <;> rfl
theorem Kp {l:List D}:qT (some l)=if l.length ≤ sizeLine then some (.tuple l) else none:=rfl
theorem T3:dR fr δ=qK (fr δ):=by
 unfold dR qK
 cases fr δ <;> rfl
theorem O1 {l:List D}:qK (some l)=if l.length ≤ sizeLine then some (.list l) else none:=rfl
theorem O2:dW fa δ=qFl flat (fa δ):=by
 unfold dW qFl
 cases fa δ <;> rfl
theorem Rq:lJ fa δ=qFl fl1 (fa δ):=by
 unfold lJ qFl
 cases fa δ <;> rfl
theorem O3 {p:D→Bool}:qFl p (some d)=if p d=true then some d else none:=rfl
theorem Rr:o7 i fa δ=qA i (ao i δ) (fa δ) δ:=by
 unfold o7 qA
 cases ao i δ with
 | none=>rfl
 | some x =>
  cases fa δ with
  | none=>cases x <;> rfl
  | some d=>cases x <;> rfl
theorem Kq {l:List D}:qA i (some (.list l)) (some d) δ=if l.length < 1000000 then some (.nx (δ.set i (some (.d (.list (l++[d])))))) else none:=rfl
theorem Rt {fk:FE}:oU i fk fa δ=qP i (fa δ) (ao i δ) (fk δ) δ:=by
 unfold oU qP
 cases fa δ with
 | none=>rfl
 | some d =>
  cases ao i δ with
  | none=>rfl
  | some x =>
   cases fk δ with
   | none=>cases x <;> rfl
   | some k=>cases x <;> cases k <;> rfl
theorem Kr {l:List D} {j:Int}:qP i (some d) (some (.list l)) (some (.int j)) δ=(pIx l.length j).bind fun n=>some (.nx (δ.set i (some (.d (.list (l.set n d)))))):=rfl
theorem Ks {g':D→D→Option D}:iG g g' fa fb fc δ=qCh g' (qO g (fa δ) (fb δ)) (fb δ) fc δ:=by
 unfold iG qCh qO
 cases fa δ with
 | none=>rfl
 | some x =>
  cases fb δ with
  | none=>rfl
  | some y =>
   dsimp only [aH]
   cases g x y with
   | none=>rfl
   | some z =>
    cases z <;> try rfl
    next b =>
    cases b with
    | false=>rfl
    | true=>dsimp only [aH];cases fc δ <;> rfl
theorem Ek {g':D→D→Option D} {y:Option D}:qCh g' (some (.bool true)) y fc δ=qO g' y (fc δ):=rfl
theorem El {g':D→D→Option D} {y:Option D}:qCh g' (some (.bool false)) y fc δ=some (.bool false):=rfl
theorem Ru {p q:Nat} {ds:List D}:fnD p q b ds=if ds.length=p then qFn (b (ds.map (fun d=>some (.d d))++aK q none)) else none:=by
 unfold fnD qFn
 rfl
theorem Ku:qFn (some (.rt d))=some d:=rfl
theorem Kv {δ':DS}:qFn (some (.nx δ'))=some .none:=rfl
theorem O4 {t:Nat} {ix:List Nat}:gb fr G c fa t ix δ=qCo (fr δ) G c fa t ix δ:=by
 unfold gb qCo
 cases fr δ with
 | none=>rfl
 | some l =>
  dsimp only [aH]
  by_cases z:l.length ≤ 100000
  ·rw [if_pos z,if_pos z]
   cases jW G c fa (jg t ix δ) l <;> rfl
  ·rw [if_neg z,if_neg z]
theorem Hq {t:Nat} {ix:List Nat} {l:List D}:qCo (some l) G c fa t ix δ=if l.length ≤ 100000 then (match jW G c fa (jg t ix δ) l with | some r=>some (.list r) | none=>none) else none:=rfl
theorem Rv:D3.gq δ=some true:=rfl
theorem O5 {r:DS} {x:D}:ao 0 (some (.d x) :: r)=some x:=rfl
theorem O6 {r:DS} {y:Option U}:ao (i + 1) (y :: r)=ao i r:=rfl
end
section
variable {i j:Int} {l m:List D} {d:D}
theorem Rw:fu (.int i) (.int j)=some (.int (i + j)):=rfl
theorem Rx:m8 (.int i) (.int j)=some (.int (i - j)):=rfl
theorem T4:gLt (.int i) (.int j)=some (.bool (decide (i < j))):=rfl
theorem T5:gLe (.int i) (.int j)=some (.bool (decide (i ≤ j))):=rfl
theorem T6:gGt (.int i) (.int j)=some (.bool (decide (j < i))):=rfl
theorem T7:gGe (.int i) (.int j)=some (.bool (decide (j ≤ i))):=rfl
theorem Ry:gEq (.int i) (.int j)=some (.bool (decide (i=j))):=rfl
theorem Rz:gNe (.int i) (.int j)=some (.bool (!decide (i=j))):=rfl
theorem RB:iW [.list l]=some (.int l.length):=rfl
theorem O7:iW [.tuple l]=some (.int l.length):=rfl
theorem wj:∀ ns:List Int,pQ (ns.map .int)=some ns
 | []=>rfl
 | n :: r=>by rw [bx,pQ,wj r];rfl
theorem wu {ns:List Int}:xr [.list (ns.map .int)]=some (.int ns.sum):=by
 show (pQ (ns.map .int)).map _=_
 rw [wj]
 rfl
theorem RD:Tg [.int i]=some (.int (if i < 0 then -i else i)):=rfl
theorem RG:yV [.int i,.int j]=some (.int (if j > i then j else i)):=rfl
theorem RJ:uF [.int i,.int j]=some (.int (if j < i then j else i)):=rfl
theorem RK:Jt (.int i)=some (.int (-i)):=rfl
theorem T8:gIx (.list l) (.int i)=pAt l i:=rfl
theorem RM:gIx (.tuple l) (.int i)=pAt l i:=rfl
theorem Lx:qJ (.list l) (.list m)=if l.length + m.length ≤ 1000000 then some (.list (l++m)) else none:=rfl
theorem O8:gY (.list l)=some (.list l):=rfl
theorem Kw:gY (.tuple l)=some (.list l):=rfl
theorem RN:pAt (d :: l) 0=some d:=by
 unfold pAt pIx
 rw [if_pos (by decide),if_pos (by simp)]
 rfl
end
noncomputable def O9 (i j:Nat) (a:Option (List D)) (δ:DS):Option Oc:=match a with
 | some l=>match l with
  | [x,y]=>if i < δ.length∧j < δ.length then some (.nx ((δ.set i (some (.d x))).set j (some (.d y)))) else none
  | _=>none
 | none=>none
noncomputable def nP (a:Option (List D)):Option (List D):=match a with
 | some l=>match l with
  | [.int j]=>if uE j=true then some (fU 0 j) else none
  | _=>none
 | none=>none
noncomputable def Ly (a:Option (List D)):Option (List D):=match a with
 | some l=>match l with
  | [.int i,.int j]=>if (uE i && uE j)=true then some (fU i j) else none
  | _=>none
 | none=>none
noncomputable def qSl (x:Option D) (a b:Option (Option Int)):Option D:=match x,a,b with
 | some (.list l),some a,some b=>some (.list (cutD l a b))
 | _,_,_=>none
noncomputable def qOP (x:Option D):Option (Option Int):=match x with
 | some (.int i)=>some (some i)
 | _=>none
noncomputable def qEn (x:Option D):Option (List D):=match x with
 | some (.list l)=>some (mC l)
 | _=>none
section
variable {a b:FS} {fa:FE} {fr:FA} {δ:DS} {i j:Nat} {g:FG}
theorem RP:QT i j fr δ=O9 i j (fr δ) δ:=by
 unfold QT O9
 cases fr δ with
 | none=>rfl
 | some l=>rfl
theorem Ky {x y:D}:O9 i j (some [x,y]) δ=if i < δ.length∧j < δ.length then some (.nx ((δ.set i (some (.d x))).set j (some (.d y)))) else none:=rfl
theorem O_:lG fr δ=nP (fr δ):=by
 unfold lG nP
 cases fr δ with
 | none=>rfl
 | some l=>rfl
theorem tL {k:Int} (h : -(2 ^ 62) ≤ k) (h2:k < 2 ^ 62):nP (some [.int k])=some (fU 0 k):=by
 show (if uE k=true then some (fU 0 k) else none)=_
 rw [if_pos]
 unfold uE
 rw [dTr h,dTr h2]
 rfl
theorem Pa:Lk fr δ=Ly (fr δ):=by
 unfold Lk Ly
 cases fr δ with
 | none=>rfl
 | some l=>rfl
theorem T9 {lo hi:FO}:dSl fa lo hi δ=qSl (fa δ) (lo δ) (hi δ):=by
 unfold dSl qSl
 cases fa δ with
 | none=>rfl
 | some x =>
  dsimp only [aH]
  cases lo δ with
  | none=>cases x <;> rfl
  | some p =>
   dsimp only [aH]
   cases hi δ with
   | none=>cases x <;> rfl
   | some r=>cases x <;> rfl
theorem Pb {l:List D} {p r:Option Int}:qSl (some (.list l)) (some p) (some r)=some (.list (cutD l p r)):=rfl
theorem T_:Cj δ=some none:=rfl
theorem Ua:yW fa δ=qOP (fa δ):=by
 unfold yW qOP
 cases fa δ with
 | none=>rfl
 | some x=>cases x <;> rfl
theorem Pg {k:Int}:qOP (some (.int k))=some (some k):=rfl
theorem Ph:sU fa δ=qEn (fa δ):=by
 unfold sU qEn
 cases fa δ with
 | none=>rfl
 | some x=>cases x <;> rfl
theorem Hr {l:List D}:qEn (some (.list l))=some (mC l):=rfl
theorem oG (Inv:Nat→DS→Prop):∀ (l:List D) (δ:DS),Inv 0 δ→(∀ i d δ,l[i]? = some d→Inv i δ→∃ δ1 δ',g d δ=some δ1∧(b δ1=some (.nx δ')∨b δ1=some (.ct δ'))∧Inv (i + 1) δ')→∃ δ',jY g b l δ=some (.nx δ')∧Inv l.length δ':=by
 have key:∀ (l:List D) (k:Nat) (δ:DS),Inv k δ→(∀ i d δ,l[i]? = some d→Inv (k + i) δ→∃ δ1 δ',g d δ=some δ1∧(b δ1=some (.nx δ')∨b δ1=some (.ct δ'))∧Inv (k + i + 1) δ')→∃ δ',jY g b l δ=some (.nx δ')∧Inv (k + l.length) δ':=by
  intro l
  induction l with
  | nil=>exact fun k δ h _=>⟨δ,rfl,h⟩
  | cons d r ih =>
   intro k δ h hs
   obtain ⟨δ1,δ',e1,e2,e3⟩:=hs 0 d δ rfl h
   obtain ⟨δ2,e4,e5⟩:=ih (k + 1) δ' e3 fun i d' δ'' hd hi=>by
    have:=hs (i + 1) d' δ'' (by simpa using hd) (by rw [show k + (i + 1)=k + 1 + i by omega];exact hi)
    rw [show k + (i + 1) + 1=k + 1 + i + 1 by omega] at this
    exact this
   refine ⟨δ2,?_,by rw [dY,show k + (r.length + 1)=k + 1 + r.length by omega];exact e5⟩
   rw [jY,e1,aH]
   rcases e2 with e2 | e2
   ·rw [e2];exact e4
   ·rw [e2];exact e4
 intro l δ h hs
 have:=key l 0 δ h fun i d δ hd hi=>by
  have:=hs i d δ hd (by rw [gQ] at hi;exact hi)
  rw [gQ]
  exact this
 rw [gQ] at this
 exact this
end
noncomputable def qX (a:Option D) (δ:DS):Option Oc:=match a with
 | some _=>some (.nx δ)
 | none=>none
theorem Pj {fa:FE} {δ:DS}:sS fa δ=qX (fa δ) δ:=by
 unfold sS qX
 cases fa δ <;> rfl
theorem Ht {d:D} {δ:DS}:qX (some d) δ=some (.nx δ):=rfl
theorem Hu {g g' g'':D→D→Option D} {fa fb fc fd:FE} {δ:DS}:tV g g' g'' fa fb fc fd δ=Eh (qO g (fa δ) (fb δ)) (iG g' g'' fb fc fd) δ:=by
 unfold tV Eh iG qO
 cases fa δ with
 | none=>rfl
 | some x =>
  cases fb δ with
  | none=>rfl
  | some y =>
   dsimp only [aH]
   cases g x y with
   | none=>rfl
   | some z =>
    cases z <;> try rfl
    next b=>cases b <;> rfl
noncomputable def qZ (a b:Option D):Option (List D):=match a,b with
 | some (.list l),some (.list m)=>some (o8 l m)
 | _,_=>none
theorem RQ {f g:FE} {δ:DS}:Ju f g δ=qZ (f δ) (g δ):=by
 unfold Ju qZ
 cases f δ with
 | none=>rfl
 | some x =>
  cases g δ with
  | none=>cases x <;> rfl
  | some y=>cases x <;> cases y <;> rfl
theorem Kz {l m:List D}:qZ (some (.list l)) (some (.list m))=some (o8 l m):=rfl
theorem Ub {fa:FE} {δ:DS}:dN1 fa δ=qFl (fun d=>decide (nl d ≤ 1)) (fa δ):=by
 unfold dN1 qFl
 cases fa δ <;> rfl
theorem RV:flat .none=true:=rfl
theorem Uc {b:Bool}:flat (.bool b)=true:=rfl
theorem f_int {i:Int}:flat (.int i)=true:=rfl
theorem RW {x:Str}:flat (.str x)=true:=rfl
theorem RX {l:List D}:flat (.list l)=false:=rfl
theorem f_tup {l:List D}:flat (.tuple l)=flats l:=rfl
theorem RZ:flats []=true:=rfl
theorem Pk {d:D} {l:List D}:flats (d :: l)=(flat d && flats l):=rfl
theorem Pn:fl1 .none=true:=rfl
theorem R5 {b:Bool}:fl1 (.bool b)=true:=rfl
theorem Pq {i:Int}:fl1 (.int i)=true:=rfl
theorem Pu {x:Str}:fl1 (.str x)=true:=rfl
theorem Hv {l:List D}:fl1 (.list l)=flats l:=rfl
theorem Px {l:List D}:fl1 (.tuple l)=flats l:=rfl
theorem Ud {c:String} {d:D}:gIs c d=some (.bool (isT c (tyD d))):=rfl
theorem R6 {d:D}:xq d=some (.bool (isNone d)):=rfl
theorem Py {d:D}:pP d=some (.bool (!isNone d)):=rfl
theorem R7:isNone .none=true:=rfl
theorem Ue {b:Bool}:isNone (.bool b)=false:=rfl
theorem R8 {i:Int}:isNone (.int i)=false:=rfl
theorem R9 {x:Str}:isNone (.str x)=false:=rfl
theorem R_ {l:List D}:isNone (.list l)=false:=rfl
theorem Sd {l:List D}:isNone (.tuple l)=false:=rfl
theorem Sg {l:List (D × D)}:isNone (.dict l)=false:=rfl
noncomputable def EVL:=And.intro @RV <| And.intro @Uc <| And.intro @f_int <| And.intro @RW <| And.intro @RX <| And.intro @f_tup <| And.intro @RZ <| And.intro @Pk <| And.intro @Pn <| And.intro @R5 <| And.intro @Pq <| And.intro @Pu <| And.intro @Hv <| And.intro @Px <| And.intro @Ud <| And.intro @R6 <| And.intro @Py <| And.intro @R7 <| And.intro @Ue <| And.intro @R8 <| And.intro @R9 <| And.intro @R_ <| And.intro @Sd <| And.intro @Sg <| And.intro @dY.{0} <| And.intro @jO.{0} <| And.intro @bx.{0,0} <| And.intro @qm.{0,0} <| And.intro @cA.{0} <| And.intro @List.replicate_zero.{0} <| And.intro @List.cons_append.{0} <| And.intro @oK.{0} <| And.intro @i_.{0} <| And.intro @pW.{0} <| And.intro @lX.{0} <| And.intro @gQ <| And.intro @if_true.{1} <| And.intro @decide_true <| And.intro @decide_false <| And.intro @Int.cast_ofNat_Int <| And.intro @iu <| And.intro @jA <| @Bool.and_self
noncomputable def EV:=And.intro EVL <| And.intro @Ub <| And.intro @RQ <| And.intro @Kz <| And.intro @Pj <| And.intro @Ht <| And.intro @Hu <| And.intro @Ra (And.intro @G_ (And.intro @Hf (And.intro @Hg (And.intro @Hh (And.intro @Rc (And.intro @Tw (And.intro @Tz (And.intro @TF (And.intro @Oj (And.intro @Ol (And.intro @v_op (And.intro @Om (And.intro @TJ (And.intro @Oo (And.intro @Oq (And.intro @J5 (And.intro @Ei (And.intro @Ot (And.intro @Hi (And.intro @Rf (And.intro @J6 (And.intro @Ou (And.intro @Rh (And.intro @J7 (And.intro @v_c (And.intro @v_and (And.intro @J8 (And.intro @J9 (And.intro @v_or (And.intro @Ov (And.intro @Ox (And.intro @v_not (And.intro @J_ (And.intro @TQ (And.intro @Oz (And.intro @OD (And.intro @Hj (And.intro @Hl (And.intro @Ri (And.intro @Ka (And.intro @Kc (And.intro @OJ (And.intro @Ho (And.intro @v_ite (And.intro @Ke (And.intro @Kf (And.intro @Rj (And.intro @Kg (And.intro @Rk (And.intro @Kh (And.intro @Ej (And.intro @Rm (And.intro @Kl (And.intro @Km (And.intro @TX (And.intro @TY (And.intro @Rn (And.intro @Ro (And.intro @Ko (And.intro @Rp (And.intro @Kp (And.intro @T3 (And.intro @O1 (And.intro @O2 (And.intro @Rq (And.intro @O3 (And.intro @Rr (And.intro @Kq (And.intro @Rt (And.intro @Kr (And.intro @Ks (And.intro @Ek (And.intro @El (And.intro @Ru (And.intro @Ku (And.intro @Kv (And.intro @O4 (And.intro @Hq (And.intro @Rv (And.intro @O5 (And.intro @O6 (And.intro @Rw (And.intro @Rx (And.intro @T4 (And.intro @T5 (And.intro @T6 (And.intro @T7 (And.intro @Ry (And.intro @Rz (And.intro @RB (And.intro @O7 (And.intro @RD (And.intro @RG (And.intro @RJ (And.intro @RK (And.intro @T8 (And.intro @RM (And.intro @Lx (And.intro @O8 (And.intro @Kw (And.intro @RN (And.intro @RP (And.intro @Ky (And.intro @O_ (And.intro @Pa (And.intro @T9 (And.intro @Pb (And.intro @T_ (And.intro @Ua (And.intro @Pg (And.intro @Ph @Hr)))))))))))))))))))))))))))))))))))))))))))))))))))))))))))))))))))))))))))))))))))))))))))))))))))))))))))))))
end D3
namespace My
noncomputable def mW (ns:List Int) (i:Int):Int :=
 if i < (ns.length:Int) then ns.getD i.toNat 0 % 1000000007
 else if ns=[] then 7919 * i + 5000011
 else ns.getD (i * 7 % (ns.length:Int)).toNat 0 % 1000000007 + 7919 * i
noncomputable def divs (n:Int):Nat→Int
 | 0=>n
 | k + 1=>divs n k / 1000003
noncomputable def C_ (c i k m:Int):Int :=
 (((c + 65537 * i + 3) * (1299709 + 15485863 * k) % 2147483629 * ((c + 65537 * i + 3) * (1299709 + 15485863 * k) % 2147483629) % 1500450271 + 104729) *
  ((c + 65537 * i + 3) * (1299709 + 15485863 * k) % 2147483629 * ((c + 65537 * i + 3) * (1299709 + 15485863 * k) % 2147483629) % 1500450271 + 104729)) % 715827883 / 64 % m
noncomputable def rE (ns:List Int) (i k m:Int):Int :=
 if i < (ns.length:Int)∧10 ^ 40 ≤ ns.getD i.toNat 0∧0 < divs (ns.getD i.toNat 0) k.toNat then divs (ns.getD i.toNat 0) k.toNat % 1000003 % m
 else C_ (mW ns i) i k m
theorem zG (ns:List Int) (i k:Int) {m:Int} (h:0 < m):0 ≤ rE ns i k m∧rE ns i k m < m:=by
 unfold rE C_
 split
 ·exact ⟨je _ (by omega),gk _ h⟩
 ·exact ⟨je _ (by omega),gk _ h⟩
theorem Em {ns:List Int} {i k m:Int} (h1:i < (ns.length:Int)) (h2:10 ^ 40 ≤ ns.getD i.toNat 0) (h3:0 < divs (ns.getD i.toNat 0) k.toNat) :
 rE ns i k m=divs (ns.getD i.toNat 0) k.toNat % 1000003 % m:=by
 unfold rE
 rw [if_pos ⟨h1,h2,h3⟩]
theorem qb {ns:List Int} {i k m:Int} (h:¬ (i < (ns.length:Int)∧10 ^ 40 ≤ ns.getD i.toNat 0∧0 < divs (ns.getD i.toNat 0) k.toNat)) :
 rE ns i k m=C_ (mW ns i) i k m:=by
 unfold rE
 rw [if_neg h]
end My
namespace Com
open PySem D3
noncomputable def iw:List D→Option D:=fnD 1 0 (b_ (lu (dUn (gIs "int") (ao 0)) (Gr (dUn (gIs "bool") (ao 0)))))
noncomputable def iQ:List D→Option D:=fnD 2 0 (aY (sIf (aP (dOp gLt (ao 1) (dCall iW (aF (ao 0) (aM))))) (b_ (dOp eN (dOp gIx (ao 0) (ao 1)) (dC (.int 1000000007)))) (dF))
 (aY (sIf (aP (dOp gEq (ao 0) (dR (aM)))) (b_ (dOp fu (dOp kZ (dC (.int 7919)) (ao 1)) (dC (.int 5000011)))) (dF))
 (b_ (dOp fu (dOp eN (dOp gIx (ao 0) (dOp eN (dOp kZ (ao 1) (dC (.int 7))) (dCall iW (aF (ao 0) (aM))))) (dC (.int 1000000007))) (dOp kZ (dC (.int 7919)) (ao 1))))))
noncomputable def iR:List D→Option D:=fnD 4 2 (aY (sIf (D3.jf (aP (dOp gLt (ao 1) (dCall iW (aF (ao 0) (aM))))) (aP (dOp gGe (dOp gIx (ao 0) (ao 1)) (dOp oZ (dC (.int 10)) (dC (.int 40)))))) (aY (bh 4 (dOp gIx (ao 0) (ao 1)))
 (aY (ou (lG (aF (ao 2) (aM))) (gNl 5) (bh 4 (dOp yU (ao 4) (dC (.int 1000003)))))
 (sIf (aP (dOp gGt (ao 4) (dC (.int 0)))) (b_ (dOp eN (dOp eN (ao 4) (dC (.int 1000003))) (ao 3))) (dF)))) (dF))
 (aY (bh 4 (dOp eN (dOp kZ (dOp fu (dOp fu (dCall iQ (aF (ao 0) (aF (ao 1) (aM)))) (dOp kZ (dC (.int 65537)) (ao 1))) (dC (.int 3))) (dOp fu (dC (.int 1299709)) (dOp kZ (dC (.int 15485863)) (ao 2)))) (dC (.int 2147483629))))
 (aY (bh 4 (dOp fu (dOp eN (dOp kZ (ao 4) (ao 4)) (dC (.int 1500450271))) (dC (.int 104729))))
 (b_ (dOp eN (dOp yU (dOp eN (dOp kZ (ao 4) (ao 4)) (dC (.int 715827883))) (dC (.int 64))) (ao 3))))))
noncomputable def cM:List D→Option D:=fnD 1 0 (b_ (lu (dUn (gIs "int") (ao 0)) (Gr (dUn (gIs "bool") (ao 0)))))
noncomputable def mX:List D→Option D:=fnD 2 0 (b_ (iG gLe gLt (dOp gIx (ao 0) (dC (.int 0))) (ao 1) (dOp gIx (ao 0) (dC (.int 1)))))
noncomputable def jT:List D→Option D:=fnD 2 0 (b_ (dCall iW (aF (gb (mz (ao 0)) (gNl 0) (aP (dCall mX (aF (ao 0) (aF (ao 1) (aM))))) (dW (ao 0)) 1 [1]) (aM))))
noncomputable def dI:List D→Option D:=fnD 3 0 (b_ (gb (lG (aF (ao 2) (aM))) (gNl 0) (gq) (dCall iR (aF (ao 1) (aF (ao 2) (aF (ao 0) (aF (dOp oZ (dC (.int 10)) (dC (.int 6))) (aM)))))) 1 [0,1]))
noncomputable def iT:List D→Option D:=fnD 1 0 (b_ (dTup (aF (dW (dOp gIx (ao 0) (dC (.int 0)))) (aF (dW (dOp gIx (ao 0) (dC (.int 1)))) (aM)))))
noncomputable def fL:List D→Option D:=fnD 1 0 (b_ (dCall vD (aF (gb (Ju (ao 0) (dSl (ao 0) (yW (dC (.int 1))) Cj)) (gTn 2 (bT (gNl 0) (bT (gNl 1) (gA)))) (gq) (dOp gLt (ao 0) (ao 1)) 2 []) (aM))))
noncomputable def gh:List D→Option D:=fnD 2 0 (b_ (lu (tV gLe gLt gLe (dC (.int 0)) (dOp gIx (ao 0) (dC (.int 0))) (dOp gIx (ao 0) (dC (.int 1))) (dCall iW (aF (ao 1) (aM)))) (iG gLe gLe (dC (.int 0)) (dOp gIx (ao 0) (dC (.int 2))) (dC (.int 1000000000)))))
noncomputable def cY:List D→Option D:=fnD 2 2 (ou (sU (ao 0)) (gTn 2 (bT (gNl 2) (bT (gNl 3) (gA)))) (sIf (D3.iI (aP (dCall gh (aF (ao 3) (aF (ao 1) (aM)))))) ((fun _=>none)) (dF)))
noncomputable def qd:List D→Option D:=fnD 3 0 (b_ (dCall xr (aF (gb (mz (ao 0)) (gTn 2 (bT (gNl 0) (bT (gNl 1) (gA)))) (aP (iG gLe gLt (ao 2) (ao 0) (ao 3))) (dW (ao 1)) 2 [1,2]) (aM))))
noncomputable def dJ:List D→Option D:=fnD 2 0 (b_ (dCall xr (aF (gb (mz (ao 1)) (gNl 0) (gq) (dW (dOp gIx (dOp gIx (ao 1) (ao 0)) (dC (.int 2)))) 1 [0]) (aM))))
noncomputable def jH:List D→Option D:=fnD 2 0 (b_ (dOp m8 (dOp gIx (ao 0) (dC (.int 2))) (dCall qd (aF (ao 1) (aF (dOp gIx (ao 0) (dC (.int 0))) (aF (dOp gIx (ao 0) (dC (.int 1))) (aM)))))))
noncomputable def fB:List D→Option D:=fnD 3 1 (aY (sS (dCall cY (aF (ao 0) (aF (ao 1) (aM)))))
 (aY (bh 3 (dCall xr (aF (gb (mz (ao 2)) (gTn 2 (bT (gNl 0) (bT (gNl 1) (gA)))) (gq) (dOp kZ (dOp gIx (ao 2) (ao 0)) (ao 1)) 2 [1]) (aM))))
 (b_ (dOp fu (ao 3) (dCall xr (aF (gb (mz (ao 0)) (gNl 0) (gq) (dCall yV (aF (dC (.int 0)) (aF (dCall jH (aF (ao 0) (aF (ao 1) (aM)))) (aM)))) 1 [2]) (aM)))))))
noncomputable def eZ:List D→Option D:=fnD 2 4 (aY (bh 2 (dCall dI (aF (ao 0) (aF (dC (.int 1)) (aF (dC (.int 5)) (aM))))))
 (aY (bh 3 (dCall dI (aF (ao 0) (aF (dC (.int 60)) (aF (ao 1) (aM))))))
 (aY (bh 4 (dOp eN (dOp gIx (ao 2) (dC (.int 0))) (dC (.int 4))))
 (aY (sIf (aP (dOp gEq (ao 4) (dC (.int 0)))) (b_ (lJ (dOp rN (dR (aF (dOp fu (dC (.int 1)) (dOp eN (dOp gIx (ao 2) (dC (.int 1))) (dC (.int 3)))) (aM))) (ao 1)))) (dF))
 (aY (sIf (aP (dOp gEq (ao 4) (dC (.int 1)))) (b_ (gb (lG (aF (ao 1) (aM))) (gNl 0) (gq) (dOp eN (dOp gIx (ao 1) (ao 0)) (dC (.int 3))) 1 [3])) (dF))
 (aY (sIf (aP (dOp gEq (ao 4) (dC (.int 2)))) (b_ (gb (lG (aF (ao 1) (aM))) (gNl 0) (gq) (dW (dOp gIx (dR (aF (dC (.int 0)) (aF (dC (.int 1)) (aF (dC (.int 2)) (aF (dC (.int 5)) (aF (dC (.int 11)) (aF (dC (.int 12)) (aM)))))))) (dOp eN (dOp gIx (ao 1) (ao 0)) (dC (.int 6))))) 1 [3])) (dF))
 (aY (bh 5 (dOp eN (dOp gIx (ao 2) (dC (.int 2))) (dOp fu (ao 1) (dC (.int 1)))))
 (b_ (lJ (dOp qJ (dOp rN (dR (aF (dOp eN (dOp gIx (ao 2) (dC (.int 3))) (dC (.int 4))) (aM))) (ao 5)) (dOp rN (dR (aF (dOp eN (dOp gIx (ao 2) (dC (.int 4))) (dC (.int 4))) (aM))) (dOp m8 (ao 1) (ao 5)))))))))))))
noncomputable def dM:List D→Option D:=fnD 3 6 (aY (bh 3 (dR (aM)))
 (aY (ou (lG (aF (ao 2) (aM))) (gNl 4) (aY (bh 5 (dCall dI (aF (ao 0) (aF (dOp fu (dC (.int 4)) (ao 4)) (aF (dC (.int 7)) (aM))))))
 (aY (bh 6 (dOp eN (dOp gIx (ao 5) (dC (.int 0))) (ao 1)))
 (aY (bh 7 (dCall uF (aF (ao 1) (aF (dOp fu (dOp fu (ao 6) (dC (.int 1))) (dOp eN (dOp gIx (ao 5) (dC (.int 1))) (dOp gIx (dR (aF (dC (.int 3)) (aF (ao 1) (aM)))) (dOp eN (dOp gIx (ao 5) (dC (.int 2))) (dC (.int 2)))))) (aM)))))
 (aY (bh 8 (dR (aF (dOp eN (dOp gIx (ao 5) (dC (.int 3))) (dC (.int 10))) (aF (dOp kZ (dC (.int 5)) (dOp m8 (ao 7) (ao 6))) (aF (dOp eN (dOp fu (dOp kZ (dOp gIx (ao 5) (dC (.int 3))) (dOp oZ (dC (.int 10)) (dC (.int 6)))) (dOp gIx (ao 5) (dC (.int 6)))) (dOp fu (dOp oZ (dC (.int 10)) (dC (.int 9))) (dC (.int 1)))) (aM))))))
 (aY (bh 8 (dOp qJ (ao 8) (dR (aF (dOp oZ (dC (.int 10)) (dC (.int 9))) (aF (dOp fu (dC (.int 1)) (dOp eN (dOp gIx (ao 5) (dC (.int 3))) (dC (.int 100)))) (aM))))))
 (sIf (D3.jf (aP (dOp gEq (dOp eN (dOp gIx (ao 5) (dC (.int 5))) (dC (.int 5))) (dC (.int 0)))) (aP (dOp gNe (ao 3) (dR (aM))))) (o7 3 (dOp gIx (ao 3) (dOp eN (dOp gIx (ao 5) (dC (.int 3))) (dCall iW (aF (ao 3) (aM)))))) (o7 3 (dTup (aF (ao 6) (aF (ao 7) (aF (dOp gIx (ao 8) (dOp eN (dOp gIx (ao 5) (dC (.int 4))) (dC (.int 5)))) (aM)))))))))))))
 (b_ (lJ (ao 3)))))
noncomputable def g_:List D→Option D:=fnD 3 0 (b_ (dCall xr (aF (gb (mz (ao 0)) (gTn 2 (bT (gNl 0) (bT (gNl 1) (gA)))) (D3.jf (aP (dOp gLe (ao 2) (ao 0))) (aP (dOp gLt (ao 0) (ao 3)))) (dW (ao 1)) 2 [1,2]) (aM))))
noncomputable def fD:List D→Option D:=fnD 3 0 (b_ (dCall jT (aF (gb (mz (ao 1)) (gNl 0) (gq) (dCall iT (aF (dOp gIx (ao 1) (ao 0)) (aM))) 1 [0]) (aF (ao 2) (aM)))))
noncomputable def pq:List D→Option D:=fnD 3 0 (b_ (dCall vD (aF (gb (sU (ao 1)) (gTn 2 (bT (gNl 0) (bT (gNl 1) (gA)))) (gq) (dOp gLe (dCall fD (aF (ao 2) (aF (ao 3) (aF (ao 0) (aM))))) (ao 1)) 2 [0,2]) (aM))))
noncomputable def cU:List D→Option D:=fnD 3 0 (b_ (dCall iW (aF (gb (mz (ao 1)) (gNl 0) (D3.jf (aP (dOp gLe (dOp gIx (dOp gIx (ao 2) (ao 0)) (dC (.int 0))) (ao 1))) (aP (dOp gLt (ao 1) (dOp gIx (dOp gIx (ao 2) (ao 0)) (dC (.int 1)))))) (dW (ao 0)) 1 [2,0]) (aM))))
noncomputable def eE:List D→Option D:=fnD 3 2 (aY (ou (lG (aF (dCall iW (aF (ao 2) (aM))) (aM))) (gNl 3) (sIf (D3.tOr (D3.iI (aP (iG gLe gLt (dC (.int 0)) (dOp gIx (ao 2) (ao 3)) (dCall iW (aF (ao 0) (aM)))))) (D3.jf (aP (dOp gGt (ao 3) (dC (.int 0)))) (aP (dOp gLe (dOp gIx (ao 2) (ao 3)) (dOp gIx (ao 2) (dOp m8 (ao 3) (dC (.int 1)))))))) (b_ (dC (.bool false))) (dF)))
 (aY (ou (lG (aF (dCall iW (aF (ao 1) (aM))) (aM))) (gNl 4) (sIf (aP (dOp gGt (dCall cU (aF (ao 0) (aF (ao 2) (aF (ao 4) (aM))))) (dOp gIx (ao 1) (ao 4)))) (b_ (dC (.bool false))) (dF)))
 (b_ (dC (.bool true)))))
noncomputable def jB:List D→Option D:=fnD 4 0 (b_ (dCall vD (aF (gb (mz (ao 3)) (gTn 2 (bT (gNl 0) (bT (gNl 1) (gA)))) (gq) (dOp gEq (dCall fD (aF (ao 2) (aF (ao 3) (aF (ao 0) (aM))))) (dOp gIx (ao 4) (ao 0))) 2 [0,2,1]) (aM))))
noncomputable def fM:List D→Option D:=fnD 3 0 (aY (sIf (aP (dOp gIn (ao 1) (ao 2))) (b_ (dTup (aF (dW (dOp gIx (ao 0) (dC (.int 1)))) (aF (dW (dOp gIx (ao 0) (dC (.int 0)))) (aF (dW (dOp gIx (ao 0) (dC (.int 2)))) (aF (dW (ao 1)) (aM))))))) (dF))
 (b_ (dTup (aF (dW (dOp gIx (ao 0) (dC (.int 0)))) (aF (dW (dOp gIx (ao 0) (dC (.int 1)))) (aF (dUn Jt (dOp gIx (ao 0) (dC (.int 2)))) (aF (dW (ao 1)) (aM))))))))
noncomputable def iY:List D→Option D:=fnD 3 3 (aY (bh 3 (gb (lG (aF (dCall iW (aF (ao 1) (aM))) (aM))) (gNl 0) (gq) (dW (dTup (aF (ao 0) (aF (dOp fu (ao 0) (dC (.int 1))) (aF (dC (.int 0)) (aF (dC (.none)) (aM))))))) 1 []))
 (aY (bh 4 (gb (sU (ao 1)) (gTn 2 (bT (gNl 0) (bT (gNl 1) (gA)))) (aP (dOp gLt (dCall fD (aF (ao 2) (aF (ao 3) (aF (ao 0) (aM))))) (ao 1))) (dW (ao 0)) 2 [0,2]))
 (aY (bh 5 (gb (Ni (ao 4)) (gNl 0) (gq) (dW (dTup (aF (dOp fu (ao 0) (dC (.int 1))) (aF (ao 0) (aF (dC (.int 0)) (aF (dC (.none)) (aM))))))) 1 []))
 (b_ (lJ (dOp qJ (dOp qJ (ao 3) (ao 5)) (gb (sU (ao 0)) (gTn 2 (bT (gNl 0) (bT (gNl 1) (gA)))) (gq) (dCall fM (aF (ao 1) (aF (ao 0) (aF (ao 2) (aM))))) 2 [2])))))))
noncomputable def iZ:List D→Option D:=fnD 2 6 (aY (bh 2 (dUn gY (ao 0)))
 (aY (bh 3 (dOp rN (dR (aF (dC (.none)) (aM))) (dCall iW (aF (ao 0) (aM)))))
 (aY (bh 4 (dC (.bool true)))
 (aY (p7 (aP (ao 4)) (aY (bh 4 (dC (.bool false)))
 (ou (mz (ao 1)) (gNl 5) (aY (bh 6 (dOp gIx (ao 2) (dOp gIx (ao 5) (dC (.int 0)))))
 (aY (bh 7 (dOp gIx (ao 2) (dOp gIx (ao 5) (dC (.int 1)))))
 (sIf (D3.jf (aP (dUn pP (ao 6))) (D3.tOr (aP (dUn xq (ao 7))) (aP (dOp gLt (dOp fu (ao 6) (dOp gIx (ao 5) (dC (.int 2)))) (ao 7))))) (aY (oU 2 (dOp gIx (ao 5) (dC (.int 1))) (dOp fu (ao 6) (dOp gIx (ao 5) (dC (.int 2)))))
 (aY (oU 3 (dOp gIx (ao 5) (dC (.int 1))) (ao 5))
 (bh 4 (dC (.bool true))))) (dF)))))))
 (b_ (dTup (aF (lJ (ao 2)) (aF (lJ (ao 3)) (aM)))))))))
noncomputable def dU:List D→Option D:=fnD 3 3 (aY (bh 3 (dR (aM)))
 (aY (bh 4 (ao 2))
 (aY (p7 (aP (dOp gNe (ao 4) (ao 1))) (aY (bh 5 (dOp gIx (ao 0) (ao 4)))
 (aY (sIf (aP (dUn pP (dOp gIx (ao 5) (dC (.int 3))))) (o7 3 (dOp gIx (ao 5) (dC (.int 3)))) (dF))
 (bh 4 (dOp gIx (ao 5) (dC (.int 0)))))))
 (b_ (lJ (ao 3))))))
noncomputable def h_:List D→Option D:=fnD 3 2 (aY (bh 3 (dOp gIx (dCall iZ (aF (dOp rN (dR (aF (dC (.int 0)) (aM))) (dOp fu (dCall iW (aF (ao 1) (aM))) (dC (.int 1)))) (aF (dCall iY (aF (ao 0) (aF (ao 1) (aF (ao 2) (aM))))) (aM)))) (dC (.int 0))))
 (aY (bh 4 (gb (lG (aF (dCall iW (aF (ao 1) (aM))) (aM))) (gNl 0) (gq) (dW (dTup (aF (ao 0) (aF (dOp m8 (dOp gIx (ao 1) (ao 0)) (dOp gIx (ao 1) (dOp fu (ao 0) (dC (.int 1))))) (aM))))) 1 [3]))
 (b_ (gb (mz (ao 4)) (gTn 2 (bT (gNl 0) (bT (gNl 1) (gA)))) (aP (dOp gGt (ao 1) (dC (.int 0)))) (dW (dTup (aF (ao 0) (aF (ao 1) (aM))))) 2 []))))
noncomputable def eX:List D→Option D:=fnD 4 5 (aY (sIf (D3.iI (aP (dCall eE (aF (ao 0) (aF (ao 1) (aF (ao 2) (aM))))))) (b_ (dC (.bool false))) (dF))
 (aY (ou (lG (aF (dCall iW (aF (ao 3) (aM))) (aM))) (gNl 4) (aY (Ao (dOp gIx (ao 3) (ao 4)) (gTn 2 (bT (gNl 5) (bT (gNl 6) (gA)))))
 (aY (sIf (D3.tOr (D3.iI (aP (iG gLe gLt (dC (.int 0)) (ao 5) (dCall iW (aF (ao 1) (aM)))))) (D3.tOr (aP (dOp gLt (ao 6) (dC (.int 1)))) (D3.jf (aP (dOp gGt (ao 4) (dC (.int 0)))) (aP (dOp gLe (ao 5) (dOp gIx (dOp gIx (ao 3) (dOp m8 (ao 4) (dC (.int 1)))) (dC (.int 0)))))))) (b_ (dC (.bool false))) (dF))
 (sIf (aP (dOp gNe (dCall cU (aF (ao 0) (aF (ao 2) (aF (ao 5) (aM))))) (dOp gIx (ao 1) (ao 5)))) (b_ (dC (.bool false))) (dF)))))
 (aY (ou (lG (aF (dCall iW (aF (ao 0) (aM))) (aM))) (gNl 7) (aY (bh 8 (dOp m8 (dOp gIx (dOp gIx (ao 0) (ao 7)) (dC (.int 2))) (dCall g_ (aF (ao 3) (aF (dOp gIx (dOp gIx (ao 0) (ao 7)) (dC (.int 0))) (aF (dOp gIx (dOp gIx (ao 0) (ao 7)) (dC (.int 1))) (aM)))))))
 (sIf (D3.tOr (D3.jf (aP (dOp gLt (ao 8) (dC (.int 0)))) (aP (dOp gIn (ao 7) (ao 2)))) (D3.jf (aP (dOp gGt (ao 8) (dC (.int 0)))) (aP (dOp oF (ao 7) (ao 2))))) (b_ (dC (.bool false))) (dF))))
 (b_ (dC (.bool true))))))
end Com
namespace Com
open PySem D3 My
theorem rF {ns:List Int} {i:Int} (h0:0 ≤ i) (h1:i < ns.length):pAt (ns.map PyData.int) i=some (.int (ns.getD i.toNat 0)):=by
 unfold pAt pIx
 rw [aU,if_pos h0,if_pos h1,aH,bf]
 have h:i.toNat < ns.length:=by omega
 rw [aO h]
 simp [List.getD,h]
theorem lM {l:List D} {k:Nat}:pAt l (k:Int)=l[k]?:=by
 unfold pAt pIx
 rw [if_pos (by omega)]
 by_cases h:k < l.length
 ·rw [if_pos (by omega),aH]
  simp
 ·rw [if_neg (by omega),bK (by omega)]
  rfl
theorem at0 {a:D} {l:List D}:pAt (a :: l) 0=some a:=lM (k:=0)
theorem at1 {a b:D} {l:List D}:pAt (a :: b :: l) 1=some b:=lM (k:=1)
theorem iy {i j:Int} (h:0 < j):eN (.int i) (.int j)=some (.int (i % j)):=by
 show (if decide (j ≠ 0)=true then some (PyData.int (i.fmod j)) else none)=_
 rw [if_pos (dTr (by omega)),Int.fmod_eq_emod_of_nonneg i (by omega)]
theorem Hw {j:Int} (h:j.natAbs < 2 ^ 64):j.natAbs < 2 ^ 9000:=bN h (Nat.pow_le_pow_right (by decide) (by decide))
theorem Ug {i j:Int} (h:0 < j) (h2:j.natAbs < 2 ^ 9000):yU (.int i) (.int j)=some (.int (i / j)):=by
 show (if Av i j=true then some (PyData.int (i.fdiv j)) else none)=_
 have e:Av i j=true:=by
  unfold Av
  rw [aR]
  exact ⟨dTr (by omega),dTr h2⟩
 rw [if_pos e,Int.fdiv_eq_ediv_of_nonneg i (by omega)]
theorem Sh {i j:Int} (h:0 < j) (h2:j < 18446744073709551616):yU (.int i) (.int j)=some (.int (i / j)):=Ug h (Hw (by omega))
theorem mulL {i j:Int} (h1 : -18446744073709551616 < i) (h2:i < 18446744073709551616):kZ (.int i) (.int j)=some (.int (i * j)):=by
 show (if uD i j=true then some (PyData.int (i * j)) else none)=_
 have e:uD i j=true:=by
  unfold uD
  rw [dTr (show i.natAbs < 2 ^ 64 by omega)]
  rfl
 rw [if_pos e]
theorem mulR {i j:Int} (h1 : -18446744073709551616 < j) (h2:j < 18446744073709551616):kZ (.int i) (.int j)=some (.int (i * j)):=by
 show (if uD i j=true then some (PyData.int (i * j)) else none)=_
 have e:uD i j=true:=by
  unfold uD
  rw [dTr (show j.natAbs < 2 ^ 64 by omega),Bool.or_true]
  rfl
 rw [if_pos e]
theorem Lz:oZ (.int 10) (.int 40)=some (.int (10 ^ 40)):=rfl
theorem Uh:oZ (.int 10) (.int 6)=some (.int (10 ^ 6)):=rfl
theorem sz {n:Nat} (h:n ≤ 1000000):n ≤ sizeLine:=dB h (by decide)
theorem shaped_ints (ns:List Int):SeqAt.shaped (.list (ns.map PyData.int))=true:=by
 have h1:∀ ns:List Int,PyData.canLayAll0 (ns.map PyData.int)=true:=fun ns=>by
  induction ns with
  | nil=>rfl
  | cons a r ih=>simp [PyData.canLayAll0,PyData.canLay0,ih]
 have h2:∀ ns:List Int,PyData.depthAll (ns.map PyData.int) ≤ 1:=fun ns=>by
  induction ns with
  | nil=>simp [PyData.depthAll]
  | cons a r ih=>simp [PyData.depthAll,PyData.depth];omega
 unfold SeqAt.shaped
 rw [aR]
 refine ⟨by simp [PyData.canLay0,h1],dTr ?_⟩
 have:=h2 ns
 simp only [PyData.depth]
 omega
theorem eq_empty (ns:List Int):gEq (.list (ns.map PyData.int)) (.list [])=some (.bool (decide (ns=[]))):=by
 unfold gEq
 rw [shaped_ints ns]
 cases ns with
 | nil=>rfl
 | cons a r=>rfl
theorem Eo {ns:List Int} {i:Int} (h0:0 ≤ i):iQ [.list (ns.map .int),.int i]=some (.int (mW ns i)):=by
 unfold iQ mW
 by_cases h:i < (ns.length:Int)
 ·rw [if_pos h]
  simp only [EV,reduceIte,aq,aA,aj,ak,aB,aC,aD,lMp,dTr h,rF h0 h,iy (show (0:Int) < 1000000007 by decide)]
 ·rw [if_neg h]
  by_cases hn:ns=[]
  ·rw [if_pos hn]
   simp only [EV,reduceIte,aq,aA,aj,ak,aB,aC,aD,lMp,dFa h,eq_empty,dTr hn,iJ,mulL (show (-18446744073709551616:Int) < 7919 by decide) (show (7919:Int) < 18446744073709551616 by decide)]
  ·rw [if_neg hn]
   have hl:0 < ns.length:=by
    cases ns with
    | nil=>exact absurd rfl hn
    | cons _ _=>simp
   have h7:0 ≤ i * 7 % (ns.length:Int):=je _ (by omega)
   have h8:i * 7 % (ns.length:Int) < (ns.length:Int):=gk _ (by omega)
   simp only [EV,reduceIte,aq,aA,aj,ak,aB,aC,aD,lMp,dFa h,eq_empty,dFa hn,iJ,mulL (show (-18446744073709551616:Int) < 7919 by decide) (show (7919:Int) < 18446744073709551616 by decide),mulR (show (-18446744073709551616:Int) < 7 by decide) (show (7:Int) < 18446744073709551616 by decide),iy (show (0:Int) < 1000000007 by decide),iy (show (0:Int) < ns.length by omega),rF h7 h8]
theorem wA {l:D} {i k m:D} (n:Int):∀ (js:List D) (c:Nat) (y:Option U),(∀ j ∈ js,∃ x,j = .int x)→∃ y',jY (gNl 5) (bh 4 (dOp yU (ao 4) (dC (.int 1000003)))) js [some (.d l),some (.d i),some (.d k),some (.d m),some (.d (.int (divs n c))),y] =
 some (.nx [some (.d l),some (.d i),some (.d k),some (.d m),some (.d (.int (divs n (c + js.length)))),y'])
 | [],c,y,_=>⟨y,rfl⟩
 | j :: js,c,y,h=>by
  obtain ⟨y',e⟩:=wA (l:=l) (i:=i) (k:=k) (m:=m) n js (c + 1) (some (.d j)) fun j' hj=>h j' (aJ _ hj)
  refine ⟨y',?_⟩
  rw [jY]
  simp only [EV,reduceIte,aq,aA,aj,ak,aB,aC,aD,Sh (show (0:Int) < 1000003 by decide) (show (1000003:Int) < 18446744073709551616 by decide),aH]
  rw [show c + (js.length + 1)=c + 1 + js.length by omega,← e]
  rfl
theorem Ep (lo hi:Int):∀ j ∈ fU lo hi,∃ x,j = .int x:=by
 intro j hj
 unfold fU at hj
 obtain ⟨k,_,rfl⟩:=cN.mp hj
 exact ⟨_,rfl⟩
theorem Er {ns:List Int} {i k m:Int} (h0:0 ≤ i) (hk0:0 ≤ k) (hk:k ≤ 1000) (hm:0 < m):iR [.list (ns.map .int),.int i,.int k,.int m]=some (.int (rE ns i k m)):=by
 have rest:∀ x y:Option U,qFn ((aY (bh 4 (dOp eN (dOp kZ (dOp fu (dOp fu (dCall iQ (aF (ao 0) (aF (ao 1) (aM)))) (dOp kZ (dC (.int 65537)) (ao 1))) (dC (.int 3))) (dOp fu (dC (.int 1299709)) (dOp kZ (dC (.int 15485863)) (ao 2)))) (dC (.int 2147483629))))
  (aY (bh 4 (dOp fu (dOp eN (dOp kZ (ao 4) (ao 4)) (dC (.int 1500450271))) (dC (.int 104729))))
  (b_ (dOp eN (dOp yU (dOp eN (dOp kZ (ao 4) (ao 4)) (dC (.int 715827883))) (dC (.int 64))) (ao 3))))) [some (.d (.list (ns.map .int))),some (.d (.int i)),some (.d (.int k)),some (.d (.int m)),x,y])=some (.int (C_ (mW ns i) i k m)):=by
  intro x y
  have b1:0 ≤ (mW ns i + 65537 * i + 3) * (1299709 + 15485863 * k) % 2147483629:=je _ (by decide)
  have b2:(mW ns i + 65537 * i + 3) * (1299709 + 15485863 * k) % 2147483629 < 2147483629:=gk _ (by decide)
  have b3:0 ≤ (mW ns i + 65537 * i + 3) * (1299709 + 15485863 * k) % 2147483629 * ((mW ns i + 65537 * i + 3) * (1299709 + 15485863 * k) % 2147483629) % 1500450271:=je _ (by decide)
  have b4:(mW ns i + 65537 * i + 3) * (1299709 + 15485863 * k) % 2147483629 * ((mW ns i + 65537 * i + 3) * (1299709 + 15485863 * k) % 2147483629) % 1500450271 < 1500450271:=gk _ (by decide)
  simp only [EV,reduceIte,aq,aA,aj,ak,aB,aC,aD,Eo h0,mulL (show (-18446744073709551616:Int) < 65537 by decide) (show (65537:Int) < 18446744073709551616 by decide),mulL (show (-18446744073709551616:Int) < 15485863 by decide) (show (15485863:Int) < 18446744073709551616 by decide),
   mulR (i:=mW ns i + 65537 * i + 3) (show (-18446744073709551616:Int) < 1299709 + 15485863 * k by omega) (show 1299709 + 15485863 * k < (18446744073709551616:Int) by omega),iy (show (0:Int) < 2147483629 by decide)]
  simp only [mulL (show (-18446744073709551616:Int) < (mW ns i + 65537 * i + 3) * (1299709 + 15485863 * k) % 2147483629 by omega) (show (mW ns i + 65537 * i + 3) * (1299709 + 15485863 * k) % 2147483629 < (18446744073709551616:Int) by omega)]
  simp only [EV,reduceIte,aq,aA,aj,ak,aB,aC,aD,iy (show (0:Int) < 1500450271 by decide)]
  rw [mulL (by omega) (by omega)]
  simp only [EV,reduceIte,aq,aA,aj,ak,aB,aC,aD,iy (show (0:Int) < 715827883 by decide),Sh (show (0:Int) < 64 by decide) (show (64:Int) < 18446744073709551616 by decide),iy hm]
  rfl
 unfold iR
 rw [Ru]
 simp only [EV,reduceIte,aq,aA,aj,ak,aB,aC,aD]
 by_cases h:i < (ns.length:Int)
 ·by_cases h2:10 ^ 40 ≤ ns.getD i.toNat 0
  ·simp only [EV,reduceIte,aq,aA,aj,ak,aB,aC,aD,lMp,dTr h,rF h0 h,Lz,dTr h2]
   obtain ⟨y',e⟩:=wA (l:=.list (ns.map .int)) (i:=.int i) (k:=.int k) (m:=.int m) (ns.getD i.toNat 0) (fU 0 k) 0 none (Ep 0 k)
   have el:0 + (fU 0 k).length=k.toNat:=by simp [fU]
   rw [el] at e
   have e':jY (gNl 5) (bh 4 (dOp yU (ao 4) (dC (.int 1000003)))) (fU 0 k) [some (.d (.list (ns.map .int))),some (.d (.int i)),some (.d (.int k)),some (.d (.int m)),some (.d (.int (ns.getD i.toNat 0))),none] =
    some (.nx [some (.d (.list (ns.map .int))),some (.d (.int i)),some (.d (.int k)),some (.d (.int m)),some (.d (.int (divs (ns.getD i.toNat 0) k.toNat))),y']):=e
   rw [tL (by omega) (by omega)]
   simp only [EV,reduceIte,aq,aA,aj,ak,aB,aC,aD,e']
   by_cases h3:0 < divs (ns.getD i.toNat 0) k.toNat
   ·simp only [EV,reduceIte,aq,aA,aj,ak,aB,aC,aD,dTr h3,iy (show (0:Int) < 1000003 by decide),iy hm]
    rw [Em h h2 h3]
   ·simp only [EV,reduceIte,aq,aA,aj,ak,aB,aC,aD,dFa h3]
    rw [qb (fun z=>h3 z.2.2)]
    have:=rest (some (.d (.int (divs (ns.getD i.toNat 0) k.toNat)))) y'
    simp only [EV,reduceIte,aq,aA,aj,ak,aB,aC,aD] at this
    exact this
  ·simp only [EV,reduceIte,aq,aA,aj,ak,aB,aC,aD,lMp,dTr h,rF h0 h,Lz,dFa h2]
   rw [qb (fun z=>h2 z.2.1)]
   have:=rest none none
   simp only [EV,reduceIte,aq,aA,aj,ak,aB,aC,aD] at this
   exact this
 ·simp only [EV,reduceIte,aq,aA,aj,ak,aB,aC,aD,lMp,dFa h]
  rw [qb (fun z=>h z.1)]
  have:=rest none none
  simp only [EV,reduceIte,aq,aA,aj,ak,aB,aC,aD] at this
  exact this
end Com
namespace Com
open PySem D3 My
noncomputable def q (t b:Int):Rat:=mkRat t b.toNat
end Com
namespace Com
open PySem D3 My
noncomputable def sm (k:Nat) (x:Int):Prop:=x.natAbs < 2 ^ k
end Com
namespace Com
open PySem D3 My
structure Tb where
 N:Nat
 w:Nat→Int
 B:Int
noncomputable def sumTo (f:Nat→Int):Nat→Int
 | 0=>0
 | n + 1=>sumTo f n + f n
structure TbOk (t:Tb) (k:Nat):Prop where
 B0:0 < t.B
 Bs:sm (7 * k + 1) t.B
 w0:∀ j,0 ≤ t.w j
 wB:∀ j,t.w j ≤ t.B
 wz:∀ j,t.N ≤ j→t.w j=0
 N1:1 ≤ t.N
 N4:t.N ≤ 1 + 4 * k
 sum:sumTo t.w t.N=t.B
end Com
namespace Com
open PySem D3 My
end Com
namespace Com
open PySem D3 My
structure bd (k:Nat) (a:Rat):Prop where
 n:sm k a.num
 d:sm k (a.den:Int)
end Com
namespace Com
open PySem D3 My
theorem zH {g:FG} {b:FS} (Inv:Nat→DS→Prop) {v:D} (n:Nat):∀ (l:List D) (δ:DS),Inv 0 δ→n < l.length→(∀ i d δ,i < n→l[i]? = some d→Inv i δ→∃ δ1 δ',g d δ=some δ1∧b δ1=some (.nx δ')∧Inv (i + 1) δ') →
 (∀ d δ,l[n]? = some d→Inv n δ→∃ δ1,g d δ=some δ1∧b δ1=some (.rt v))→jY g b l δ=some (.rt v):=by
 have key:∀ (n:Nat) (l:List D) (k:Nat) (δ:DS),Inv k δ→n < l.length→(∀ i d δ,i < n→l[i]? = some d→Inv (k + i) δ→∃ δ1 δ',g d δ=some δ1∧b δ1=some (.nx δ')∧Inv (k + i + 1) δ') →
  (∀ d δ,l[n]? = some d→Inv (k + n) δ→∃ δ1,g d δ=some δ1∧b δ1=some (.rt v))→jY g b l δ=some (.rt v):=by
  intro n
  induction n with
  | zero =>
   intro l k δ h0 hn _ hr
   cases l with
   | nil=>simp at hn
   | cons d r =>
    obtain ⟨δ1,e1,e2⟩:=hr d δ rfl h0
    rw [jY,e1,aH,e2]
    rfl
  | succ n ih =>
   intro l k δ h0 hn hs hr
   cases l with
   | nil=>simp at hn
   | cons d r =>
    obtain ⟨δ1,δ',e1,e2,e3⟩:=hs 0 d δ (by omega) rfl h0
    rw [jY,e1,aH,e2]
    refine ih r (k + 1) δ' e3 (by simpa using hn) (fun i d' δ'' hi hd hI=>?_) (fun d' δ'' hd hI=>hr d' δ'' (by simpa using hd) (by rw [show k + (n + 1)=k + 1 + n by omega];exact hI))
    have:=hs (i + 1) d' δ'' (by omega) (by simpa using hd) (by rw [show k + (i + 1)=k + 1 + i by omega];exact hI)
    rw [show k + (i + 1) + 1=k + 1 + i + 1 by omega] at this
    exact this
 intro l δ h0 hn hs hr
 refine key n l 0 δ h0 hn (fun i d δ hi hd hI=>?_) (fun d δ hd hI=>hr d δ hd (by rw [gQ] at hI;exact hI))
 have:=hs i d δ hi hd (by rw [gQ] at hI;exact hI)
 rw [gQ]
 exact this
theorem lN {hi:Int} {i:Nat} {d:D} (h:(fU 0 hi)[i]? = some d):(i:Int) < hi∧d = .int (i:Int):=by
 unfold fU at h
 rw [bf] at h
 by_cases hi':i < (hi - 0).toNat
 ·rw [eY hi'] at h
  cases h
  refine ⟨by omega,?_⟩
  show PyData.int (0 + (i:Int))=_
  rw [j5]
 ·rw [bK (by simpa using hi')] at h
  cases h
end Com
namespace Com
open PySem D3 My
theorem cEx {α:Type} {g:FG} {c:FT} {e:FE} {δ:DS} (f:α→D) (P:α→Prop):∀ l:List D,(∀ d ∈ l,∃ δ1 x,g d δ=some δ1∧c δ1=some true∧P x∧e δ1=some (f x))→∃ xs:List α,xs.length=l.length∧(∀ x ∈ xs,P x)∧jW g c e δ l=some (xs.map f)
 | [],_=>⟨[],rfl,(fun _ h=>by cases h),rfl⟩
 | d :: r,hs=>by
  obtain ⟨δ1,x,e1,e2,hp,e3⟩:=hs d aN
  obtain ⟨xs,l1,h1,e4⟩:=cEx f P r fun x hx=>hs x (aJ _ hx)
  refine ⟨x :: xs,by simp [l1],fun y hy=>?_,?_⟩
  ·rcases bQ.mp hy with rfl | z
   ·exact hp
   ·exact h1 y z
  ·rw [jW,e1,aH,e2,aH,if_pos rfl,e3,aH,e4]
   rfl
theorem xU {α:Type} {g:FG} {c:FT} {e:FE} {δ:DS} (f:α→D) (p:α→Bool) (h:α→D):∀ l:List α,(∀ s ∈ l,∃ δ1,g (f s) δ=some δ1∧c δ1=some (p s)∧(p s=true→e δ1=some (h s)))→jW g c e δ (l.map f)=some ((l.filter p).map h)
 | [],_=>rfl
 | s :: r,hs=>by
  obtain ⟨δ1,e1,e2,e3⟩:=hs s aN
  have ih:=xU f p h r fun x hx=>hs x (aJ _ hx)
  rw [bx,jW,e1,aH,e2,aH]
  by_cases c:p s=true
  ·rw [if_pos c,e3 c,aH,ih,nJ,if_pos c]
   rfl
  ·rw [if_neg c,ih,nJ,if_neg c]
theorem oH {α:Type} {g:FG} {c:FT} {e:FE} {δ:DS} (f:α→D) (h:α→D):∀ l:List α,(∀ s ∈ l,∃ δ1,g (f s) δ=some δ1∧c δ1=some true∧e δ1=some (h s))→jW g c e δ (l.map f)=some (l.map h)
 | [],_=>rfl
 | s :: r,hs=>by
  obtain ⟨δ1,e1,e2,e3⟩:=hs s aN
  rw [bx,jW,e1,aH,e2,aH,if_pos rfl,e3,aH,oH f h r fun x hx=>hs x (aJ _ hx)]
  rfl
theorem jX {α:Type} (f:α→D) (h:∀ a,flat (f a)=true):∀ l:List α,flats (l.map f)=true
 | []=>rfl
 | a :: r=>by rw [bx,flats,h,jX f h r];rfl
theorem gC (l:List Int):flats (l.map PyData.int)=true:=jX _ (fun _=>rfl) l
theorem at2 {a b c:D} {l:List D}:pAt (a :: b :: c :: l) 2=some c:=lM (k:=2)
theorem at3 {a b c d:D} {l:List D}:pAt (a :: b :: c :: d :: l) 3=some d:=lM (k:=3)
theorem at4 {a b c d e:D} {l:List D}:pAt (a :: b :: c :: d :: e :: l) 4=some e:=lM (k:=4)
theorem at5 {a b c d e f:D} {l:List D}:pAt (a :: b :: c :: d :: e :: f :: l) 5=some f:=lM (k:=5)
theorem at6 {a b c d e f g:D} {l:List D}:pAt (a :: b :: c :: d :: e :: f :: g :: l) 6=some g:=lM (k:=6)
theorem Dc {α:Type} (f:α→D) {l:List α} {i:Int} (h0:0 ≤ i) (h1:i < l.length):∃ a ∈ l,pAt (l.map f) i=some (f a):=by
 have hk:i.toNat < l.length:=by omega
 refine ⟨l[i.toNat],dZ hk,?_⟩
 obtain ⟨k,rfl⟩:∃ k:Nat,i=(k:Int):=⟨i.toNat,by omega⟩
 rw [lM,bf]
 simp only [bJ] at hk ⊢
 rw [aO hk]
 rfl
theorem mY {m:Int}:(fU 0 m).length=m.toNat:=by unfold fU;rw [aU,cH,qt]
theorem xV {m:Int} {d:D} (h:d ∈ fU 0 m):∃ k:Nat,(k:Int) < m∧d = .int (k:Int):=by
 unfold fU at h
 obtain ⟨k,hk,rfl⟩:=cN.mp h
 have:=bI.mp hk
 exact ⟨k,by omega,by rw [j5]⟩
theorem t_ (m:Int):fU 0 m=(aZ m.toNat).map fun k:Nat=>PyData.int (k:Int):=by
 unfold fU
 rw [qt]
 apply jG
 intro k _
 rw [j5]
theorem Pz {m:Int} {i:Nat} {d:D} (h:(fU 0 m)[i]? = some d):(i:Int) < m∧d = .int (i:Int):=by
 rw [t_,bf] at h
 by_cases hi:i < m.toNat
 ·rw [eY hi] at h
  cases h
  exact ⟨by omega,rfl⟩
 ·rw [bK (by simpa using hi)] at h
  cases h
theorem uO {v k:Int} (h:k ≤ 1000000) (h' : -(2 ^ 63) ≤ k):rN (.list [.int v]) (.int k)=some (.list ((aK k.toNat v).map PyData.int)):=by
 show (if [PyData.int v].length * k.toNat ≤ 1000000∧-(2 ^ 63) ≤ k∧k < 2 ^ 63 then some (PyData.list (aK k.toNat [PyData.int v]).flatten) else none)=_
 rw [if_pos ⟨by simp only [dY,jO];omega,h',by omega⟩]
 congr 2
 generalize k.toNat=n
 induction n with
 | zero=>rfl
 | succ n ih=>rw [cA,eH,ih,cA,bx];rfl
theorem oV {i j:Int} (h:0 < j):0 ≤ i % j∧i % j < j:=⟨je _ (by omega),gk _ h⟩
theorem PB:oZ (.int 10) (.int 9)=some (.int 1000000000):=rfl
theorem Hx:oZ (.int 10) (.int 6)=some (.int 1000000):=rfl
theorem Sq {l:List D} {k:Int} (h:0 ≤ k):cutD l (some k) none=l.drop k.toNat:=by
 unfold cutD
 have e:pSx l.length 0 (some k)=min k.toNat l.length:=by
  show (if k < 0 then _ else _)=_
  rw [if_neg (by omega)]
 rw [e,show pSx l.length l.length none=l.length from rfl]
 by_cases c:k.toNat ≤ l.length
 ·rw [show min k.toNat l.length=k.toNat by omega,nY (by rw [List.length_drop];omega)]
 ·rw [show min k.toNat l.length=l.length by omega,nZ (by omega),nZ (by omega)]
  simp
theorem Ss {l:List D} {k:Int} (h:0 ≤ k):cutD l none (some k)=l.take k.toNat:=by
 unfold cutD
 have e:pSx l.length l.length (some k)=min k.toNat l.length:=by
  show (if k < 0 then _ else _)=_
  rw [if_neg (by omega)]
 rw [e,show pSx l.length 0 none=0 from rfl,List.drop_zero,Nat.sub_zero,List.take_eq_take_iff]
 omega
theorem isList:D3.isT "list" "list" = true:=rfl
mutual
theorem eqv_refl:∀ d:D,d.canLay0=true→PyData.eqv d d=true
 | .none,_=>by simp [PyData.eqv]
 | .bool b,_=>by simp [PyData.eqv]
 | .int i,_=>by simp [PyData.eqv]
 | .str x,_=>by simp [PyData.eqv]
 | .list l,h=>by
  have:=eqvAll_refl l (by simpa [PyData.canLay0] using h)
  simpa [PyData.eqv] using this
 | .tuple l,h=>by
  have:=eqvAll_refl l (by simpa [PyData.canLay0] using h)
  simpa [PyData.eqv] using this
 | .dict l,h=>by simp [PyData.canLay0] at h
theorem eqvAll_refl:∀ l:List D,PyData.canLayAll0 l=true→PyData.eqvAll l l=true
 | [],_=>by simp [PyData.eqvAll]
 | d :: r,h=>by
  rw [PyData.canLayAll0,aR] at h
  rw [PyData.eqvAll,eqv_refl d h.1,eqvAll_refl r h.2]
  rfl
end
noncomputable def ly (n:Nat) (d:D):Prop:=d.canLay0=true∧d.depth ≤ n
noncomputable def lys (n:Nat) (l:List D):Prop:=PyData.canLayAll0 l=true∧PyData.depthAll l ≤ n
theorem Dh {n m:Nat} {d:D} (h:ly n d) (l:n ≤ m):ly m d:=⟨h.1,dB h.2 l⟩
theorem xW {n:Nat}:lys n []:=⟨by simp [PyData.canLayAll0],by simp [PyData.depthAll]⟩
theorem nQ {n:Nat} {d:D} {l:List D} (h:ly n d) (q:lys n l):lys n (d :: l) :=
 ⟨by rw [PyData.canLayAll0,h.1,q.1];rfl,by have:=h.2;have:=q.2;simp only [PyData.depthAll];omega⟩
theorem uc {α:Type} {n:Nat} (f:α→D) (h:∀ a,ly n (f a)):∀ l:List α,lys n (l.map f)
 | []=>xW
 | a :: r=>nQ (h a) (uc f h r)
theorem ud {n:Nat} {l:List D} (h:lys n l):ly (n + 1) (.list l):=⟨by simp [PyData.canLay0,h.1],by have:=h.2;simp only [PyData.depth];omega⟩
theorem PJ {n:Nat} {l:List D} (h:lys n l):ly (n + 1) (.tuple l):=⟨by simp [PyData.canLay0,h.1],by have:=h.2;simp only [PyData.depth];omega⟩
theorem xX {n:Nat} {i:Int}:ly (n + 1) (.int i):=⟨rfl,by simp [PyData.depth]⟩
theorem wC {d:D} (h:ly 60 d):SeqAt.shaped d=true:=by
 unfold SeqAt.shaped
 rw [aR]
 exact ⟨h.1,dTr (by have:=h.2;omega)⟩
theorem ne_self {d:D} (h:ly 60 d):gNe d d=some (.bool false):=by
 unfold gNe
 rw [wC h,eqv_refl d h.1]
 rfl
theorem ne_nil {l:List D} (h:ly 60 (.list l)):gNe (.list l) (.list [])=some (.bool (!l.isEmpty)):=by
 unfold gNe
 rw [wC h,show SeqAt.shaped (.list [])=true from rfl]
 cases l <;> simp [PyData.eqv,PyData.eqvAll]
end Com
namespace Com
open PySem D3 My
noncomputable def r6 (x:Int):Prop:=0 ≤ x∧x < 1000000
theorem rG (ns:List Int) {a m:Int} (h0:0 ≤ a) (m0:0 ≤ m) (m1:m ≤ 1000):∃ xs:List Int,xs.length=m.toNat∧(∀ x ∈ xs,r6 x)∧dI [.list (ns.map .int),.int a,.int m]=some (.list (xs.map .int)):=by
 have rr:nP (some [.int m])=some (fU 0 m):=tL (by omega) (by omega)
 obtain ⟨xs,l1,h1,e⟩:=cEx (g:=(gNl 0)) (c:=(D3.gq)) (e:=(dCall iR (aF (ao 1) (aF (ao 2) (aF (ao 0) (aF (dOp oZ (dC (.int 10)) (dC (.int 6))) (aM))))))) (δ:=[none,some (.d (.list (ns.map .int))),some (.d (.int a))]) PyData.int r6 (fU 0 m) fun d hd=>by
  obtain ⟨k,hk,rfl⟩:=xV hd
  refine ⟨[some (.d (.int (k:Int))),some (.d (.list (ns.map .int))),some (.d (.int a))],rE ns a (k:Int) (10 ^ 6),rfl,rfl,by have:=zG ns a (k:Int) (m:=10 ^ 6) (by decide);unfold r6;omega,?_⟩
  simp only [EV,reduceIte,aq,aA,aj,ak,aB,aC,aD,Uh,Er (ns:=ns) (i:=a) (k:=(k:Int)) (m:=10 ^ 6) h0 (by omega) (by omega) (by decide)]
 have ca:∀ a b c:U,jg 1 [0,1] [some a,some b,some c]=[none,some a,some b]:=fun _ _ _=>rfl
 unfold dI
 refine ⟨xs,by rw [l1,mY],h1,?_⟩
 simp only [EV,reduceIte,aq,aA,aj,ak,aB,aC,aD,rr,ca,e,mY,show m.toNat ≤ 100000 by omega]
theorem Ui {xs:List Int} (h:xs.length=5):∃ a b c d e,xs=[a,b,c,d,e]:=by
 match xs,h with
 | [a,b,c,d,e],_=>exact ⟨a,b,c,d,e,rfl⟩
theorem Uj {xs:List Int} (h:xs.length=7):∃ a b c d e f g,xs=[a,b,c,d,e,f,g]:=by
 match xs,h with
 | [a,b,c,d,e,f,g],_=>exact ⟨a,b,c,d,e,f,g,rfl⟩
theorem Uk (ns:List Int) {a:Int} (h0:0 ≤ a):∃ x0 x1 x2 x3 x4,r6 x0∧r6 x1∧r6 x2∧r6 x3∧r6 x4∧dI [.list (ns.map .int),.int a,.int 5]=some (.list [.int x0,.int x1,.int x2,.int x3,.int x4]):=by
 obtain ⟨xs,hl,hb,e⟩:=rG ns h0 (m:=5) (by decide) (by decide)
 obtain ⟨x0,x1,x2,x3,x4,rfl⟩:=Ui hl
 exact ⟨x0,x1,x2,x3,x4,hb _ (by simp),hb _ (by simp),hb _ (by simp),hb _ (by simp),hb _ (by simp),e⟩
theorem Ul (ns:List Int) {a:Int} (h0:0 ≤ a):∃ x0 x1 x2 x3 x4 x5 x6,r6 x0∧r6 x1∧r6 x2∧r6 x3∧r6 x4∧r6 x5∧r6 x6∧dI [.list (ns.map .int),.int a,.int 7]=some (.list [.int x0,.int x1,.int x2,.int x3,.int x4,.int x5,.int x6]):=by
 obtain ⟨xs,hl,hb,e⟩:=rG ns h0 (m:=7) (by decide) (by decide)
 obtain ⟨x0,x1,x2,x3,x4,x5,x6,rfl⟩:=Uj hl
 exact ⟨x0,x1,x2,x3,x4,x5,x6,hb _ (by simp),hb _ (by simp),hb _ (by simp),hb _ (by simp),hb _ (by simp),hb _ (by simp),hb _ (by simp),e⟩
theorem rW {xs:List Int} {i:Int} (h0:0 ≤ i) (h1:i < xs.length):∃ x ∈ xs,pAt (xs.map PyData.int) i=some (.int x):=Dc PyData.int h0 h1
theorem Es (ns:List Int) {n:Int} (n0:1 ≤ n) (n1:n ≤ 100):∃ fs:List Int,fs.length=n.toNat∧(∀ f ∈ fs,0 ≤ f∧f ≤ 12)∧eZ [.list (ns.map .int),.int n]=some (.list (fs.map .int)):=by
 obtain ⟨x0,x1,x2,x3,x4,b0,b1,b2,b3,b4,ex⟩:=Uk ns (a:=1) (by decide)
 obtain ⟨ys,yl,yb,ey⟩:=rG ns (a:=60) (m:=n) (by decide) (by omega) (by omega)
 have rr:nP (some [.int n])=some (fU 0 n):=tL (by omega) (by omega)
 have hw:=oV (i:=x0) (j:=4) (by decide)
 have cw:x0 % 4=0∨x0 % 4=1∨x0 % 4=2∨x0 % 4=3:=by omega
 unfold eZ
 rcases cw with c | c | c | c
 ·have m1:=oV (i:=x1) (j:=3) (by decide)
  refine ⟨aK n.toNat (1 + x1 % 3),aQ,fun f hf=>?_,?_⟩
  ·rw [m7 hf];omega
  ·simp only [EV,reduceIte,aq,aA,aj,ak,aB,aC,aD,ex,ey,iy (show (0:Int) < 4 by decide),c,iy (show (0:Int) < 3 by decide),at1,sz (show 1 ≤ 1000000 by decide),uO (v:=1 + x1 % 3) (k:=n) (by omega) (by omega),gC]
 ·obtain ⟨fs,fl,fb,ef⟩:=cEx (g:=(gNl 0)) (c:=(D3.gq)) (e:=(dOp eN (dOp gIx (ao 1) (ao 0)) (dC (.int 3)))) (δ:=[none,some (.d (.list (ys.map .int)))]) PyData.int (fun f=>0 ≤ f∧f ≤ 12) (fU 0 n) fun d hd=>by
   obtain ⟨k,hk,rfl⟩:=xV hd
   obtain ⟨y,hy,py⟩:=rW (xs:=ys) (i:=(k:Int)) (by omega) (by omega)
   have:=oV (i:=y) (j:=3) (by decide)
   refine ⟨[some (.d (.int (k:Int))),some (.d (.list (ys.map .int)))],y % 3,rfl,rfl,by omega,?_⟩
   simp only [EV,reduceIte,aq,aA,aj,ak,aB,aC,aD,py,iy (show (0:Int) < 3 by decide)]
  have ca:∀ a b c d e f:Option U,jg 1 [3] [a,b,c,d,e,f]=[none,d]:=fun _ _ _ _ _ _=>rfl
  refine ⟨fs,by rw [fl,mY],fb,?_⟩
  simp only [EV,reduceIte,aq,aA,aj,ak,aB,aC,aD,ex,ey,iy (show (0:Int) < 4 by decide),c,rr,ca,ef,mY,show n.toNat ≤ 100000 by omega,sz (show 1 ≤ 1000000 by decide)]
 ·obtain ⟨fs,fl,fb,ef⟩:=cEx (g:=(gNl 0)) (c:=(D3.gq)) (e:=(dW (dOp gIx (dR (aF (dC (.int 0)) (aF (dC (.int 1)) (aF (dC (.int 2)) (aF (dC (.int 5)) (aF (dC (.int 11)) (aF (dC (.int 12)) (aM)))))))) (dOp eN (dOp gIx (ao 1) (ao 0)) (dC (.int 6)))))) (δ:=[none,some (.d (.list (ys.map .int)))]) PyData.int (fun f=>0 ≤ f∧f ≤ 12) (fU 0 n) fun d hd=>by
   obtain ⟨k,hk,rfl⟩:=xV hd
   obtain ⟨y,hy,py⟩:=rW (xs:=ys) (i:=(k:Int)) (by omega) (by omega)
   have:=oV (i:=y) (j:=6) (by decide)
   obtain ⟨v,hv,pv⟩:=rW (xs:=[0,1,2,5,11,12]) (i:=y % 6) (by omega) (by simp only [dY,jO];omega)
   refine ⟨[some (.d (.int (k:Int))),some (.d (.list (ys.map .int)))],v,rfl,rfl,by simp at hv;omega,?_⟩
   simp only [EV,reduceIte,aq,aA,aj,ak,aB,aC,aD,py,iy (show (0:Int) < 6 by decide),sz (show 6 ≤ 1000000 by decide)]
   simp only [bx,qm] at pv
   rw [pv]
   simp only [EV,reduceIte,aq,aA,aj,ak,aB,aC,aD]
  have ca:∀ a b c d e f:Option U,jg 1 [3] [a,b,c,d,e,f]=[none,d]:=fun _ _ _ _ _ _=>rfl
  refine ⟨fs,by rw [fl,mY],fb,?_⟩
  simp only [EV,reduceIte,aq,aA,aj,ak,aB,aC,aD,ex,ey,iy (show (0:Int) < 4 by decide),c,rr,ca,ef,mY,show n.toNat ≤ 100000 by omega,sz (show 1 ≤ 1000000 by decide)]
 ·have m2:=oV (i:=x2) (j:=n + 1) (by omega)
  have m3:=oV (i:=x3) (j:=4) (by decide)
  have m4:=oV (i:=x4) (j:=4) (by decide)
  refine ⟨aK (x2 % (n + 1)).toNat (x3 % 4)++aK (n - x2 % (n + 1)).toNat (x4 % 4),by simp;omega,fun f hf=>?_,?_⟩
  ·rcases cV.mp hf with z | z <;> rw [m7 z] <;> omega
  ·simp only [EV,reduceIte,aq,aA,aj,ak,aB,aC,aD,ex,ey,iy (show (0:Int) < 4 by decide),c,at2,at3,at4,iy (show (0:Int) < n + 1 by omega),sz (show 1 ≤ 1000000 by decide),uO (v:=x3 % 4) (k:=x2 % (n + 1)) (by omega) (by omega),uO (v:=x4 % 4) (k:=n - x2 % (n + 1)) (by omega) (by omega)]
   rw [if_pos (by simp only [aU,aQ];omega),← fQ]
   simp only [EV,reduceIte,aq,aA,aj,ak,aB,aC,aD,gC]
noncomputable abbrev Wi:=Int × Int × Int
noncomputable def wiD (w:Wi):D:=.tuple [.int w.1,.int w.2.1,.int w.2.2]
noncomputable def nR (n:Int) (w:Wi):Prop:=0 ≤ w.1∧w.1 < w.2.1∧w.2.1 ≤ n∧0 ≤ w.2.2∧w.2.2 ≤ 1000000000
theorem LC (w:Wi):ly 3 (wiD w):=PJ (nQ xX (nQ xX (nQ xX xW)))
theorem PK (ws:List Wi):ly 60 (.list (ws.map wiD)):=Dh (ud (uc wiD LC ws)) (by decide)
theorem zJ (ns:List Int) {n:Int} (n0:1 ≤ n) (n1:n ≤ 100) {m:D} {i:Nat} (ws:List Wi) (hl:ws.length ≤ 1000) (hw:∀ w ∈ ws,nR n w) (y5 y6 y7 y8:Option U) :
 ∃ w,nR n w∧∃ z5 z6 z7 z8,(aY (bh 5 (dCall dI (aF (ao 0) (aF (dOp fu (dC (.int 4)) (ao 4)) (aF (dC (.int 7)) (aM)))))) (aY (bh 6 (dOp eN (dOp gIx (ao 5) (dC (.int 0))) (ao 1))) (aY (bh 7 (dCall uF (aF (ao 1) (aF (dOp fu (dOp fu (ao 6) (dC (.int 1))) (dOp eN (dOp gIx (ao 5) (dC (.int 1))) (dOp gIx (dR (aF (dC (.int 3)) (aF (ao 1) (aM)))) (dOp eN (dOp gIx (ao 5) (dC (.int 2))) (dC (.int 2)))))) (aM))))) (aY (bh 8 (dR (aF (dOp eN (dOp gIx (ao 5) (dC (.int 3))) (dC (.int 10))) (aF (dOp kZ (dC (.int 5)) (dOp m8 (ao 7) (ao 6))) (aF (dOp eN (dOp fu (dOp kZ (dOp gIx (ao 5) (dC (.int 3))) (dOp oZ (dC (.int 10)) (dC (.int 6)))) (dOp gIx (ao 5) (dC (.int 6)))) (dOp fu (dOp oZ (dC (.int 10)) (dC (.int 9))) (dC (.int 1)))) (aM)))))) (aY (bh 8 (dOp qJ (ao 8) (dR (aF (dOp oZ (dC (.int 10)) (dC (.int 9))) (aF (dOp fu (dC (.int 1)) (dOp eN (dOp gIx (ao 5) (dC (.int 3))) (dC (.int 100)))) (aM)))))) (sIf (D3.jf (aP (dOp gEq (dOp eN (dOp gIx (ao 5) (dC (.int 5))) (dC (.int 5))) (dC (.int 0)))) (aP (dOp gNe (ao 3) (dR (aM))))) (o7 3 (dOp gIx (ao 3) (dOp eN (dOp gIx (ao 5) (dC (.int 3))) (dCall iW (aF (ao 3) (aM)))))) (o7 3 (dTup (aF (ao 6) (aF (ao 7) (aF (dOp gIx (ao 8) (dOp eN (dOp gIx (ao 5) (dC (.int 4))) (dC (.int 5)))) (aM)))))))))))) [some (.d (.list (ns.map .int))),some (.d (.int n)),some (.d m),some (.d (.list (ws.map wiD))),some (.d (.int (i:Int))),y5,y6,y7,y8] =
  some (.nx [some (.d (.list (ns.map .int))),some (.d (.int n)),some (.d m),some (.d (.list ((ws++[w]).map wiD))),some (.d (.int (i:Int))),z5,z6,z7,z8]):=by
 obtain ⟨x0,x1,x2,x3,x4,x5,x6,b0,b1,b2,b3,b4,b5,b6,ex⟩:=Ul ns (a:=4 + (i:Int)) (by omega)
 have m0:=oV (i:=x0) (j:=n) (by omega)
 have m2:=oV (i:=x2) (j:=2) (by decide)
 have m3:=oV (i:=x3) (j:=10) (by decide)
 have m3':=oV (i:=x3) (j:=100) (by decide)
 have m4:=oV (i:=x4) (j:=5) (by decide)
 have m5:=oV (i:=x5) (j:=5) (by decide)
 have m6:=oV (i:=x3 * 1000000 + x6) (j:=1000000001) (by decide)
 have mg:kZ (.int x3) (.int 1000000)=some (.int (x3 * 1000000)):=mulR (by decide) (by decide)
 obtain ⟨v,hv,ev⟩:∃ v,0 < v∧pAt [PyData.int 3,PyData.int n] (x2 % 2)=some (.int v):=by
  have:x2 % 2=0∨x2 % 2=1:=by omega
  rcases this with e | e
  ·exact ⟨3,by decide,by rw [e];exact at0⟩
  ·exact ⟨n,by omega,by rw [e];exact at1⟩
 have m1:=oV (i:=x1) (j:=v) hv
 obtain ⟨b,hb,hb2,eb⟩:∃ b,x0 % n < b∧b ≤ n∧uF [.int n,.int (x0 % n + 1 + x1 % v)]=some (.int b):=by
  refine ⟨if x0 % n + 1 + x1 % v < n then x0 % n + 1 + x1 % v else n,?_,?_,rfl⟩ <;> split <;> omega
 have mb:kZ (.int 5) (.int (b - x0 % n))=some (.int (5 * (b - x0 % n))):=mulL (by decide) (by decide)
 obtain ⟨s,hs,es⟩:∃ s,(0 ≤ s∧s ≤ 1000000000)∧pAt [PyData.int (x3 % 10),.int (5 * (b - x0 % n)),.int ((x3 * 1000000 + x6) % 1000000001),.int 1000000000,.int (1 + x3 % 100)] (x4 % 5)=some (.int s):=by
  have:x4 % 5=0∨x4 % 5=1∨x4 % 5=2∨x4 % 5=3∨x4 % 5=4:=by omega
  rcases this with e | e | e | e | e <;> rw [e]
  ·exact ⟨_,by omega,at0⟩
  ·exact ⟨_,by omega,at1⟩
  ·exact ⟨_,by omega,at2⟩
  ·exact ⟨_,by omega,at3⟩
  ·exact ⟨_,by omega,at4⟩
 by_cases c:x5 % 5=0∧ws ≠ []
 ·have hp:0 < (ws.length:Int):=by
   have:=List.length_pos_iff.mpr c.2
   omega
  have ml:=oV (i:=x3) (j:=(ws.length:Int)) hp
  obtain ⟨w,hwm,ew⟩:=Dc wiD (l:=ws) (i:=x3 % (ws.length:Int)) (by omega) (by omega)
  refine ⟨w,hw w hwm,some (.d (.list [.int x0,.int x1,.int x2,.int x3,.int x4,.int x5,.int x6])),some (.d (.int (x0 % n))),some (.d (.int b)),some (.d (.list [.int (x3 % 10),.int (5 * (b - x0 % n)),.int ((x3 * 1000000 + x6) % 1000000001),.int 1000000000,.int (1 + x3 % 100)])),?_⟩
  simp only [EV,reduceIte,aq,aA,aj,ak,aB,aC,aD,ex,iy (show (0:Int) < n by omega),at1,at2,at3,at4,at5,at6,iy (show (0:Int) < 2 by decide),sz (show 2 ≤ 1000000 by decide),ev,iy hv,eb,iy (show (0:Int) < 10 by decide),mb,Hx,mg,PB,iy (show (0:Int) < 1000000001 by decide),sz (show 3 ≤ 1000000 by decide),iy (show (0:Int) < 100 by decide),iy (show (0:Int) < 5 by decide),c.1,iJ,ne_nil (PK ws),List.isEmpty_map,show ws.isEmpty=false by cases ws with | nil=>exact absurd rfl c.2 | cons _ _=>rfl,lMp,iy hp,ew,show ws.length < 1000000 by omega,pK]
  rw [fQ]
  rfl
 ·refine ⟨(x0 % n,b,s),⟨m0.1,hb,hb2,hs⟩,some (.d (.list [.int x0,.int x1,.int x2,.int x3,.int x4,.int x5,.int x6])),some (.d (.int (x0 % n))),some (.d (.int b)),some (.d (.list [.int (x3 % 10),.int (5 * (b - x0 % n)),.int ((x3 * 1000000 + x6) % 1000000001),.int 1000000000,.int (1 + x3 % 100)])),?_⟩
  by_cases c5:x5 % 5=0
  ·have cw:ws=[]:=Classical.byContradiction fun z=>c ⟨c5,z⟩
   subst cw
   simp only [EV,reduceIte,aq,aA,aj,ak,aB,aC,aD,ex,iy (show (0:Int) < n by omega),at1,at2,at3,at4,at5,at6,iy (show (0:Int) < 2 by decide),sz (show 2 ≤ 1000000 by decide),ev,iy hv,eb,iy (show (0:Int) < 10 by decide),mb,Hx,mg,PB,iy (show (0:Int) < 1000000001 by decide),sz (show 3 ≤ 1000000 by decide),iy (show (0:Int) < 100 by decide),iy (show (0:Int) < 5 by decide),c5,iJ,show gNe (.list []) (.list [])=some (.bool false) from rfl,List.isEmpty_nil,es,pK]
   rfl
  ·simp only [EV,reduceIte,aq,aA,aj,ak,aB,aC,aD,ex,iy (show (0:Int) < n by omega),at1,at2,at3,at4,at5,at6,iy (show (0:Int) < 2 by decide),sz (show 2 ≤ 1000000 by decide),ev,iy hv,eb,iy (show (0:Int) < 10 by decide),mb,Hx,mg,PB,iy (show (0:Int) < 1000000001 by decide),sz (show 3 ≤ 1000000 by decide),iy (show (0:Int) < 100 by decide),iy (show (0:Int) < 5 by decide),dFa c5,es,lMp,show ws.length < 1000000 by omega,pK]
   rw [fQ]
   rfl
theorem zK (ns:List Int) {n m:Int} (n0:1 ≤ n) (n1:n ≤ 100) (m0:0 ≤ m) (m1:m ≤ 1000):∃ ws:List Wi,ws.length=m.toNat∧(∀ w ∈ ws,nR n w)∧dM [.list (ns.map .int),.int n,.int m]=some (.list (ws.map wiD)):=by
 unfold dM
 simp only [EV,reduceIte,aq,aA,aj,ak,aB,aC,aD,iJ]
 rw [tL (by omega) (by omega)]
 simp only [EV,reduceIte,aq,aA,aj,ak,aB,aC,aD]
 obtain ⟨δ',e,ws,hl,hw,y4,y5,y6,y7,y8,rfl⟩:=oG (g:=(gNl 4)) (b:=(aY (bh 5 (dCall dI (aF (ao 0) (aF (dOp fu (dC (.int 4)) (ao 4)) (aF (dC (.int 7)) (aM)))))) (aY (bh 6 (dOp eN (dOp gIx (ao 5) (dC (.int 0))) (ao 1))) (aY (bh 7 (dCall uF (aF (ao 1) (aF (dOp fu (dOp fu (ao 6) (dC (.int 1))) (dOp eN (dOp gIx (ao 5) (dC (.int 1))) (dOp gIx (dR (aF (dC (.int 3)) (aF (ao 1) (aM)))) (dOp eN (dOp gIx (ao 5) (dC (.int 2))) (dC (.int 2)))))) (aM))))) (aY (bh 8 (dR (aF (dOp eN (dOp gIx (ao 5) (dC (.int 3))) (dC (.int 10))) (aF (dOp kZ (dC (.int 5)) (dOp m8 (ao 7) (ao 6))) (aF (dOp eN (dOp fu (dOp kZ (dOp gIx (ao 5) (dC (.int 3))) (dOp oZ (dC (.int 10)) (dC (.int 6)))) (dOp gIx (ao 5) (dC (.int 6)))) (dOp fu (dOp oZ (dC (.int 10)) (dC (.int 9))) (dC (.int 1)))) (aM)))))) (aY (bh 8 (dOp qJ (ao 8) (dR (aF (dOp oZ (dC (.int 10)) (dC (.int 9))) (aF (dOp fu (dC (.int 1)) (dOp eN (dOp gIx (ao 5) (dC (.int 3))) (dC (.int 100)))) (aM)))))) (sIf (D3.jf (aP (dOp gEq (dOp eN (dOp gIx (ao 5) (dC (.int 5))) (dC (.int 5))) (dC (.int 0)))) (aP (dOp gNe (ao 3) (dR (aM))))) (o7 3 (dOp gIx (ao 3) (dOp eN (dOp gIx (ao 5) (dC (.int 3))) (dCall iW (aF (ao 3) (aM)))))) (o7 3 (dTup (aF (ao 6) (aF (ao 7) (aF (dOp gIx (ao 8) (dOp eN (dOp gIx (ao 5) (dC (.int 4))) (dC (.int 5)))) (aM)))))))))))))
  (fun i δ=>∃ ws:List Wi,ws.length=i∧(∀ w ∈ ws,nR n w)∧∃ y4 y5 y6 y7 y8,δ=[some (.d (.list (ns.map .int))),some (.d (.int n)),some (.d (.int m)),some (.d (.list (ws.map wiD))),y4,y5,y6,y7,y8]) (fU 0 m)
  [some (.d (.list (ns.map .int))),some (.d (.int n)),some (.d (.int m)),some (.d (.list [])),none,none,none,none,none] ⟨[],rfl,by simp,none,none,none,none,none,rfl⟩ (by
   rintro i d δ hd ⟨ws,hl,hw,y4,y5,y6,y7,y8,rfl⟩
   obtain ⟨hi,rfl⟩:=Pz hd
   obtain ⟨w,ow,z5,z6,z7,z8,ew⟩:=zJ ns n0 n1 (m:=.int m) (i:=i) ws (by omega) hw y5 y6 y7 y8
   refine ⟨_,_,rfl,.inl ew,ws++[w],by simp [hl],fun x hx=>?_,_,_,_,_,_,rfl⟩
   rcases cV.mp hx with z | z
   ·exact hw x z
   ·rw [bW.mp z];exact ow)
 rw [e]
 refine ⟨ws,by rw [hl,mY],hw,?_⟩
 simp only [EV,reduceIte,aq,aA,aj,ak,aB,aC,aD,jX wiD (fun _=>rfl)]
noncomputable abbrev Pr:=Int × Int
noncomputable def prD (p:Pr):D:=.tuple [.int p.1,.int p.2]
end Com
namespace Com
open PySem D3 My
noncomputable def tE (ps:List Pr) (a b:Int):Int:=((ps.filter fun p=>decide (a ≤ p.1) && decide (p.1 < b)).map (·.2)).sum
theorem Et {ps:List Pr} (hl:ps.length ≤ 1000) (a b:Int):qd [.list (ps.map prD),.int a,.int b]=some (.int (tE ps a b)):=by
 have C:=xU (g:=(gTn 2 (bT (gNl 0) (bT (gNl 1) (gA))))) (c:=(aP (iG gLe gLt (ao 2) (ao 0) (ao 3)))) (e:=(dW (ao 1))) (δ:=[none,none,some (.d (.int a)),some (.d (.int b))]) prD (fun p=>decide (a ≤ p.1) && decide (p.1 < b)) (fun p=>.int p.2) ps (fun s _=>by
  refine ⟨[some (.d (.int s.1)),some (.d (.int s.2)),some (.d (.int a)),some (.d (.int b))],rfl,?_,fun _=>rfl⟩
  by_cases c:a ≤ s.1
  ·simp only [EV,reduceIte,aq,aA,aj,ak,aB,aC,aD,dTr c,pL]
  ·simp only [EV,reduceIte,aq,aA,aj,ak,aB,aC,aD,dFa c,lU])
 have ca:∀ a b c:Option U,jg 2 [1,2] [a,b,c]=[none,none,b,c]:=fun _ _ _=>rfl
 unfold qd
 simp only [EV,reduceIte,aq,aA,aj,ak,aB,aC,aD,lMp,show ps.length ≤ 100000 by omega,ca,C]
 unfold tE
 rw [show ((ps.filter fun p=>decide (a ≤ p.1) && decide (p.1 < b)).map fun p=>PyData.int p.2)=((ps.filter fun p=>decide (a ≤ p.1) && decide (p.1 < b)).map (·.2)).map .int by rw [bZ];rfl,wu]
 simp only [EV,reduceIte,aq,aA,aj,ak,aB,aC,aD]
theorem vI {ps:List Pr} (hl:ps.length ≤ 1000) (a b:Int):g_ [.list (ps.map prD),.int a,.int b]=some (.int (tE ps a b)):=by
 have C:=xU (g:=(gTn 2 (bT (gNl 0) (bT (gNl 1) (gA))))) (c:=(D3.jf (aP (dOp gLe (ao 2) (ao 0))) (aP (dOp gLt (ao 0) (ao 3))))) (e:=(dW (ao 1))) (δ:=[none,none,some (.d (.int a)),some (.d (.int b))]) prD (fun p=>decide (a ≤ p.1) && decide (p.1 < b)) (fun p=>.int p.2) ps (fun s _=>by
  refine ⟨[some (.d (.int s.1)),some (.d (.int s.2)),some (.d (.int a)),some (.d (.int b))],rfl,?_,fun _=>rfl⟩
  by_cases c:a ≤ s.1
  ·simp only [EV,reduceIte,aq,aA,aj,ak,aB,aC,aD,dTr c,pL]
  ·simp only [EV,reduceIte,aq,aA,aj,ak,aB,aC,aD,dFa c,lU])
 have ca:∀ a b c:Option U,jg 2 [1,2] [a,b,c]=[none,none,b,c]:=fun _ _ _=>rfl
 unfold g_
 simp only [EV,reduceIte,aq,aA,aj,ak,aB,aC,aD,lMp,show ps.length ≤ 100000 by omega,ca,C]
 unfold tE
 rw [show ((ps.filter fun p=>decide (a ≤ p.1) && decide (p.1 < b)).map fun p=>PyData.int p.2)=((ps.filter fun p=>decide (a ≤ p.1) && decide (p.1 < b)).map (·.2)).map .int by rw [bZ];rfl,wu]
 simp only [EV,reduceIte,aq,aA,aj,ak,aB,aC,aD]
noncomputable def jz (ps:List Pr) (w:Wi):Int:=w.2.2 - tE ps w.1 w.2.1
theorem wD {ps:List Pr} (hl:ps.length ≤ 1000) (w:Wi):jH [wiD w,.list (ps.map prD)]=some (.int (jz ps w)):=by
 unfold jH wiD
 simp only [EV,reduceIte,aq,aA,aj,ak,aB,aC,aD,at0,at1,at2,Et hl]
 rfl
noncomputable def xY (ws:List Wi) (cs:List Int):Int:=(cs.map fun c=>(ws.getD c.toNat (0,0,0)).2.2).sum
theorem fW {α:Type} (f:α→D) {l:List α} (x:α) {i:Int} (h0:0 ≤ i) (h1:i < l.length):pAt (l.map f) i=some (f (l.getD i.toNat x)):=by
 have hk:i.toNat < l.length:=by omega
 obtain ⟨k,rfl⟩:∃ k:Nat,i=(k:Int):=⟨i.toNat,by omega⟩
 rw [lM,bf,aG]
 simp only [bJ] at hk ⊢
 rw [aO hk]
 rfl
theorem Bf {ws:List Wi} {cs:List Int} (h:∀ c ∈ cs,0 ≤ c∧c < ws.length):jW (gNl 0) (D3.gq) (dW (dOp gIx (dOp gIx (ao 1) (ao 0)) (dC (.int 2)))) [none,some (.d (.list (ws.map wiD)))] (cs.map .int)=some ((cs.map fun c=>(ws.getD c.toNat (0,0,0)).2.2).map .int):=by
 have C:=oH (g:=(gNl 0)) (c:=(D3.gq)) (e:=(dW (dOp gIx (dOp gIx (ao 1) (ao 0)) (dC (.int 2))))) (δ:=[none,some (.d (.list (ws.map wiD)))]) PyData.int (fun c=>.int (ws.getD c.toNat (0,0,0)).2.2) cs (fun c hc=>by
  refine ⟨[some (.d (.int c)),some (.d (.list (ws.map wiD)))],rfl,rfl,?_⟩
  simp only [EV,reduceIte,aq,aA,aj,ak,aB,aC,aD,fW wiD (0,0,0) (h c hc).1 (h c hc).2]
  unfold wiD
  simp only [EV,reduceIte,aq,aA,aj,ak,aB,aC,aD,at2])
 rw [C,bZ]
 rfl
theorem uP {ws:List Wi} {cs:List Int} (hl:cs.length ≤ 1000) (h:∀ c ∈ cs,0 ≤ c∧c < ws.length):dJ [.list (ws.map wiD),.list (cs.map .int)]=some (.int (xY ws cs)):=by
 have ca:∀ a b:Option U,jg 1 [0] [a,b]=[none,a]:=fun _ _=>rfl
 unfold dJ
 simp only [EV,reduceIte,aq,aA,aj,ak,aB,aC,aD,lMp,show cs.length ≤ 100000 by omega,ca,Bf h,wu]
 rfl
theorem xZ {w:Wi} {fs:List Int} (h:nR fs.length w):gh [wiD w,.list (fs.map .int)]=some (.bool true):=by
 obtain ⟨h1,h2,h3,h4,h5⟩:=h
 unfold gh wiD
 simp only [EV,reduceIte,aq,aA,aj,ak,aB,aC,aD,at0,at1,at2,lMp,dTr h1,dTr h2,dTr h3,dTr h4,dTr h5]
theorem kE {ws:List Wi} {fs:List Int} (h:∀ w ∈ ws,nR fs.length w):cY [.list (ws.map wiD),.list (fs.map .int)]=some .none:=by
 unfold cY
 simp only [EV,reduceIte,aq,aA,aj,ak,aB,aC,aD]
 obtain ⟨δ',e,x,y,rfl⟩:=oG (g:=(gTn 2 (bT (gNl 2) (bT (gNl 3) (gA))))) (b:=(sIf (D3.iI (aP (dCall gh (aF (ao 3) (aF (ao 1) (aM)))))) ((fun _=>none)) (dF))) (fun _ δ=>∃ x y,δ=[some (.d (.list (ws.map wiD))),some (.d (.list (fs.map .int))),x,y]) (mC (ws.map wiD))
  [some (.d (.list (ws.map wiD))),some (.d (.list (fs.map .int))),none,none] ⟨none,none,rfl⟩ (by
   rintro i d δ hd ⟨x,y,rfl⟩
   unfold mC at hd
   rw [gO,bf] at hd
   cases hw:ws[i]? with
   | none=>rw [hw] at hd;cases hd
   | some w =>
    rw [hw] at hd
    cases hd
    refine ⟨_,_,rfl,.inl ?_,some (.d (.int (i:Int))),some (.d (wiD w)),rfl⟩
    simp only [EV,reduceIte,aq,aA,aj,ak,aB,aC,aD,xZ (h w (gM hw))])
 rw [e]
 simp only [EV,reduceIte,aq,aA,aj,ak,aB,aC,aD]
noncomputable def Eu (x:Int):Int:=if x > 0 then x else 0
noncomputable def Hy (fs:List Int) (ps:List Pr):Int:=(ps.map fun p=>fs.getD p.1.toNat 0 * p.2).sum
noncomputable def Bg (ws:List Wi) (fs:List Int) (ps:List Pr):Int:=Hy fs ps + (ws.map fun w=>Eu (jz ps w)).sum
theorem Bh {fs:List Int} {ps:List Pr} (hf:∀ f ∈ fs,0 ≤ f∧f ≤ 12) (hp:∀ p ∈ ps,0 ≤ p.1∧p.1 < fs.length):jW (gTn 2 (bT (gNl 0) (bT (gNl 1) (gA)))) (D3.gq) (dOp kZ (dOp gIx (ao 2) (ao 0)) (ao 1)) [none,none,some (.d (.list (fs.map .int)))] (ps.map prD)=some ((ps.map fun p=>fs.getD p.1.toNat 0 * p.2).map .int):=by
 have C:=oH (g:=(gTn 2 (bT (gNl 0) (bT (gNl 1) (gA))))) (c:=(D3.gq)) (e:=(dOp kZ (dOp gIx (ao 2) (ao 0)) (ao 1))) (δ:=[none,none,some (.d (.list (fs.map .int)))]) prD (fun p=>.int (fs.getD p.1.toNat 0 * p.2)) ps (fun p h=>by
  refine ⟨[some (.d (.int p.1)),some (.d (.int p.2)),some (.d (.list (fs.map .int)))],rfl,rfl,?_⟩
  have hr:=hp p h
  have hk:p.1.toNat < fs.length:=by omega
  have hv:0 ≤ fs.getD p.1.toNat 0∧fs.getD p.1.toNat 0 ≤ 12:=by
   rw [aG,aO hk]
   exact hf _ (dZ hk)
  simp only [EV,reduceIte,aq,aA,aj,ak,aB,aC,aD,fW PyData.int 0 hr.1 hr.2]
  rw [mulL (by omega) (by omega)])
 rw [C,bZ]
 rfl
theorem Bj {ws:List Wi} {fs:List Int} {ps:List Pr} (wl:ws.length ≤ 1000) (pl:ps.length ≤ 1000) (hw:∀ w ∈ ws,nR fs.length w) (hf:∀ f ∈ fs,0 ≤ f∧f ≤ 12) (hp:∀ p ∈ ps,0 ≤ p.1∧p.1 < fs.length) :
 fB [.list (ws.map wiD),.list (fs.map .int),.list (ps.map prD)]=some (.int (Bg ws fs ps)):=by
 have C:=oH (g:=(gNl 0)) (c:=(D3.gq)) (e:=(dCall yV (aF (dC (.int 0)) (aF (dCall jH (aF (ao 0) (aF (ao 1) (aM)))) (aM))))) (δ:=[none,some (.d (.list (ps.map prD)))]) wiD (fun w=>.int (Eu (jz ps w))) ws (fun w h=>by
  refine ⟨[some (.d (wiD w)),some (.d (.list (ps.map prD)))],rfl,rfl,?_⟩
  simp only [EV,reduceIte,aq,aA,aj,ak,aB,aC,aD,wD pl]
  rfl)
 have ca:∀ a b c d:Option U,jg 2 [1] [a,b,c,d]=[none,none,b]:=fun _ _ _ _=>rfl
 have cb:∀ a b c d:Option U,jg 1 [2] [a,b,c,d]=[none,c]:=fun _ _ _ _=>rfl
 unfold fB
 simp only [EV,reduceIte,aq,aA,aj,ak,aB,aC,aD,kE hw,lMp,show ps.length ≤ 100000 by omega,show ws.length ≤ 100000 by omega,ca,cb,Bh hf hp,C,wu]
 rw [show (ws.map fun w=>PyData.int (Eu (jz ps w)))=(ws.map fun w=>Eu (jz ps w)).map .int by rw [bZ];rfl,wu]
 simp only [EV,reduceIte,aq,aA,aj,ak,aB,aC,aD]
 rfl
end Com
namespace Com
open PySem D3 My
noncomputable def hbN (n:Int) (s:Int × Int):Bool:=decide (s.1 ≤ n) && decide (n < s.2)
theorem zL (s:Pr) (n:Int):mX [prD s,.int n]=some (.bool (hbN n s)):=by
 unfold mX prD hbN
 by_cases c:s.1 ≤ n
 ·simp only [EV,reduceIte,aq,aA,aj,ak,aB,aC,aD,at0,at1,dTr c,pL]
 ·simp only [EV,reduceIte,aq,aA,aj,ak,aB,aC,aD,at0,at1,dFa c,lU]
theorem Di (s:Pr):flat (prD s)=true:=rfl
theorem zM {ss:List Pr} (hl:ss.length ≤ 1000) (n:Int):jT [.list (ss.map prD),.int n]=some (.int ((ss.filter (hbN n)).length:Int)):=by
 have C:=xU (g:=(gNl 0)) (c:=(aP (dCall mX (aF (ao 0) (aF (ao 1) (aM)))))) (e:=(dW (ao 0))) (δ:=[none,some (.d (.int n))]) prD (hbN n) prD ss (fun s _=>⟨[some (.d (prD s)),some (.d (.int n))],rfl,by simp only [EV,reduceIte,aq,aA,aj,ak,aB,aC,aD,zL],fun _=>by simp only [EV,reduceIte,aq,aA,aj,ak,aB,aC,aD,Di]⟩)
 have ca:∀ a b:Option U,jg 1 [1] [a,b]=[none,b]:=fun _ _=>rfl
 unfold jT
 simp only [EV,reduceIte,aq,aA,aj,ak,aB,aC,aD,lMp,show ss.length ≤ 100000 by omega,ca,C]
theorem yc (w:Wi):iT [wiD w]=some (prD (w.1,w.2.1)):=by
 unfold iT wiD
 simp only [EV,reduceIte,aq,aA,aj,ak,aB,aC,aD,at0,at1,sz (show 2 ≤ 1000000 by decide)]
 rfl
noncomputable def wat (ws:List Wi) (c:Int):Wi:=ws.getD c.toNat (0,0,0)
noncomputable def wn (w:Wi):Pr:=(w.1,w.2.1)
noncomputable def jC (ws:List Wi) (cs:List Int) (n:Int):Nat:=(cs.filter fun c=>hbN n (wn (wat ws c))).length
theorem rY {ws:List Wi} {cs:List Int} (hl:cs.length ≤ 1000) (h:∀ c ∈ cs,0 ≤ c∧c < ws.length) (n:Int):fD [.list (ws.map wiD),.list (cs.map .int),.int n]=some (.int (jC ws cs n:Int)):=by
 have C:=oH (g:=(gNl 0)) (c:=(D3.gq)) (e:=(dCall iT (aF (dOp gIx (ao 1) (ao 0)) (aM)))) (δ:=[none,some (.d (.list (ws.map wiD)))]) PyData.int (fun c=>prD (wn (wat ws c))) cs (fun c hc=>by
  refine ⟨[some (.d (.int c)),some (.d (.list (ws.map wiD)))],rfl,rfl,?_⟩
  simp only [EV,reduceIte,aq,aA,aj,ak,aB,aC,aD,fW wiD (0,0,0) (h c hc).1 (h c hc).2,yc]
  rfl)
 have ca:∀ a b c:Option U,jg 1 [0] [a,b,c]=[none,a]:=fun _ _ _=>rfl
 have cn:=zM (ss:=cs.map fun c=>wn (wat ws c)) (by rw [aU];exact hl) n
 rw [bZ] at cn
 unfold fD
 simp only [EV,reduceIte,aq,aA,aj,ak,aB,aC,aD,lMp,show cs.length ≤ 100000 by omega,ca,C]
 rw [show (cs.map fun c=>prD (wn (wat ws c)))=cs.map (prD ∘ fun c=>wn (wat ws c)) from rfl,cn]
 simp only [EV,reduceIte,aq,aA,aj,ak,aB,aC,aD]
 unfold jC
 rw [List.filter_map,aU]
 rfl
theorem Ew (fs:List Int):mC (fs.map .int)=(aZ fs.length).map fun k:Nat=>PyData.tuple [.int (k:Int),.int (fs.getD k 0)]:=by
 unfold mC
 apply ju
 intro i
 rw [gO,bf,bf]
 by_cases h:i < fs.length
 ·have e:fs.getD i 0=fs[i]:=by rw [aG,aO h];rfl
  rw [eY h,aO h,gH,gH,gH,e]
 ·rw [bK (by simpa using h),bK (by simpa using h)]
  rfl
end Com
namespace Be
structure Way where
 u:Nat
 v:Nat
 c:Int
 p:Option Nat
deriving DecidableEq
noncomputable abbrev Lb:=List (Option Int)
noncomputable abbrev Cm:=List (Option Way)
noncomputable def lb (l:Lb) (v:Nat):Option Int:=l.getD v none
noncomputable def cm (l:Cm) (v:Nat):Option Way:=l.getD v none
theorem Hz {l:Lb} {v z:Nat} {x:Option Int} (h:v < l.length):lb (l.set v x) z=if z=v then x else lb l z:=by
 unfold lb
 rw [aG,aG,j4]
 by_cases e:v=z
 ·subst e
  simp [h]
 ·rw [if_neg e,if_neg (fun q=>e q.symm)]
theorem PL {l:Cm} {v z:Nat} {x:Option Way} (h:v < l.length):cm (l.set v x) z=if z=v then x else cm l z:=by
 unfold cm
 rw [aG,aG,j4]
 by_cases e:v=z
 ·subst e
  simp [h]
 ·rw [if_neg e,if_neg (fun q=>e q.symm)]
noncomputable def Good (ws:List Way) (π:Nat→Int):Prop:=∀ w ∈ ws,π w.v ≤ π w.u + w.c
noncomputable def better (l:Lb) (w:Way):Bool:=match lb l w.u with
 | none=>false
 | some x=>match lb l w.v with
  | none=>true
  | some y=>decide (x + w.c < y)
noncomputable abbrev Stt:=Lb × Cm × Bool
noncomputable def relax (s:Stt) (w:Way):Stt :=
 if better s.1 w=true then (s.1.set w.v (some ((lb s.1 w.u).getD 0 + w.c)),s.2.1.set w.v (some w),true) else s
structure Iv (ws:List Way) (π:Nat→Int) (m:Int) (c0:Lb) (N:Nat) (l:Lb) (c:Cm) (st:Nat→Nat) (T:Nat):Prop where
 ll:l.length=N
 lc:c.length=N
 lo:∀ v y,lb l v=some y→π v + m ≤ y
 dn:∀ v y,lb c0 v=some y→∃ y',lb l v=some y'∧y' ≤ y
 pr:∀ v y,lb l v=some y→(cm c v=none∧lb c0 v=some y)∨∃ w ∈ ws,cm c v=some w∧w.v=v∧∃ x,lb l w.u=some x∧x + w.c ≤ y∧(x + w.c=y→st w.u < st v)
 sr:∀ v,lb c0 v=some (π v + m)→cm c v=none
 sT:∀ v,st v ≤ T
theorem uQ {l:Lb} {w:Way} (h:better l w=true):∃ x,lb l w.u=some x∧∀ y,lb l w.v=some y→x + w.c < y:=by
 unfold better at h
 cases e:lb l w.u with
 | none=>rw [e] at h;cases h
 | some x =>
  rw [e] at h
  refine ⟨x,rfl,fun y ey=>?_⟩
  rw [ey] at h
  exact of_decide_eq_true h
theorem rZ {l:Lb} {w:Way} {x:Int} (h:better l w=false) (e:lb l w.u=some x):∃ y,lb l w.v=some y∧y ≤ x + w.c:=by
 unfold better at h
 rw [e] at h
 cases q:lb l w.v with
 | none=>rw [q] at h;cases h
 | some y =>
  rw [q] at h
  refine ⟨y,rfl,?_⟩
  have:=of_decide_eq_false h
  omega
theorem zN {ws:List Way} {π:Nat→Int} {m:Int} {c0:Lb} {N:Nat} {l:Lb} {c:Cm} {st:Nat→Nat} {T:Nat} {w:Way} {b:Bool} (g:Good ws π) (hw:w ∈ ws) (rv:w.v < N) (I:Iv ws π m c0 N l c st T) :
 ∃ st' T',Iv ws π m c0 N (relax (l,c,b) w).1 (relax (l,c,b) w).2.1 st' T':=by
 unfold relax
 by_cases h:better l w=true
 ·rw [if_pos h]
  obtain ⟨x,ex,hx⟩:=uQ h
  have gw:=g w hw
  have lw:=I.lo _ _ ex
  have uv:w.u ≠ w.v:=fun e=>by
   have:=hx x (by rw [← e];exact ex)
   rw [e] at gw
   omega
  have SL:∀ z,lb (l.set w.v (some ((lb l w.u).getD 0 + w.c))) z=if z=w.v then some (x + w.c) else lb l z:=fun z=>by
   rw [Hz (by rw [I.ll];exact rv),ex]
   rfl
  have SC:∀ z,cm (c.set w.v (some w)) z=if z=w.v then some w else cm c z:=fun z=>PL (by rw [I.lc];exact rv)
  refine ⟨fun z=>if z=w.v then T + 1 else st z,T + 1,?_⟩
  show Iv ws π m c0 N (l.set w.v (some ((lb l w.u).getD 0 + w.c))) (c.set w.v (some w)) _ _
  refine ⟨by rw [bM,I.ll],by rw [bM,I.lc],fun v y h=>?_,fun v y h=>?_,fun v y h=>?_,fun v h=>?_,fun v=>?_⟩
  ·rw [SL v] at h
   split at h
   ·next e=>cases h;rw [e];omega
   ·exact I.lo v y h
  ·obtain ⟨y',e',q⟩:=I.dn v y h
   rw [SL v]
   split
   ·next e =>
    have:=hx y' (by rw [← e];exact e')
    exact ⟨_,rfl,by omega⟩
   ·exact ⟨y',e',q⟩
  ·rw [SL v] at h
   by_cases e:v=w.v
   ·rw [if_pos e] at h
    cases h
    right
    refine ⟨w,hw,by rw [SC v,if_pos e],e.symm,x,by rw [SL,if_neg uv];exact ex,iK _,fun _=>?_⟩
    simp only [e,if_true,if_neg uv]
    have:=I.sT w.u
    omega
   ·rw [if_neg e] at h
    rcases I.pr v y h with ⟨q1,q2⟩ | ⟨w',hw',q1,q2,x',q3,q4,q5⟩
    ·left
     exact ⟨by rw [SC v,if_neg e];exact q1,q2⟩
    ·right
     refine ⟨w',hw',by rw [SC v,if_neg e];exact q1,q2,?_⟩
     by_cases e':w'.u=w.v
     ·have:=hx x' (by rw [← e'];exact q3)
      refine ⟨x + w.c,by rw [SL,if_pos e'],by omega,fun z=>by omega⟩
     ·refine ⟨x',by rw [SL,if_neg e'];exact q3,q4,fun z=>?_⟩
      simp only [if_neg e,if_neg e']
      exact q5 z
  ·rw [SC v]
   split
   ·next e =>
    obtain ⟨y',e',q⟩:=I.dn v _ h
    have:=hx y' (by rw [← e];exact e')
    rw [e] at q
    omega
   ·exact I.sr v h
  ·have:=I.sT v
   show (if v=w.v then T + 1 else st v) ≤ T + 1
   split <;> omega
 ·rw [if_neg h]
  exact ⟨st,T,I⟩
theorem Dj {ws:List Way} {π:Nat→Int} {m:Int} {c0:Lb} {N:Nat} (g:Good ws π) (rg:∀ w ∈ ws,w.v < N):∀ (vs:List Way),(∀ w ∈ vs,w ∈ ws)→∀ (s:Stt) (st:Nat→Nat) (T:Nat),Iv ws π m c0 N s.1 s.2.1 st T→∃ st' T',Iv ws π m c0 N (vs.foldl relax s).1 (vs.foldl relax s).2.1 st' T'
 | [],_,s,st,T,I=>⟨st,T,I⟩
 | w :: r,h,s,st,T,I=>by
  rw [jc]
  obtain ⟨l,c,b⟩:=s
  obtain ⟨st',T',I'⟩:=zN (b:=b) g (h w (aN ..)) (rg w (h w (aN ..))) I
  exact Dj g rg r (fun w hw=>h w (aJ _ hw)) _ st' T' I'
theorem Bm {s:Stt} {w:Way} (h:s.2.2=true):(relax s w).2.2=true:=by
 unfold relax
 split
 ·rfl
 ·exact h
theorem wF:∀ (vs:List Way) (s:Stt),s.2.2=true→(vs.foldl relax s).2.2=true
 | [],_,h=>h
 | w :: r,s,h=>by rw [jc];exact wF r _ (Bm h)
theorem qe:∀ (vs:List Way) (s:Stt),(vs.foldl relax s).2.2=false→vs.foldl relax s=s∧∀ w ∈ vs,better s.1 w=false
 | [],s,_=>⟨rfl,fun _ h=>by cases h⟩
 | w :: r,s,h=>by
  rw [jc] at h ⊢
  by_cases b:better s.1 w=true
  ·have:(relax s w).2.2=true:=by unfold relax;rw [if_pos b]
   rw [wF r _ this] at h
   cases h
  ·have e:relax s w=s:=by unfold relax;rw [if_neg b]
   rw [e] at h ⊢
   obtain ⟨h1,h2⟩:=qe r s h
   refine ⟨h1,fun z hz=>?_⟩
   rcases bQ.mp hz with rfl | hz
   ·simpa using b
   ·exact h2 z hz
noncomputable def nn:Lb→Nat
 | []=>0
 | none :: r=>nn r + 1
 | some _ :: r=>nn r
noncomputable def sm (f:Nat→Int):Nat→Lb→Nat
 | _,[]=>0
 | k,none :: r=>sm f (k + 1) r
 | k,some y :: r=>(y - f k).toNat + sm f (k + 1) r
theorem yd:∀ {l:Lb} {v:Nat} {y:Int},v < l.length→lb l v=none→nn (l.set v (some y)) < nn l
 | [],_,_,h,_=>by simp at h
 | none :: r,0,y,_,_=>by simp [nn]
 | some x :: r,0,y,_,e=>by simp [lb] at e
 | none :: r,v + 1,y,h,e=>by
  have:=yd (l:=r) (v:=v) (y:=y) (by simpa using h) (by simpa [lb] using e)
  simp [nn];omega
 | some x :: r,v + 1,y,h,e=>by
  have:=yd (l:=r) (v:=v) (y:=y) (by simpa using h) (by simpa [lb] using e)
  simp [nn];omega
theorem yg:∀ {l:Lb} {v:Nat} {x y:Int},lb l v=some x→nn (l.set v (some y))=nn l
 | [],_,_,_,e=>by simp [lb] at e
 | none :: r,0,_,y,e=>by simp [lb] at e
 | some x :: r,0,_,y,e=>by simp [nn]
 | none :: r,v + 1,x,y,e=>by
  have:=yg (l:=r) (v:=v) (x:=x) (y:=y) (by simpa [lb] using e)
  simp [nn];omega
 | some x :: r,v + 1,_,y,e=>by
  have:=yg (l:=r) (v:=v) (y:=y) (by simpa [lb] using e)
  simp [nn];omega
theorem yh (f:Nat→Int):∀ {l:Lb} {k v:Nat} {x y:Int},lb l v=some x→y < x→f (k + v) ≤ y→sm f k (l.set v (some y)) < sm f k l
 | [],_,_,_,_,e,_,_=>by simp [lb] at e
 | none :: r,_,0,_,y,e,_,_=>by simp [lb] at e
 | some z :: r,k,0,x,y,e,h,h2=>by
  have:z=x:=by simpa [lb] using e
  subst this
  simp only [pW,sm]
  rw [Nat.add_zero] at h2
  omega
 | none :: r,k,v + 1,x,y,e,h,h2=>by
  have:=yh f (l:=r) (k:=k + 1) (v:=v) (x:=x) (y:=y) (by simpa [lb] using e) h (by rw [show k + 1 + v=k + (v + 1) by omega];exact h2)
  simp only [lX,sm]
  omega
 | some z :: r,k,v + 1,x,y,e,h,h2=>by
  have:=yh f (l:=r) (k:=k + 1) (v:=v) (x:=x) (y:=y) (by simpa [lb] using e) h (by rw [show k + 1 + v=k + (v + 1) by omega];exact h2)
  simp only [lX,sm]
  omega
noncomputable def lex (a b:Nat × Nat):Prop:=a.1 < b.1∨(a.1=b.1∧a.2 < b.2)
noncomputable def Ey (a b:Nat × Nat):Prop:=a=b∨lex a b
theorem lex_trans {a b c:Nat × Nat} (h:lex a b) (h':Ey b c):lex a c:=by
 rcases h' with rfl | h'
 ·exact h
 ·unfold lex at *;omega
theorem uR {a b c:Nat × Nat} (h:Ey a b) (h':Ey b c):Ey a c:=by
 rcases h with rfl | h
 ·exact h'
 ·exact .inr (lex_trans h h')
theorem KC {a:Nat × Nat} (h:lex a a):False:=by unfold lex at h;omega
theorem Dk {P:Nat × Nat→Prop} (h:∀ a,(∀ b,lex b a→P b)→P a):∀ a,P a:=by
 have:∀ k,∀ j,P (k,j):=by
  intro k
  induction k using Nat.strongRecOn with
  | ind k ih =>
   intro j
   induction j using Nat.strongRecOn with
   | ind j jh =>
    refine h _ fun b hb=>?_
    obtain ⟨b1,b2⟩:=b
    rcases hb with q | ⟨q1,q2⟩
    ·exact ih b1 q b2
    ·simp only at q1 q2
     subst q1
     exact jh b2 q2
 exact fun a=>this a.1 a.2
noncomputable def mu (π:Nat→Int) (m:Int) (l:Lb):Nat × Nat:=(nn l,sm (fun v=>π v + m) 0 l)
theorem HB {ws:List Way} {π:Nat→Int} {m:Int} {c0:Lb} {N:Nat} {l:Lb} {c:Cm} {st:Nat→Nat} {T:Nat} {w:Way} {b:Bool} (g:Good ws π) (hw:w ∈ ws) (rv:w.v < N) (I:Iv ws π m c0 N l c st T) :
 (better l w=true∧lex (mu π m (relax (l,c,b) w).1) (mu π m l))∨relax (l,c,b) w=(l,c,b):=by
 unfold relax
 by_cases h:better l w=true
 ·left
  rw [if_pos h]
  refine ⟨h,?_⟩
  obtain ⟨x,ex,hx⟩:=uQ h
  have gw:=g w hw
  have lw:=I.lo _ _ ex
  show lex (mu π m (l.set w.v (some ((lb l w.u).getD 0 + w.c)))) (mu π m l)
  rw [ex]
  cases q:lb l w.v with
  | none=>exact .inl (yd (by rw [I.ll];exact rv) q)
  | some y =>
   right
   refine ⟨yg q,?_⟩
   refine yh _ q (hx y q) ?_
   rw [gQ]
   show π w.v + m ≤ x + w.c
   omega
 ·right
  rw [if_neg h]
theorem Dm {ws:List Way} {π:Nat→Int} {m:Int} {c0:Lb} {N:Nat} (g:Good ws π) (rg:∀ w ∈ ws,w.v < N):∀ (vs:List Way),(∀ w ∈ vs,w ∈ ws)→∀ (s:Stt) (st:Nat→Nat) (T:Nat),Iv ws π m c0 N s.1 s.2.1 st T →
 Ey (mu π m (vs.foldl relax s).1) (mu π m s.1)∧(s.2.2=false→(vs.foldl relax s).2.2=true→lex (mu π m (vs.foldl relax s).1) (mu π m s.1))
 | [],_,s,st,T,I=>⟨.inl rfl,fun a b=>by rw [List.foldl_nil,a] at b;cases b⟩
 | w :: r,h,s,st,T,I=>by
  obtain ⟨l,c,b⟩:=s
  have hw:=h w (aN ..)
  obtain ⟨st',T',I'⟩:=zN (b:=b) g hw (rg w hw) I
  have R:=Dm g rg r (fun w hw=>h w (aJ _ hw)) _ st' T' I'
  rw [jc]
  rcases HB (b:=b) g hw (rg w hw) I with ⟨_,q⟩ | q
  ·exact ⟨uR R.1 (.inr q),fun _ _=>by
    rcases R.1 with e | e
    ·rw [e];exact q
    ·exact lex_trans e (.inr q)⟩
  ·rw [q] at R ⊢
   exact R
structure Fi (ws:List Way) (c0:Lb) (N:Nat) (l:Lb) (c:Cm):Prop where
 tri:∀ w ∈ ws,∀ x,lb l w.u=some x→∃ y,lb l w.v=some y∧y ≤ x + w.c
theorem tight {ws:List Way} {π:Nat→Int} {m:Int} {c0:Lb} {N:Nat} {l:Lb} {c:Cm} {st:Nat→Nat} {T:Nat} (I:Iv ws π m c0 N l c st T) (F:∀ w ∈ ws,better l w=false) {v:Nat} {y:Int} (h:lb l v=some y) :
 (cm c v=none∧lb c0 v=some y)∨∃ w ∈ ws,cm c v=some w∧w.v=v∧∃ x,lb l w.u=some x∧x + w.c=y∧st w.u < st v:=by
 rcases I.pr v y h with q | ⟨w,hw,q1,q2,x,q3,q4,q5⟩
 ·exact .inl q
 ·obtain ⟨y',e,le⟩:=rZ (F w hw) q3
  rw [q2,h] at e
  cases e
  exact .inr ⟨w,hw,q1,q2,x,q3,by omega,q5 (by omega)⟩
inductive PathTo (c:Cm) (b:Nat):Nat→List Way→Prop
 | nil:PathTo c b b []
 | cons {v:Nat} {w:Way} {P:List Way}:v ≠ b→cm c v=some w→w.v=v→PathTo c b w.u P→PathTo c b v (w :: P)
theorem KD {ws:List Way} {π:Nat→Int} {m:Int} {c0:Lb} {N:Nat} {l:Lb} {c:Cm} {st:Nat→Nat} {T:Nat} {b:Nat} (g:Good ws π) (I:Iv ws π m c0 N l c st T) (F:∀ w ∈ ws,better l w=false) (hb:∀ v y,lb c0 v=some y→v=b) :
 ∀ (a:Nat × Nat) (v:Nat) (y:Int),lb l v=some y→((y - π v - m).toNat,st v)=a→∃ P,PathTo c b v P∧(P.map (·.v)).Nodup∧∀ w ∈ P,w ∈ ws∧∃ x z,lb l w.u=some x∧lb l w.v=some z∧x + w.c=z∧Ey ((z - π w.v - m).toNat,st w.v) a:=by
 refine Dk fun a ih v y h e=>?_
 rcases tight I F h with ⟨q1,q2⟩ | ⟨w,hw,q1,q2,x,q3,q4,q5⟩
 ·have:=hb v y q2
  subst this
  exact ⟨[],.nil,.nil,fun w h=>by cases h⟩
 ·have gw:=g w hw
  have l1:=I.lo _ _ q3
  have l2:=I.lo _ _ h
  rw [q2] at gw
  have L:lex ((x - π w.u - m).toNat,st w.u) a:=by
   rw [← e]
   unfold lex
   simp only
   by_cases z:(x - π w.u - m).toNat < (y - π v - m).toNat
   ·exact .inl z
   ·exact .inr ⟨by omega,q5⟩
  by_cases vb:v=b
  ·subst vb
   exact ⟨[],.nil,.nil,fun w h=>by cases h⟩
  obtain ⟨P,p1,p2,p3⟩:=ih _ L w.u x q3 rfl
  refine ⟨w :: P,.cons vb q1 q2 p1,?_,fun w' hw'=>?_⟩
  ·rw [bx,cG]
   refine ⟨fun z=>?_,p2⟩
   obtain ⟨w',hw',ev⟩:=cN.mp z
   obtain ⟨_,x',z',e1,e2,e3,le⟩:=p3 w' hw'
   rw [show w'.v=v by rw [ev,q2]] at e2 le
   rw [h] at e2
   cases e2
   rw [e] at le
   exact KC (lex_trans L le)
  ·rcases bQ.mp hw' with rfl | hw'
   ·exact ⟨hw,x,y,q3,by rw [q2];exact h,q4,.inl (by rw [q2];exact e)⟩
   ·obtain ⟨h1,x',z',e1,e2,e3,le⟩:=p3 w' hw'
    exact ⟨h1,x',z',e1,e2,e3,uR le (.inr L)⟩
noncomputable def S (f:Nat→Int):Nat→Int
 | 0=>0
 | k + 1=>S f k + f k
theorem fP {f g:Nat→Int}:∀ {k:Nat},(∀ i,i < k→f i=g i)→S f k=S g k
 | 0,_=>rfl
 | k + 1,h=>by rw [S,S,fP (fun i hi=>h i (by omega)),h k (by omega)]
theorem wG (f g:Nat→Int):∀ k,S (fun i=>f i + g i) k=S f k + S g k
 | 0=>rfl
 | k + 1=>by rw [S,S,S,wG f g k];omega
theorem qg:∀ k,S (fun _=>0) k=0
 | 0=>rfl
 | k + 1=>by rw [S,qg k];rfl
theorem Sv {f g:Nat→Int}:∀ {k:Nat},(∀ i,i < k→f i ≤ g i)→S f k ≤ S g k
 | 0,_=>iK _
 | k + 1,h=>by
  have:=Sv (f:=f) (g:=g) (k:=k) (fun i hi=>h i (by omega))
  have:=h k (by omega)
  rw [S,S];omega
theorem LK {f:Nat→Int} {a:Nat}:∀ {k:Nat},a < k→S (fun i=>if i=a then f i else 0) k=f a
 | 0,h=>by omega
 | k + 1,h=>by
  rw [S]
  by_cases e:a=k
  ·subst e
   rw [if_pos rfl,fP (g:=fun _=>0) (fun i hi=>if_neg (by omega)),qg]
   omega
  ·rw [if_neg (by omega),LK (by omega)]
   omega
theorem zO {f:Nat→Int} {k:Nat}:∀ {l:List Nat},l.Nodup→(∀ i ∈ l,i < k)→(l.map f).sum=S (fun i=>if i ∈ l then f i else 0) k
 | [],_,_=>by
  rw [fP (g:=fun _=>0) (fun i _=>by simp),qg]
  rfl
 | a :: r,h,q=>by
  rw [cG] at h
  rw [bx,cC,zO h.2 (fun i hi=>q i (aJ _ hi)),← LK (f:=f) (q a (aN ..)),← wG]
  refine fP fun i _=>?_
  by_cases e:i=a
  ·subst e
   rw [if_pos rfl,if_neg h.1,if_pos (aN ..)]
   omega
  ·rw [if_neg e]
   by_cases m:i ∈ r
   ·rw [if_pos m,if_pos (aJ _ m)];omega
   ·rw [if_neg m,if_neg (by rw [bQ];exact fun z=>z.elim e m)];omega
noncomputable abbrev Wi:=Int × Int × Int
structure WiOk (N:Nat) (w:Wi):Prop where
 f:0 ≤ w.1
 b:w.1 < w.2.1
 n:w.2.1 ≤ N
 w:0 ≤ w.2.2
noncomputable def cov (w:Wi) (n:Nat):Int:=if w.1 ≤ (n:Int)∧(n:Int) < w.2.1 then 1 else 0
noncomputable def held (wi:Nat→Wi) (ch:List Nat) (n:Nat):Int:=(ch.map fun i=>cov (wi i) n).sum
noncomputable def fG (wi:Nat→Wi) (ch:List Nat) (i:Nat):Way:=if i ∈ ch then ⟨(wi i).2.1.toNat,(wi i).1.toNat,(wi i).2.2,some i⟩ else ⟨(wi i).1.toNat,(wi i).2.1.toNat,-(wi i).2.2,some i⟩
noncomputable def onw (n:Nat):Way:=⟨n,n + 1,0,none⟩
noncomputable def bck (n:Nat):Way:=⟨n + 1,n,0,none⟩
noncomputable def gF (wi:Nat→Wi) (fr:Nat→Int) (N:Nat) (ch:List Nat) (k:Nat):List Way :=
 (aZ N).map onw++(((aZ N).filter fun n=>decide (held wi ch n < fr n)).reverse.map bck)++(aZ k).map (fG wi ch)
theorem eG {wi:Nat→Wi} {fr:Nat→Int} {N:Nat} {ch:List Nat} {k:Nat} {w:Way}:w ∈ gF wi fr N ch k↔(∃ n,n < N∧w=onw n)∨(∃ n,n < N∧held wi ch n < fr n∧w=bck n)∨∃ i,i < k∧w=fG wi ch i:=by
 unfold gF
 rw [cV,cV,cN,cN,cN,or_assoc]
 constructor
 ·rintro (⟨n,h,rfl⟩ | ⟨n,h,rfl⟩ | ⟨i,h,rfl⟩)
  ·exact .inl ⟨n,bI.mp h,rfl⟩
  ·rw [List.mem_reverse,gG,decide_eq_true_eq] at h
   exact .inr (.inl ⟨n,bI.mp h.1,h.2,rfl⟩)
  ·exact .inr (.inr ⟨i,bI.mp h,rfl⟩)
 ·rintro (⟨n,h,rfl⟩ | ⟨n,h,q,rfl⟩ | ⟨i,h,rfl⟩)
  ·exact .inl ⟨n,bI.mpr h,rfl⟩
  ·exact .inr (.inl ⟨n,by rw [List.mem_reverse,gG,decide_eq_true_eq];exact ⟨bI.mpr h,q⟩,rfl⟩)
  ·exact .inr (.inr ⟨i,bI.mpr h,rfl⟩)
theorem uf {wi:Nat→Wi} {fr:Nat→Int} {N:Nat} {ch:List Nat} {k:Nat} (h:∀ i,i < k→WiOk N (wi i)) {w:Way} (hw:w ∈ gF wi fr N ch k):w.u < N + 1∧w.v < N + 1:=by
 rcases eG.mp hw with ⟨n,q,rfl⟩ | ⟨n,q,_,rfl⟩ | ⟨i,q,rfl⟩
 ·exact ⟨by show n < N + 1;omega,by show n + 1 < N + 1;omega⟩
 ·exact ⟨by show n + 1 < N + 1;omega,by show n < N + 1;omega⟩
 ·have o:=h i q
  have:=o.f;have:=o.b;have:=o.n
  unfold fG
  split
  ·exact ⟨by show (wi i).2.1.toNat < N + 1;omega,by show (wi i).1.toNat < N + 1;omega⟩
  ·exact ⟨by show (wi i).1.toNat < N + 1;omega,by show (wi i).2.1.toNat < N + 1;omega⟩
theorem uT (f:Way→Int):∀ ws:List Way,∃ B:Int,∀ w ∈ ws,f w ≤ B
 | []=>⟨0,fun _ h=>by cases h⟩
 | w :: r=>by
  obtain ⟨B,h⟩:=uT f r
  refine ⟨max B (f w),fun z hz=>?_⟩
  rcases bQ.mp hz with rfl | hz
  ·omega
  ·have:=h z hz;omega
noncomputable def npi (l:Lb) (π:Nat→Int) (B:Int) (v:Nat):Int:=match lb l v with
 | some y=>y
 | none=>π v + B
theorem iH {l:Lb} {π:Nat→Int} {B:Int} {v:Nat} {y:Int} (h:lb l v=some y):npi l π B v=y:=by unfold npi;rw [h]
theorem uU {l:Lb} {π:Nat→Int} {B:Int} {v:Nat} (h:lb l v=none):npi l π B v=π v + B:=by unfold npi;rw [h]
theorem zP {ws:List Way} {π:Nat→Int} {l:Lb} (g:Good ws π) (F:∀ w ∈ ws,better l w=false):∃ B0,∀ B,B0 ≤ B→Good ws (npi l π B):=by
 obtain ⟨B0,h⟩:=uT (fun w=>(lb l w.v).getD 0 - π w.u - w.c) ws
 refine ⟨B0,fun B hB w hw=>?_⟩
 have gw:=g w hw
 cases eu:lb l w.u with
 | some x =>
  obtain ⟨y,ey,le⟩:=rZ (F w hw) eu
  rw [iH eu,iH ey]
  exact le
 | none =>
  rw [uU eu]
  cases ev:lb l w.v with
  | some y =>
   rw [iH ev]
   have:=h w hw
   simp only [ev,Option.getD_some] at this
   omega
  | none =>
   rw [uU ev]
   omega
noncomputable def sx (n x:Nat):Int:=if n < x then 1 else 0
noncomputable def chi (n:Nat) (w:Way):Int:=sx n w.v - sx n w.u
theorem HD {c:Cm} {b n:Nat}:∀ {v:Nat} {P:List Way},PathTo c b v P→(P.map (chi n)).sum=sx n v - sx n b:=by
 intro v P h
 induction h with
 | nil=>simp
 | cons h1 h2 h3 h4 ih =>
  rw [bx,cC,ih]
  unfold chi
  rw [h3]
  omega
theorem yj (n j:Nat):chi n (onw j)=if j=n then 1 else 0:=by
 show (if n < j + 1 then (1:Int) else 0) - (if n < j then 1 else 0)=_
 split <;> split <;> split <;> omega
theorem yp (n j:Nat):chi n (bck j)=if j=n then -1 else 0:=by
 show (if n < j then (1:Int) else 0) - (if n < j + 1 then 1 else 0)=_
 split <;> split <;> split <;> omega
theorem KH {wi:Nat→Wi} {ch:List Nat} {i n N:Nat} (o:WiOk N (wi i)):chi n (fG wi ch i)=if i ∈ ch then -cov (wi i) n else cov (wi i) n:=by
 have:=o.f;have:=o.b
 unfold fG cov
 split
 ·show (if n < (wi i).1.toNat then (1:Int) else 0) - (if n < (wi i).2.1.toNat then 1 else 0)=_
  split <;> split <;> split <;> omega
 ·show (if n < (wi i).2.1.toNat then (1:Int) else 0) - (if n < (wi i).1.toNat then 1 else 0)=_
  split <;> split <;> split <;> omega
noncomputable def noP (P:List Way):List Way:=P.filter fun w=>w.p.isNone
noncomputable def plc (P:List Way):List Nat:=P.filterMap (·.p)
theorem wH (n:Nat) (f:Nat→Int):∀ P:List Way,(∀ w ∈ P,∀ i,w.p=some i→chi n w=f i)→(P.map (chi n)).sum=((plc P).map f).sum + ((noP P).map (chi n)).sum
 | [],_=>rfl
 | w :: r,h=>by
  have ih:=wH n f r (fun z hz=>h z (aJ _ hz))
  rw [bx,cC,ih]
  cases e:w.p with
  | none =>
   rw [show plc (w :: r)=plc r by unfold plc;rw [jK e],show noP (w :: r)=w :: noP r by unfold noP;rw [iB (by rw [e];rfl)],bx,cC]
   omega
  | some i =>
   rw [show plc (w :: r)=i :: plc r by unfold plc;rw [jL e],show noP (w :: r)=noP r by unfold noP;rw [iD (by rw [e];simp)],bx,cC,h w (aN ..) i e]
   omega
theorem Bo (n:Nat):∀ Q:List Way,(∀ w ∈ Q,∃ j,w=onw j∨w=bck j)→bck n ∉ Q→0 ≤ (Q.map (chi n)).sum
 | [],_,_=>iK _
 | w :: r,h,q=>by
  have ih:=Bo n r (fun z hz=>h z (aJ _ hz)) (fun z=>q (aJ _ z))
  rw [bx,cC]
  obtain ⟨j,rfl | rfl⟩:=h w (aN ..)
  ·rw [yj];split <;> omega
  ·rw [yp,if_neg (fun e=>q (by rw [e];exact aN ..))];omega
theorem HJ (n:Nat):∀ Q:List Way,(∀ w ∈ Q,∃ j,w=onw j∨w=bck j)→onw n ∉ Q→(Q.map (chi n)).sum ≤ 0
 | [],_,_=>iK _
 | w :: r,h,q=>by
  have ih:=HJ n r (fun z hz=>h z (aJ _ hz)) (fun z=>q (aJ _ z))
  rw [bx,cC]
  obtain ⟨j,rfl | rfl⟩:=h w (aN ..)
  ·rw [yj,if_neg (fun e=>q (by rw [e];exact aN ..))];omega
  ·rw [yp];split <;> omega
theorem HN (n:Nat):∀ Q:List Way,(∀ w ∈ Q,∃ j,w=onw j∨w=bck j)→(Q.map (·.v)).Nodup→-1 ≤ (Q.map (chi n)).sum
 | [],_,_=>by show (-1:Int) ≤ 0;decide
 | w :: r,h,q=>by
  rw [bx,cG] at q
  have ih:=HN n r (fun z hz=>h z (aJ _ hz)) q.2
  rw [bx,cC]
  obtain ⟨j,rfl | rfl⟩:=h w (aN ..)
  ·rw [yj];split <;> omega
  ·rw [yp]
   split
   ·next e =>
    subst e
    have:=Bo j r (fun z hz=>h z (aJ _ hz)) (fun z=>q.1 (cN.mpr ⟨_,z,rfl⟩))
    omega
   ·omega
theorem yq {P:List Way} {i:Nat}:i ∈ plc P↔∃ w ∈ P,w.p=some i:=by
 unfold plc
 rw [lW]
theorem wI {W:Nat→Way}:∀ {P:List Way},(P.map (·.v)).Nodup→(∀ w ∈ P,∀ i,w.p=some i→w=W i)→(plc P).Nodup
 | [],_,_=>List.nodup_nil
 | w :: r,h,q=>by
  rw [bx,cG] at h
  have ih:=wI (W:=W) h.2 (fun z hz=>q z (aJ _ hz))
  cases e:w.p with
  | none=>rw [show plc (w :: r)=plc r by unfold plc;rw [jK e]];exact ih
  | some i =>
   rw [show plc (w :: r)=i :: plc r by unfold plc;rw [jL e],cG]
   refine ⟨fun z=>?_,ih⟩
   obtain ⟨w',hw',e'⟩:=yq.mp z
   have a1:=q w (aN ..) i e
   have a2:=q w' (aJ _ hw') i e'
   exact h.1 (cN.mpr ⟨w',hw',by rw [a2,a1]⟩)
structure ChOk (wi:Nat→Wi) (fr:Nat→Int) (N:Nat) (ch:List Nat) (k:Nat):Prop where
 nd:ch.Nodup
 lt:∀ i ∈ ch,i < k
 fit:∀ n,n < N→held wi ch n ≤ fr n
noncomputable def nch (ch P:List Nat) (k:Nat):List Nat:=(aZ (k + 1)).filter fun i=>(decide (i ∈ ch)) != (decide (i ∈ P++[k]))
theorem yr {wi:Nat→Wi} {ch:List Nat} {k n:Nat} (nd:ch.Nodup) (lt:∀ i ∈ ch,i < k):held wi ch n=S (fun i=>if i ∈ ch then cov (wi i) n else 0) k:=zO nd lt
section
variable {wi:Nat→Wi} {fr:Nat→Int} {N k:Nat} {ch:List Nat} {π:Nat→Int} {l:Lb} {c:Cm} {st:Nat→Nat} {T:Nat}
theorem Ez (ok:ChOk wi fr N ch k) (g:Good (gF wi fr N ch k) π) (F:∀ w ∈ gF wi fr N ch k,better l w=false) (hb:lb l (wi k).2.1.toNat=some 0) (ha:∀ y,lb l (wi k).1.toNat=some y→(wi k).2.2 ≤ y) :
 ChOk wi fr N ch (k + 1)∧∃ π',Good (gF wi fr N ch (k + 1)) π':=by
 refine ⟨⟨ok.nd,fun i hi=>by have:=ok.lt i hi;omega,ok.fit⟩,?_⟩
 obtain ⟨B0,h⟩:=zP g F
 refine ⟨npi l π (max B0 ((wi k).2.2 - π (wi k).1.toNat)),fun w hw=>?_⟩
 have G:=h (max B0 ((wi k).2.2 - π (wi k).1.toNat)) (by omega)
 rcases eG.mp hw with ⟨n,q,rfl⟩ | ⟨n,q,q2,rfl⟩ | ⟨i,q,rfl⟩
 ·exact G _ (eG.mpr (.inl ⟨n,q,rfl⟩))
 ·exact G _ (eG.mpr (.inr (.inl ⟨n,q,q2,rfl⟩)))
 ·by_cases e:i=k
  ·subst e
   have ni:i ∉ ch:=fun z=>by have:=ok.lt i z;omega
   unfold fG
   rw [if_neg ni]
   show npi l π _ (wi i).2.1.toNat ≤ npi l π _ (wi i).1.toNat + -(wi i).2.2
   rw [iH hb]
   cases ea:lb l (wi i).1.toNat with
   | some y=>rw [iH ea];have:=ha y ea;omega
   | none=>rw [uU ea];omega
  ·exact G _ (eG.mpr (.inr (.inr ⟨i,by omega,rfl⟩)))
theorem EY (ho:∀ i,i < k + 1→WiOk N (wi i)) (ok:ChOk wi fr N ch k) (g:Good (gF wi fr N ch k) π) (F:∀ w ∈ gF wi fr N ch k,better l w=false) (hb:lb l (wi k).2.1.toNat=some 0) {y:Int} (ha:lb l (wi k).1.toNat=some y) (hy:y < (wi k).2.2)
 {P:List Way} (hP:PathTo c (wi k).2.1.toNat (wi k).1.toNat P) (nd:(P.map (·.v)).Nodup) (hw:∀ w ∈ P,w ∈ gF wi fr N ch k∧∃ x z,lb l w.u=some x∧lb l w.v=some z∧x + w.c=z) :
 ChOk wi fr N (nch ch (plc P) k) (k + 1)∧∃ π',Good (gF wi fr N (nch ch (plc P) k) (k + 1)) π':=by
 have hp:∀ w ∈ P,∀ i,w.p=some i→i < k∧w=fG wi ch i:=fun w hm i e=>by
  rcases eG.mp (hw w hm).1 with ⟨n,q,rfl⟩ | ⟨n,q,q2,rfl⟩ | ⟨j,q,rfl⟩
  ·cases e
  ·cases e
  ·have:(fG wi ch j).p=some j:=by unfold fG;split <;> rfl
   rw [this] at e
   cases e
   exact ⟨q,rfl⟩
 have pn:(plc P).Nodup:=wI nd (fun w hm i e=>(hp w hm i e).2)
 have pl:∀ i ∈ plc P,i < k:=fun i hi=>by
  obtain ⟨w,hm,e⟩:=yq.mp hi
  exact (hp w hm i e).1
 have kc:k ∉ ch:=fun z=>by have:=ok.lt k z;omega
 have nmem:∀ i,i ∈ nch ch (plc P) k↔i < k + 1∧((i ∈ ch∧¬ (i ∈ plc P∨i=k))∨(i ∉ ch∧(i ∈ plc P∨i=k))):=fun i=>by
  unfold nch
  rw [gG,bI,bne_iff_ne]
  refine and_congr_right fun _=>?_
  have mm:(i ∈ plc P++[k])↔(i ∈ plc P∨i=k):=by rw [cV,bW]
  rw [← mm]
  by_cases a:i ∈ ch <;> by_cases b:i ∈ plc P++[k]
  ·rw [dTr a,dTr b]
   exact ⟨fun h=>absurd rfl h,fun h=>by rcases h with q | q;exact absurd b q.2;exact absurd a q.1⟩
  ·rw [dTr a,dFa b]
   exact ⟨fun _=>.inl ⟨a,b⟩,fun _=>by decide⟩
  ·rw [dFa a,dTr b]
   exact ⟨fun _=>.inr ⟨a,b⟩,fun _=>by decide⟩
  ·rw [dFa a,dFa b]
   exact ⟨fun h=>absurd rfl h,fun h=>by rcases h with q | q;exact absurd q.1 a;exact absurd q.2 b⟩
 have nnd:(nch ch (plc P) k).Nodup:=List.Pairwise.filter _ List.nodup_range
 have ok':=ho k (by omega)
 have nq:∀ w ∈ noP P,w ∈ P∧∃ j,w=onw j∨w=bck j:=fun w hm=>by
  unfold noP at hm
  rw [gG] at hm
  refine ⟨hm.1,?_⟩
  rcases eG.mp (hw w hm.1).1 with ⟨n,q,rfl⟩ | ⟨n,q,q2,rfl⟩ | ⟨j,q,rfl⟩
  ·exact ⟨n,.inl rfl⟩
  ·exact ⟨n,.inr rfl⟩
  ·have:(fG wi ch j).p=some j:=by unfold fG;split <;> rfl
   rw [this] at hm
   cases hm.2
 have ndn:((noP P).map (·.v)).Nodup:=List.Nodup.sublist (List.Sublist.map _ (List.filter_sublist)) nd
 have cross:∀ n,held wi (nch ch (plc P) k) n - held wi ch n = -((noP P).map (chi n)).sum:=fun n=>by
  have s1:=HD (n:=n) hP
  rw [wH n (fun i=>if i ∈ ch then -cov (wi i) n else cov (wi i) n) P (fun w hm i e=>by rw [(hp w hm i e).2];exact KH (ho i (by have:=(hp w hm i e).1;omega)))] at s1
  have s2:sx n (wi k).1.toNat - sx n (wi k).2.1.toNat = -cov (wi k) n:=by
   have:=ok'.f;have:=ok'.b
   unfold sx cov
   split <;> split <;> split <;> omega
  rw [s2] at s1
  rw [zO (k:=k) pn pl] at s1
  rw [yr (k:=k + 1) nnd (fun i hi=>((nmem i).mp hi).1),yr (k:=k + 1) ok.nd (fun i hi=>by have:=ok.lt i hi;omega)]
  have d:∀ A B C:Int,A=B + C→A - B=C:=fun A B C h=>by omega
  have e:S (fun i=>if i ∈ nch ch (plc P) k then cov (wi i) n else 0) (k + 1)=S (fun i=>if i ∈ ch then cov (wi i) n else 0) (k + 1) + S (fun i=>if i ∈ plc P∨i=k then (if i ∈ ch then -cov (wi i) n else cov (wi i) n) else 0) (k + 1):=by
   rw [← wG]
   refine fP fun i hi=>?_
   by_cases a:i ∈ ch <;> by_cases b:(i ∈ plc P∨i=k)
   ·rw [if_neg (fun z=>by rcases ((nmem i).mp z).2 with q | q;exact q.2 b;exact q.1 a),if_pos a,if_pos b,if_pos a];omega
   ·rw [if_pos ((nmem i).mpr ⟨hi,.inl ⟨a,b⟩⟩),if_pos a,if_neg b];omega
   ·rw [if_pos ((nmem i).mpr ⟨hi,.inr ⟨a,b⟩⟩),if_neg a,if_pos b,if_neg a];omega
   ·rw [if_neg (fun z=>by rcases ((nmem i).mp z).2 with q | q;exact a q.1;exact b q.2),if_neg a,if_neg b];omega
  rw [d _ _ _ e,S,if_pos (.inr rfl),if_neg kc,fP (g:=fun i=>if i ∈ plc P then (if i ∈ ch then -cov (wi i) n else cov (wi i) n) else 0) (fun i hi=>by
   by_cases b:i ∈ plc P
   ·rw [if_pos b,if_pos (.inl b)]
   ·rw [if_neg b,if_neg (fun z=>z.elim b (by omega))])]
  omega
 have fits:∀ n,n < N→held wi (nch ch (plc P) k) n ≤ fr n:=fun n hn=>by
  have cr:=cross n
  have f0:=ok.fit n hn
  by_cases b:bck n ∈ noP P
  ·have c3:=HN n (noP P) (fun w hm=>(nq w hm).2) ndn
   have:held wi ch n < fr n:=by
    rcases eG.mp (hw _ (nq _ b).1).1 with ⟨j,q,e⟩ | ⟨j,q,q2,e⟩ | ⟨j,q,e⟩
    ·have e1:=congrArg Way.u e;have e2:=congrArg Way.v e
     simp only [bck,onw] at e1 e2
     omega
    ·have e2:=congrArg Way.v e
     simp only [bck] at e2
     rw [e2];exact q2
    ·have:(fG wi ch j).p=some j:=by unfold fG;split <;> rfl
     rw [← e] at this
     cases this
   omega
  ·have:=Bo n (noP P) (fun w hm=>(nq w hm).2) b
   omega
 refine ⟨⟨nnd,fun i hi=>((nmem i).mp hi).1,fits⟩,?_⟩
 obtain ⟨B0,h⟩:=zP g F
 have G:=h B0 (iK _)
 refine ⟨npi l π B0,fun w hm=>?_⟩
 rcases eG.mp hm with ⟨n,q,rfl⟩ | ⟨n,q,q2,rfl⟩ | ⟨i,q,rfl⟩
 ·exact G _ (eG.mpr (.inl ⟨n,q,rfl⟩))
 ·by_cases z:held wi ch n < fr n
  ·exact G _ (eG.mpr (.inr (.inl ⟨n,q,z,rfl⟩)))
  ·have cr:=cross n
   have on:onw n ∈ noP P:=by
    refine Classical.byContradiction fun t=>?_
    have:=HJ n (noP P) (fun w hm=>(nq w hm).2) t
    omega
   obtain ⟨_,x,z',e1,e2,e3⟩:=hw _ (nq _ on).1
   have e1:lb l n=some x:=e1
   have e2:lb l (n + 1)=some z':=e2
   have e3:x + 0=z':=e3
   show npi l π B0 n ≤ npi l π B0 (n + 1) + 0
   rw [iH e1,iH e2]
   omega
 ·by_cases e:i=k
  ·subst e
   have ni:i ∈ nch ch (plc P) i:=(nmem i).mpr ⟨by omega,.inr ⟨kc,.inr rfl⟩⟩
   unfold fG
   rw [if_pos ni]
   show npi l π B0 (wi i).1.toNat ≤ npi l π B0 (wi i).2.1.toNat + (wi i).2.2
   rw [iH hb,iH ha]
   omega
  ·by_cases b:i ∈ plc P
   ·obtain ⟨w,hm',ep⟩:=yq.mp b
    obtain ⟨_,x,z,e1,e2,e3⟩:=hw w hm'
    rw [(hp w hm' i ep).2] at e1 e2 e3
    by_cases a:i ∈ ch
    ·have ni:i ∉ nch ch (plc P) k:=fun t=>by rcases ((nmem i).mp t).2 with q | q;exact q.2 (.inl b);exact q.1 a
     unfold fG at e1 e2 e3 ⊢
     rw [if_pos a] at e1 e2 e3
     rw [if_neg ni]
     show npi l π B0 (wi i).2.1.toNat ≤ npi l π B0 (wi i).1.toNat + -(wi i).2.2
     have e1:lb l (wi i).2.1.toNat=some x:=e1
     have e2:lb l (wi i).1.toNat=some z:=e2
     have e3:x + (wi i).2.2=z:=e3
     rw [iH e1,iH e2]
     omega
    ·have ni:i ∈ nch ch (plc P) k:=(nmem i).mpr ⟨q,.inr ⟨a,.inl b⟩⟩
     unfold fG at e1 e2 e3 ⊢
     rw [if_neg a] at e1 e2 e3
     rw [if_pos ni]
     show npi l π B0 (wi i).1.toNat ≤ npi l π B0 (wi i).2.1.toNat + (wi i).2.2
     have e1:lb l (wi i).1.toNat=some x:=e1
     have e2:lb l (wi i).2.1.toNat=some z:=e2
     have e3:x + -(wi i).2.2=z:=e3
     rw [iH e1,iH e2]
     omega
   ·have same:fG wi (nch ch (plc P) k) i=fG wi ch i:=by
     unfold fG
     by_cases a:i ∈ ch
     ·rw [if_pos a,if_pos ((nmem i).mpr ⟨q,.inl ⟨a,fun t=>t.elim b e⟩⟩)]
     ·rw [if_neg a,if_neg (fun t=>by rcases ((nmem i).mp t).2 with q | q;exact a q.1;exact q.2.elim b e)]
    rw [same]
    exact G _ (eG.mpr (.inr (.inr ⟨i,by omega,rfl⟩)))
end
noncomputable def pass (ws:List Way) (l:Lb) (c:Cm):Stt:=ws.foldl relax (l,c,false)
inductive Runs (ws:List Way):Lb→Cm→Lb→Cm→Prop
 | done {l:Lb} {c:Cm}:(pass ws l c).2.2=false→Runs ws l c l c
 | step {l l':Lb} {c c':Cm}:(pass ws l c).2.2=true→Runs ws (pass ws l c).1 (pass ws l c).2.1 l' c'→Runs ws l c l' c'
theorem Dp {ws:List Way} {π:Nat→Int} {m:Int} {c0:Lb} {N:Nat} (g:Good ws π) (rg:∀ w ∈ ws,w.v < N):∀ (a:Nat × Nat) (l:Lb) (c:Cm) (st:Nat→Nat) (T:Nat),mu π m l=a→Iv ws π m c0 N l c st T →
 ∃ l' c' st' T',Runs ws l c l' c'∧Iv ws π m c0 N l' c' st' T'∧∀ w ∈ ws,better l' w=false:=by
 refine Dk fun a ih l c st T e I=>?_
 cases q:(pass ws l c).2.2 with
 | false=>exact ⟨l,c,st,T,.done q,I,(qe ws (l,c,false) q).2⟩
 | true =>
  obtain ⟨st',T',I'⟩:=Dj g rg ws (fun _ h=>h) (l,c,false) st T I
  have lt:=(Dm g rg ws (fun _ h=>h) (l,c,false) st T I).2 rfl q
  rw [show mu π m (l,c,false).1=a from e] at lt
  obtain ⟨l',c',st2,T2,h1,h2,h3⟩:=ih _ lt (pass ws l c).1 (pass ws l c).2.1 st' T' rfl I'
  exact ⟨l',c',st2,T2,.step q h1,h2,h3⟩
theorem Bp {M v:Nat} {x:Option Int} (h:v < M):lb (aK M x) v=x:=by
 unfold lb
 rw [aG,cT,if_pos h]
 rfl
theorem HS {l:Lb} {v:Nat} (h:l.length ≤ v):lb l v=none:=by
 unfold lb
 rw [aG,bK h]
 rfl
theorem HW {M v:Nat}:cm (aK M none) v=none:=by
 unfold cm
 rw [aG,cT]
 split <;> rfl
theorem zQ {ws:List Way} {π:Nat→Int} {m:Int} {c0:Lb} (h:∀ v y,lb c0 v=some y→π v + m ≤ y):Iv ws π m c0 c0.length c0 (aK c0.length none) (fun _=>0) 0 :=
 ⟨rfl,aQ,h,fun v y e=>⟨y,e,iK _⟩,fun v y e=>.inl ⟨HW,e⟩,fun _ _=>HW,fun _=>bG _⟩
noncomputable def src (M b:Nat):Lb:=(aK M none).set b (some 0)
theorem Bq {M b v:Nat} (h:b < M):lb (src M b) v=if v=b then some 0 else none:=by
 unfold src
 rw [Hz (by rw [aQ];exact h)]
 split
 ·rfl
 ·by_cases q:v < M
  ·exact Bp q
  ·exact HS (by rw [aQ];omega)
section
variable {wi:Nat→Wi} {fr:Nat→Int} {N k:Nat} {ch:List Nat} {π:Nat→Int}
noncomputable def More (wi:Nat→Wi) (fr:Nat→Int) (N k:Nat) (ch ch':List Nat):Prop :=
 ∃ l c,Runs (gF wi fr N ch k) (src (N + 1) (wi k).2.1.toNat) (aK (N + 1) none) l c∧l.length=N + 1∧c.length=N + 1 ∧
  (((∀ y,lb l (wi k).1.toNat=some y→(wi k).2.2 ≤ y)∧ch'=ch) ∨
   ∃ y P,lb l (wi k).1.toNat=some y∧y < (wi k).2.2∧PathTo c (wi k).2.1.toNat (wi k).1.toNat P∧(∀ w ∈ P,w.u < N + 1∧w.v < N + 1)∧P.length ≤ N + 1∧ch'=nch ch (plc P) k)
theorem yt:∀ {l:List Nat} {M:Nat},l.Nodup→(∀ x ∈ l,x < M)→l.length ≤ M:=by
 intro l M
 induction M generalizing l with
 | zero =>
  intro _ h
  cases l with
  | nil=>exact bG _
  | cons a r=>exact absurd (h a (aN ..)) (by omega)
 | succ M ih =>
  intro nd h
  have:(l.erase M).length ≤ M:=ih (nd.erase M) (fun x hx=>by
   have h1:=(List.Nodup.mem_erase_iff nd).mp hx
   have:=h x h1.2
   omega)
  rw [List.length_erase] at this
  split at this <;> omega
theorem HX (ho:∀ i,i < k + 1→WiOk N (wi i)) (ok:ChOk wi fr N ch k) (g:Good (gF wi fr N ch k) π):∃ ch' π',More wi fr N k ch ch'∧ChOk wi fr N ch' (k + 1)∧Good (gF wi fr N ch' (k + 1)) π':=by
 have o:=ho k (by omega)
 have o1:=o.f;have o2:=o.b;have o3:=o.n
 have rg:∀ w ∈ gF wi fr N ch k,w.u < N + 1∧w.v < N + 1:=fun w hw=>uf (fun i hi=>ho i (by omega)) hw
 have hb:(wi k).2.1.toNat < N + 1:=by omega
 have len:(src (N + 1) (wi k).2.1.toNat).length=N + 1:=by unfold src;rw [bM,aQ]
 have I0:=zQ (ws:=gF wi fr N ch k) (π:=π) (m:=-π (wi k).2.1.toNat) (c0:=src (N + 1) (wi k).2.1.toNat) (fun v y e=>by
  rw [Bq hb] at e
  split at e
  ·next z=>cases e;rw [z];omega
  ·cases e)
 rw [len] at I0
 obtain ⟨l,c,st,T,R,I,F⟩:=Dp g (fun w hw=>(rg w hw).2) _ _ _ _ _ rfl I0
 have lb0:lb l (wi k).2.1.toNat=some 0:=by
  obtain ⟨y,e,le⟩:=I.dn (wi k).2.1.toNat 0 (by rw [Bq hb,if_pos rfl])
  have:=I.lo _ _ e
  rw [e,show y=0 by omega]
 by_cases q:∀ y,lb l (wi k).1.toNat=some y→(wi k).2.2 ≤ y
 ·obtain ⟨h1,π',h2⟩:=Ez ok g F lb0 q
  exact ⟨ch,π',⟨l,c,R,I.ll,I.lc,.inl ⟨q,rfl⟩⟩,h1,h2⟩
 ·obtain ⟨y,ey,hy⟩:∃ y,lb l (wi k).1.toNat=some y∧y < (wi k).2.2:=by
   refine Classical.byContradiction fun z=>q fun y e=>?_
   refine Classical.byContradiction fun t=>z ⟨y,e,by omega⟩
  obtain ⟨P,p1,p2,p3⟩:=KD g I F (b:=(wi k).2.1.toNat) (fun v y e=>by
   rw [Bq hb] at e
   split at e
   ·next z=>exact z
   ·cases e) _ _ _ ey rfl
  have p3':∀ w ∈ P,w ∈ gF wi fr N ch k∧∃ x z,lb l w.u=some x∧lb l w.v=some z∧x + w.c=z:=fun w hw=>by
   obtain ⟨h1,x,z,e1,e2,e3,_⟩:=p3 w hw
   exact ⟨h1,x,z,e1,e2,e3⟩
  obtain ⟨h1,π',h2⟩:=EY ho ok g F lb0 ey hy p1 p2 p3'
  refine ⟨nch ch (plc P) k,π',⟨l,c,R,I.ll,I.lc,.inr ⟨y,P,ey,hy,p1,fun w hw=>rg w (p3 w hw).1,?_,rfl⟩⟩,h1,h2⟩
  have:=yt (M:=N + 1) p2 (fun x hx=>by
   obtain ⟨w,hw,rfl⟩:=cN.mp hx
   exact (rg w (p3 w hw).1).2)
  rwa [aU] at this
theorem E_ (ho:∀ i,i < k→WiOk N (wi i)) (g:Good (gF wi fr N ch k) π):∃ l c,Runs (gF wi fr N ch k) (aK (N + 1) (some 0)) (aK (N + 1) none) l c∧l.length=N + 1∧(∀ v,v < N + 1→∃ y,lb l v=some y)∧Good (gF wi fr N ch k) (fun v=>(lb l v).getD 0):=by
 have rg:∀ w ∈ gF wi fr N ch k,w.u < N + 1∧w.v < N + 1:=fun w hw=>uf ho hw
 obtain ⟨B,hB⟩:=uT (fun w=>π w.u) ((aZ (N + 1)).map fun v=>(⟨v,v,0,none⟩:Way))
 have hB:∀ v,v < N + 1→π v ≤ B:=fun v hv=>hB ⟨v,v,0,none⟩ (cN.mpr ⟨v,bI.mpr hv,rfl⟩)
 have I0:=zQ (ws:=gF wi fr N ch k) (π:=π) (m:=-B) (c0:=aK (N + 1) (some 0)) (fun v y e=>by
  by_cases q:v < N + 1
  ·rw [Bp q] at e
   cases e
   have:=hB v q
   omega
  ·rw [HS (by rw [aQ];omega)] at e
   cases e)
 rw [aQ] at I0
 obtain ⟨l,c,st,T,R,I,F⟩:=Dp g (fun w hw=>(rg w hw).2) _ _ _ _ _ rfl I0
 have all:∀ v,v < N + 1→∃ y,lb l v=some y:=fun v hv=>by
  obtain ⟨y,e,_⟩:=I.dn v 0 (Bp hv)
  exact ⟨y,e⟩
 refine ⟨l,c,R,I.ll,all,fun w hw=>?_⟩
 obtain ⟨x,ex⟩:=all w.u (rg w hw).1
 obtain ⟨y,ey,le⟩:=rZ (F w hw) ex
 show (lb l w.v).getD 0 ≤ (lb l w.u).getD 0 + w.c
 rw [ex,ey]
 exact le
end
theorem HY (f:Nat→Nat→Int) (N:Nat):∀ k,S (fun i=>S (f i) N) k=S (fun n=>S (fun i=>f i n) k) N
 | 0=>by
  rw [S]
  exact (qg N).symm
 | k + 1=>by
  rw [S,HY f N k,← wG]
  rfl
theorem LQ (a:Int) (f:Nat→Int):∀ k,S (fun i=>a * f i) k=a * S f k
 | 0=>by rw [S,S,lH]
 | k + 1=>by rw [S,S,LQ a f k,Int.mul_add]
theorem LR (d:Nat→Int) (a b:Nat) (h:a ≤ b):∀ N,b ≤ N→S (fun n=>if a ≤ n∧n < b then d n - d (n + 1) else 0) N=d a - d b:=by
 have step:∀ N,S (fun n=>if a ≤ n∧n < b then d n - d (n + 1) else 0) N=if N ≤ a then 0 else if N ≤ b then d a - d N else d a - d b:=by
  intro N
  induction N with
  | zero=>rw [S,if_pos (by omega)]
  | succ N ih =>
   rw [S,ih]
   by_cases c1:N + 1 ≤ a
   ·rw [if_pos (by omega),if_neg (by omega),if_pos c1];omega
   ·rw [if_neg c1]
    by_cases c2:N + 1 ≤ b
    ·rw [if_pos c2,if_pos (show a ≤ N∧N < b by omega)]
     by_cases c3:N ≤ a
     ·rw [if_pos c3,show N=a by omega];omega
     ·rw [if_neg c3,if_pos (by omega)];omega
    ·rw [if_neg c2,if_neg (show ¬ (a ≤ N∧N < b) by omega)]
     by_cases c3:N ≤ a
     ·rw [if_pos c3,show a=b by omega];omega
     ·rw [if_neg c3]
      by_cases c4:N ≤ b
      ·rw [if_pos c4,show N=b by omega];omega
      ·rw [if_neg c4];omega
 intro N hN
 rw [step N]
 by_cases c1:N ≤ a
 ·rw [if_pos c1,show a=b by omega];omega
 ·rw [if_neg c1]
  by_cases c2:N ≤ b
  ·rw [if_pos c2,show N=b by omega]
  ·rw [if_neg c2]
section
variable {wi:Nat→Wi} {fr:Nat→Int} {N k:Nat} {ch ch2:List Nat} {d:Nat→Int}
noncomputable def worth (wi:Nat→Wi) (ch:List Nat):Int:=(ch.map fun i=>(wi i).2.2).sum
noncomputable def prc (d:Nat→Int) (n:Nat):Int:=d n - d (n + 1)
noncomputable def gain (wi:Nat→Wi) (d:Nat→Int) (i:Nat):Int:=(wi i).2.2 - (d (wi i).1.toNat - d (wi i).2.1.toNat)
theorem H_ (o:WiOk N (wi k)):S (fun n=>prc d n * cov (wi k) n) N=d (wi k).1.toNat - d (wi k).2.1.toNat:=by
 have:=o.f;have:=o.b;have:=o.n
 rw [← LR d (wi k).1.toNat (wi k).2.1.toNat (by omega) N (by omega)]
 refine fP fun n _=>?_
 unfold cov prc
 by_cases c:(wi k).1 ≤ (n:Int)∧(n:Int) < (wi k).2.1
 ·rw [if_pos c,if_pos (by omega),Int.mul_one]
 ·rw [if_neg c,if_neg (by omega),lH]
theorem KJ (ho:∀ i,i < k→WiOk N (wi i)) (nd:ch2.Nodup) (lt:∀ i ∈ ch2,i < k):worth wi ch2=S (fun i=>if i ∈ ch2 then gain wi d i else 0) k + S (fun n=>prc d n * held wi ch2 n) N:=by
 have e1:worth wi ch2=S (fun i=>if i ∈ ch2 then (wi i).2.2 else 0) k:=zO nd lt
 have e2:S (fun n=>prc d n * held wi ch2 n) N=S (fun i=>if i ∈ ch2 then d (wi i).1.toNat - d (wi i).2.1.toNat else 0) k:=by
  rw [fP (g:=fun n=>S (fun i=>prc d n * (if i ∈ ch2 then cov (wi i) n else 0)) k) (fun n _=>by rw [yr nd lt,LQ]),← HY]
  refine fP fun i hi=>?_
  by_cases m:i ∈ ch2
  ·rw [if_pos m,← H_ (ho i hi)]
   refine fP fun n _=>?_
   rw [if_pos m]
  ·rw [if_neg m,fP (g:=fun _=>0) (fun n _=>by rw [if_neg m,lH]),qg]
 rw [e1,e2,← wG]
 refine fP fun i _=>?_
 by_cases m:i ∈ ch2
 ·rw [if_pos m,if_pos m,if_pos m]
  unfold gain
  omega
 ·rw [if_neg m,if_neg m,if_neg m];rfl
theorem KN (g:Good (gF wi fr N ch k) d) {i:Nat} (hi:i < k) (m:i ∈ ch):0 ≤ gain wi d i:=by
 have:=g _ (eG.mpr (.inr (.inr ⟨i,hi,rfl⟩)))
 unfold fG at this
 rw [if_pos m] at this
 have this:d (wi i).1.toNat ≤ d (wi i).2.1.toNat + (wi i).2.2:=this
 unfold gain
 omega
theorem Ia (g:Good (gF wi fr N ch k) d) {i:Nat} (hi:i < k) (m:i ∉ ch):gain wi d i ≤ 0:=by
 have:=g _ (eG.mpr (.inr (.inr ⟨i,hi,rfl⟩)))
 unfold fG at this
 rw [if_neg m] at this
 have this:d (wi i).2.1.toNat ≤ d (wi i).1.toNat + -(wi i).2.2:=this
 unfold gain
 omega
theorem Dq (g:Good (gF wi fr N ch k) d) {n:Nat} (hn:n < N):0 ≤ prc d n:=by
 have:d (n + 1) ≤ d n + 0:=g _ (eG.mpr (.inl ⟨n,hn,rfl⟩))
 unfold prc
 omega
theorem Ie (g:Good (gF wi fr N ch k) d) (ok:ChOk wi fr N ch k) {n:Nat} (hn:n < N) (h:0 < prc d n):held wi ch n=fr n:=by
 have f:=ok.fit n hn
 refine Classical.byContradiction fun z=>?_
 have:d n ≤ d (n + 1) + 0:=g _ (eG.mpr (.inr (.inl ⟨n,hn,by omega,rfl⟩)))
 unfold prc at h
 omega
theorem Ig (ho:∀ i,i < k→WiOk N (wi i)) (ok:ChOk wi fr N ch k) (g:Good (gF wi fr N ch k) d):worth wi ch=S (fun i=>max 0 (gain wi d i)) k + S (fun n=>prc d n * fr n) N:=by
 rw [KJ (d:=d) ho ok.nd ok.lt]
 congr 1
 ·refine fP fun i hi=>?_
  by_cases m:i ∈ ch
  ·rw [if_pos m];have:=KN g hi m;omega
  ·rw [if_neg m];have:=Ia g hi m;omega
 ·refine fP fun n hn=>?_
  have p:=Dq g hn
  by_cases q:0 < prc d n
  ·rw [Ie g ok hn q]
  ·rw [show prc d n=0 by omega,qu,qu]
end
end Be
namespace Com
open PySem D3 My
open Be (Way Lb Cm lb cm fG onw bck gF relax better pass Runs PathTo plc nch src More)
noncomputable def oD:Option Int→D
 | none=>.none
 | some x=>.int x
noncomputable def plD:Option Nat→D
 | none=>.none
 | some i=>.int (i:Int)
noncomputable def wyD (w:Way):D:=.tuple [.int (w.u:Int),.int (w.v:Int),.int w.c,plD w.p]
noncomputable def cD:Option Way→D
 | none=>.none
 | some w=>wyD w
noncomputable def cZ (ch:List Nat):List Int:=ch.map fun i:Nat=>(i:Int)
noncomputable def wif (ws:List Wi) (i:Nat):Wi:=ws.getD i (0,0,0)
noncomputable def frf (fs:List Int) (n:Nat):Int:=fs.getD n 0
theorem KQ (p:Option Nat):flat (plD p)=true:=by cases p <;> rfl
theorem Dr (w:Way):flat (wyD w)=true:=by
 show (flat (.int (w.u:Int)) && (flat (.int (w.v:Int)) && (flat (.int w.c) && (flat (plD w.p) && true))))=true
 rw [KQ]
 rfl
theorem PN (x:Option Int):flat (oD x)=true:=by cases x <;> rfl
theorem KR (x:Option Way):flat (cD x)=true:=by
 cases x with
 | none=>rfl
 | some w=>exact Dr w
theorem lyI (cs:List Int):SeqAt.shaped (.list (cs.map .int))=true:=shaped_ints cs
theorem jQ (cs:List Int) (x:Int):gIn (.int x) (.list (cs.map .int))=some (.bool (decide (x ∈ cs))):=by
 show (if (SeqAt.shaped (.int x) && SeqAt.shaped (.list (cs.map .int)))=true then some (PyData.bool ((cs.map PyData.int).any fun z=>PyData.eqv z (.int x))) else none)=_
 rw [lyI,if_pos (by rfl),List.any_map]
 congr 2
 rw [lB,List.any_eq_true,decide_eq_true_eq]
 constructor
 ·rintro ⟨z,hz,e⟩
  have e:decide (z=x)=true:=e
  rw [← of_decide_eq_true e]
  exact hz
 ·intro h
  exact ⟨x,h,show decide (x=x)=true from dTr rfl⟩
theorem Br {ch:List Nat} {i:Nat}:((i:Int) ∈ cZ ch)↔i ∈ ch:=by
 unfold cZ
 rw [cN]
 constructor
 ·rintro ⟨j,hj,e⟩
  have:j=i:=by omega
  rw [← this];exact hj
 ·intro h
  exact ⟨i,h,rfl⟩
theorem Ds (ch:List Nat) (i:Nat):gIn (.int (i:Int)) (.list ((cZ ch).map .int))=some (.bool (decide (i ∈ ch))):=by
 rw [jQ]
 congr 2
 rw [lB,decide_eq_true_eq,decide_eq_true_eq]
 exact Br
theorem Ih {ws:List Wi} {ch:List Nat} {i:Nat} (h0:0 ≤ (wif ws i).1) (h1:0 ≤ (wif ws i).2.1):fM [wiD (wif ws i),.int (i:Int),.list ((cZ ch).map .int)]=some (wyD (fG (wif ws) ch i)):=by
 have i0:gIx (wiD (wif ws i)) (.int 0)=some (.int (wif ws i).1):=rfl
 have i1:gIx (wiD (wif ws i)) (.int 1)=some (.int (wif ws i).2.1):=rfl
 have i2:gIx (wiD (wif ws i)) (.int 2)=some (.int (wif ws i).2.2):=rfl
 unfold fM
 by_cases c:i ∈ ch
 ·have e:wyD (fG (wif ws) ch i) = .tuple [.int (wif ws i).2.1,.int (wif ws i).1,.int (wif ws i).2.2,.int (i:Int)]:=by
   unfold fG
   rw [if_pos c]
   unfold wyD plD
   simp only
   rw [dO h0,dO h1]
  rw [e]
  simp only [EV,reduceIte,aq,aA,aj,ak,aB,aC,aD,Ds,dTr c,i0,i1,i2,sz (show 4 ≤ 1000000 by decide)]
 ·have e:wyD (fG (wif ws) ch i) = .tuple [.int (wif ws i).1,.int (wif ws i).2.1,.int (-(wif ws i).2.2),.int (i:Int)]:=by
   unfold fG
   rw [if_neg c]
   unfold wyD plD
   simp only
   rw [dO h0,dO h1]
  rw [e]
  simp only [EV,reduceIte,aq,aA,aj,ak,aB,aC,aD,Ds,dFa c,i0,i1,i2,sz (show 4 ≤ 1000000 by decide)]
theorem uV {α:Type} (f:α→D) (l:List α) (x:α):mC (l.map f)=(aZ l.length).map fun k:Nat=>PyData.tuple [.int (k:Int),f (l.getD k x)]:=by
 unfold mC
 apply ju
 intro i
 rw [gO,bf,bf]
 by_cases h:i < l.length
 ·have e:l.getD i x=l[i]:=by rw [aG,aO h];rfl
  rw [eY h,aO h,gH,gH,gH,e]
 ·rw [bK (by simpa using h),bK (by simpa using h)]
  rfl
theorem held_eq (ws:List Wi) (n:Nat):∀ ch:List Nat,((jC ws (cZ ch) (n:Int):Nat):Int)=Be.held (wif ws) ch n
 | []=>rfl
 | i :: r=>by
  have ih:=held_eq ws n r
  unfold jC cZ Be.held at *
  rw [bx,nJ,bx,cC,← ih]
  have e:wat ws (i:Int)=wif ws i:=by unfold wat wif;rw [bJ]
  unfold Be.cov
  by_cases c:(wif ws i).1 ≤ (n:Int)∧(n:Int) < (wif ws i).2.1
  ·rw [if_pos c,if_pos (by rw [e];unfold hbN wn;simp only;rw [dTr c.1,dTr c.2];rfl),dY]
   omega
  ·rw [if_neg c,if_neg (by
    rw [e]
    unfold hbN wn
    simp only [aR,decide_eq_true_eq]
    exact c)]
   omega
theorem su {l m:List D} (h:l.length + m.length ≤ 1000000):qJ (.list l) (.list m)=some (.list (l++m)):=by rw [Lx,if_pos h]
theorem wJ {ws:List Wi} {fs:List Int} {ch:List Nat} (hw:∀ w ∈ ws,nR fs.length w) (hc:∀ i ∈ ch,i < ws.length) (hl:ch.length ≤ 1000) (wl:ws.length ≤ 1000) (fl:fs.length ≤ 1000) :
 iY [.list (ws.map wiD),.list (fs.map .int),.list ((cZ ch).map .int)]=some (.list ((gF (wif ws) (frf fs) fs.length ch ws.length).map wyD)):=by
 have hcI:∀ c ∈ cZ ch,0 ≤ c∧c < ws.length:=fun c h=>by
  unfold cZ at h
  obtain ⟨i,hi,rfl⟩:=cN.mp h
  have:=hc i hi
  omega
 have rr:nP (some [.int (fs.length:Int)])=some (fU 0 (fs.length:Int)):=tL (by omega) (by omega)
 have C1:=oH (g:=(gNl 0)) (c:=(D3.gq)) (e:=(dW (dTup (aF (ao 0) (aF (dOp fu (ao 0) (dC (.int 1))) (aF (dC (.int 0)) (aF (dC (.none)) (aM)))))))) (δ:=[none]) (fun k:Nat=>PyData.int (k:Int)) (fun k:Nat=>wyD (onw k)) (aZ fs.length) (fun k _=>by
  refine ⟨[some (.d (.int (k:Int)))],rfl,rfl,?_⟩
  simp only [EV,reduceIte,aq,aA,aj,ak,aB,aC,aD,sz (show 4 ≤ 1000000 by decide)]
  rfl)
 have C2:=xU (g:=(gTn 2 (bT (gNl 0) (bT (gNl 1) (gA))))) (c:=(aP (dOp gLt (dCall fD (aF (ao 2) (aF (ao 3) (aF (ao 0) (aM))))) (ao 1)))) (e:=(dW (ao 0))) (δ:=[none,none,some (.d (.list (ws.map wiD))),some (.d (.list ((cZ ch).map .int)))]) (fun k:Nat=>PyData.tuple [.int (k:Int),.int (fs.getD k 0)]) (fun k:Nat=>decide (Be.held (wif ws) ch k < frf fs k)) (fun k:Nat=>PyData.int (k:Int)) (aZ fs.length) (fun k _=>by
  refine ⟨[some (.d (.int (k:Int))),some (.d (.int (fs.getD k 0))),some (.d (.list (ws.map wiD))),some (.d (.list ((cZ ch).map .int)))],by simp only [EV,reduceIte,aq,aA,aj,ak,aB,aC,aD],?_,fun _=>by simp only [EV,reduceIte,aq,aA,aj,ak,aB,aC,aD]⟩
  have hs:=rY (ws:=ws) (cs:=cZ ch) (by unfold cZ;rw [aU];exact hl) hcI (k:Int)
  rw [held_eq] at hs
  simp only [EV,reduceIte,aq,aA,aj,ak,aB,aC,aD,hs]
  rfl)
 have C3:=oH (g:=(gNl 0)) (c:=(D3.gq)) (e:=(dW (dTup (aF (dOp fu (ao 0) (dC (.int 1))) (aF (ao 0) (aF (dC (.int 0)) (aF (dC (.none)) (aM)))))))) (δ:=[none]) (fun k:Nat=>PyData.int (k:Int)) (fun k:Nat=>wyD (bck k)) ((aZ fs.length).filter fun k:Nat=>decide (Be.held (wif ws) ch k < frf fs k)).reverse (fun k _=>by
  refine ⟨[some (.d (.int (k:Int)))],rfl,rfl,?_⟩
  simp only [EV,reduceIte,aq,aA,aj,ak,aB,aC,aD,sz (show 4 ≤ 1000000 by decide)]
  rfl)
 have C4:=oH (g:=(gTn 2 (bT (gNl 0) (bT (gNl 1) (gA))))) (c:=(D3.gq)) (e:=(dCall fM (aF (ao 1) (aF (ao 0) (aF (ao 2) (aM)))))) (δ:=[none,none,some (.d (.list ((cZ ch).map .int)))]) (fun k:Nat=>PyData.tuple [.int (k:Int),wiD (wif ws k)]) (fun k:Nat=>wyD (fG (wif ws) ch k)) (aZ ws.length) (fun k hk=>by
  have hk:=bI.mp hk
  have ok:nR fs.length (wif ws k):=by
   unfold wif
   rw [aG,aO hk]
   exact hw _ (dZ hk)
  refine ⟨[some (.d (.int (k:Int))),some (.d (wiD (wif ws k))),some (.d (.list ((cZ ch).map .int)))],by simp only [EV,reduceIte,aq,aA,aj,ak,aB,aC,aD],rfl,?_⟩
  simp only [EV,reduceIte,aq,aA,aj,ak,aB,aC,aD,Ih (ch:=ch) ok.1 (show 0 ≤ (wif ws k).2.1 by have:=ok.1;have:=ok.2.1;omega)])
 have ca1:∀ x0 x1 x2 x3 x4 x5:Option U,jg 1 [] [x0,x1,x2,x3,x4,x5]=[none]:=fun _ _ _ _ _ _=>rfl
 have ca2:∀ x0 x1 x2 x3 x4 x5:Option U,jg 2 [0,2] [x0,x1,x2,x3,x4,x5]=[none,none,x0,x2]:=fun _ _ _ _ _ _=>rfl
 have ca3:∀ x0 x1 x2 x3 x4 x5:Option U,jg 2 [2] [x0,x1,x2,x3,x4,x5]=[none,none,x2]:=fun _ _ _ _ _ _=>rfl
 have e1:mC (fs.map .int)=(aZ fs.length).map fun k:Nat=>PyData.tuple [.int (k:Int),.int (fs.getD k 0)]:=uV PyData.int fs 0
 have e2:mC (ws.map wiD)=(aZ ws.length).map fun k:Nat=>PyData.tuple [.int (k:Int),wiD (wif ws k)]:=uV wiD ws (0,0,0)
 have fll:((aZ fs.length).filter fun k:Nat=>decide (Be.held (wif ws) ch k < frf fs k)).length ≤ fs.length:=by
  have:=oR (fun k:Nat=>decide (Be.held (wif ws) ch k < frf fs k)) (aZ fs.length)
  rwa [cH] at this
 have g1:qJ (.list ((aZ fs.length).map fun k:Nat=>wyD (onw k))) (.list (((aZ fs.length).filter fun k:Nat=>decide (Be.held (wif ws) ch k < frf fs k)).reverse.map fun k:Nat=>wyD (bck k)))=some (.list (((aZ fs.length).map fun k:Nat=>wyD (onw k))++(((aZ fs.length).filter fun k:Nat=>decide (Be.held (wif ws) ch k < frf fs k)).reverse.map fun k:Nat=>wyD (bck k)))) :=
  su (by rw [aU,aU,cH,iz];omega)
 have eq:(gF (wif ws) (frf fs) fs.length ch ws.length).map wyD=((aZ fs.length).map fun k:Nat=>wyD (onw k))++(((aZ fs.length).filter fun k:Nat=>decide (Be.held (wif ws) ch k < frf fs k)).reverse.map fun k:Nat=>wyD (bck k))++(aZ ws.length).map fun k:Nat=>wyD (fG (wif ws) ch k):=by
  unfold gF
  rw [fQ,fQ,bZ,bZ,bZ]
  rfl
 have g2:qJ (.list (((aZ fs.length).map fun k:Nat=>wyD (onw k))++(((aZ fs.length).filter fun k:Nat=>decide (Be.held (wif ws) ch k < frf fs k)).reverse.map fun k:Nat=>wyD (bck k)))) (.list ((aZ ws.length).map fun k:Nat=>wyD (fG (wif ws) ch k)))=some (.list ((gF (wif ws) (frf fs) fs.length ch ws.length).map wyD)):=by
  rw [eq]
  exact su (by rw [cI,aU,aU,aU,cH,cH,iz];omega)
 unfold iY
 simp only [EV,reduceIte,aq,aA,aj,ak,aB,aC,aD,lMp,rr,t_,bJ,cH,show fs.length ≤ 100000 by omega,ca1,ca2,ca3,C1,e1,C2,Tr,NQ,← List.map_reverse,iz,show ((aZ fs.length).filter fun k:Nat=>decide (Be.held (wif ws) ch k < frf fs k)).length ≤ 100000 by omega,C3,e2,show ws.length ≤ 100000 by omega,C4,g1,g2,jX wyD Dr]
theorem PX {n k:Nat} (h:k < n):pIx n (k:Int)=some k:=by
 unfold pIx
 rw [if_pos (by omega),if_pos (by omega),bJ]
theorem KY {l:Lb} {v:Nat} (h:v < l.length):pAt (l.map oD) (v:Int)=some (oD (lb l v)):=by
 have:=fW oD (l:=l) none (i:=(v:Int)) (by omega) (by omega)
 rw [bJ] at this
 exact this
theorem Um {l:Cm} {v:Nat} (h:v < l.length):pAt (l.map cD) (v:Int)=some (cD (cm l v)):=by
 have:=fW cD (l:=l) none (i:=(v:Int)) (by omega) (by omega)
 rw [bJ] at this
 exact this
theorem Bt {l:Lb} {c:Cm} {b:Bool} {w:Way} (hc:c.length=l.length) (hu:w.u < l.length) (hv:w.v < l.length) (a0 a1:D) (y6 y7:Option U):∃ z6 z7,((aY (bh 6 (dOp gIx (ao 2) (dOp gIx (ao 5) (dC (.int 0))))) (aY (bh 7 (dOp gIx (ao 2) (dOp gIx (ao 5) (dC (.int 1))))) (sIf (D3.jf (aP (dUn pP (ao 6))) (D3.tOr (aP (dUn xq (ao 7))) (aP (dOp gLt (dOp fu (ao 6) (dOp gIx (ao 5) (dC (.int 2)))) (ao 7))))) (aY (oU 2 (dOp gIx (ao 5) (dC (.int 1))) (dOp fu (ao 6) (dOp gIx (ao 5) (dC (.int 2))))) (aY (oU 3 (dOp gIx (ao 5) (dC (.int 1))) (ao 5)) (bh 4 (dC (.bool true))))) (dF))))) [some (.d a0),some (.d a1),some (.d (.list (l.map oD))),some (.d (.list (c.map cD))),some (.d (.bool b)),some (.d (wyD w)),y6,y7] =
 some (.nx [some (.d a0),some (.d a1),some (.d (.list ((relax (l,c,b) w).1.map oD))),some (.d (.list ((relax (l,c,b) w).2.1.map cD))),some (.d (.bool (relax (l,c,b) w).2.2)),some (.d (wyD w)),z6,z7]):=by
 have i0:gIx (wyD w) (.int 0)=some (.int (w.u:Int)):=rfl
 have i1:gIx (wyD w) (.int 1)=some (.int (w.v:Int)):=rfl
 have i2:gIx (wyD w) (.int 2)=some (.int w.c):=rfl
 have au:=KY hu
 have av:=KY hv
 refine ⟨some (.d (oD (lb l w.u))),some (.d (oD (lb l w.v))),?_⟩
 have p1:pIx l.length (w.v:Int)=some w.v:=PX hv
 have p2:pIx c.length (w.v:Int)=some w.v:=PX (by rw [hc];exact hv)
 cases eu:lb l w.u with
 | none =>
  rw [eu] at au
  have bt:better l w=false:=by unfold better;rw [eu]
  unfold relax
  rw [if_neg (by rw [bt];decide)]
  have au:pAt (l.map oD) (w.u:Int)=some .none:=au
  simp only [EV,reduceIte,aq,aA,aj,ak,aB,aC,aD,i0,i1,i2,au,av,iu]
  rfl
 | some x =>
  rw [eu] at au
  have au:pAt (l.map oD) (w.u:Int)=some (.int x):=au
  have ms:(l.map oD).set w.v (.int (x + w.c))=(l.set w.v (some (x + w.c))).map oD:=by rw [qw];rfl
  have mc:(c.map cD).set w.v (wyD w)=(c.set w.v (some w)).map cD:=by rw [qw];rfl
  have rx:better l w=true→relax (l,c,b) w=(l.set w.v (some (x + w.c)),c.set w.v (some w),true):=fun h=>by
   unfold relax
   rw [if_pos h]
   simp only
   rw [eu]
   rfl
  cases ev:lb l w.v with
  | none =>
   rw [ev] at av
   have av:pAt (l.map oD) (w.v:Int)=some .none:=av
   rw [rx (by unfold better;rw [eu,ev])]
   simp only [EV,reduceIte,aq,aA,aj,ak,aB,aC,aD,i0,i1,i2,au,av,jA,lMp,p1,p2,aH,ms,mc]
   rfl
  | some y =>
   rw [ev] at av
   have av:pAt (l.map oD) (w.v:Int)=some (.int y):=av
   by_cases q:x + w.c < y
   ·rw [rx (by unfold better;rw [eu,ev];exact dTr q)]
    simp only [EV,reduceIte,aq,aA,aj,ak,aB,aC,aD,i0,i1,i2,au,av,jA,dTr q,lMp,p1,p2,aH,ms,mc]
    rfl
   ·have bt:better l w=false:=by unfold better;rw [eu,ev];exact dFa q
    unfold relax
    rw [if_neg (by rw [bt];decide)]
    simp only [EV,reduceIte,aq,aA,aj,ak,aB,aC,aD,i0,i1,i2,au,av,jA,dFa q]
    rfl
theorem Fb (s:Be.Stt) (w:Way):(relax s w).1.length=s.1.length∧(relax s w).2.1.length=s.2.1.length:=by
 unfold relax
 split
 ·exact ⟨by simp,by simp⟩
 ·exact ⟨rfl,rfl⟩
theorem uW:∀ (ws:List Way) (s:Be.Stt),(ws.foldl relax s).1.length=s.1.length∧(ws.foldl relax s).2.1.length=s.2.1.length
 | [],s=>⟨rfl,rfl⟩
 | w :: r,s=>by
  rw [jc]
  have h1:=uW r (relax s w)
  have h2:=Fb s w
  omega
theorem wK {ws:List Way} {l:Lb} {c:Cm} (hc:c.length=l.length) (rg:∀ w ∈ ws,w.u < l.length∧w.v < l.length) (a0 b:D) (y5 y6 y7:Option U):∃ z5 z6 z7,((aY (bh 4 (dC (.bool false))) (ou (mz (ao 1)) (gNl 5) (aY (bh 6 (dOp gIx (ao 2) (dOp gIx (ao 5) (dC (.int 0))))) (aY (bh 7 (dOp gIx (ao 2) (dOp gIx (ao 5) (dC (.int 1))))) (sIf (D3.jf (aP (dUn pP (ao 6))) (D3.tOr (aP (dUn xq (ao 7))) (aP (dOp gLt (dOp fu (ao 6) (dOp gIx (ao 5) (dC (.int 2)))) (ao 7))))) (aY (oU 2 (dOp gIx (ao 5) (dC (.int 1))) (dOp fu (ao 6) (dOp gIx (ao 5) (dC (.int 2))))) (aY (oU 3 (dOp gIx (ao 5) (dC (.int 1))) (ao 5)) (bh 4 (dC (.bool true))))) (dF))))))) [some (.d a0),some (.d (.list (ws.map wyD))),some (.d (.list (l.map oD))),some (.d (.list (c.map cD))),some (.d b),y5,y6,y7] =
 some (.nx [some (.d a0),some (.d (.list (ws.map wyD))),some (.d (.list ((pass ws l c).1.map oD))),some (.d (.list ((pass ws l c).2.1.map cD))),some (.d (.bool (pass ws l c).2.2)),z5,z6,z7]):=by
 obtain ⟨δ',e,z5,z6,z7,rfl⟩:=oG (g:=(gNl 5)) (b:=(aY (bh 6 (dOp gIx (ao 2) (dOp gIx (ao 5) (dC (.int 0))))) (aY (bh 7 (dOp gIx (ao 2) (dOp gIx (ao 5) (dC (.int 1))))) (sIf (D3.jf (aP (dUn pP (ao 6))) (D3.tOr (aP (dUn xq (ao 7))) (aP (dOp gLt (dOp fu (ao 6) (dOp gIx (ao 5) (dC (.int 2)))) (ao 7))))) (aY (oU 2 (dOp gIx (ao 5) (dC (.int 1))) (dOp fu (ao 6) (dOp gIx (ao 5) (dC (.int 2))))) (aY (oU 3 (dOp gIx (ao 5) (dC (.int 1))) (ao 5)) (bh 4 (dC (.bool true))))) (dF))))) (fun i δ=>∃ y5 y6 y7:Option U,δ=[some (.d a0),some (.d (.list (ws.map wyD))),some (.d (.list (((ws.take i).foldl relax (l,c,false)).1.map oD))),some (.d (.list (((ws.take i).foldl relax (l,c,false)).2.1.map cD))),some (.d (.bool ((ws.take i).foldl relax (l,c,false)).2.2)),y5,y6,y7]) (ws.map wyD)
  [some (.d a0),some (.d (.list (ws.map wyD))),some (.d (.list (l.map oD))),some (.d (.list (c.map cD))),some (.d (.bool false)),y5,y6,y7] ⟨y5,y6,y7,rfl⟩
  (by
   rintro i d δ hd ⟨y5,y6,y7,rfl⟩
   rw [bf] at hd
   cases hw:ws[i]? with
   | none=>rw [hw] at hd;cases hd
   | some w =>
    rw [hw] at hd
    cases hd
    have hm:=gM hw
    have L:=uW (ws.take i) (l,c,false)
    have L1:((ws.take i).foldl relax (l,c,false)).1.length=l.length:=L.1
    have L2:((ws.take i).foldl relax (l,c,false)).2.1.length=l.length:=by rw [L.2];exact hc
    obtain ⟨z6,z7,ez⟩:=Bt (l:=((ws.take i).foldl relax (l,c,false)).1) (c:=((ws.take i).foldl relax (l,c,false)).2.1) (b:=((ws.take i).foldl relax (l,c,false)).2.2) (w:=w) (by rw [L1,L2]) (by rw [L1];exact (rg w hm).1) (by rw [L1];exact (rg w hm).2) a0 (.list (ws.map wyD)) y6 y7
    refine ⟨_,_,rfl,.inl ez,some (.d (wyD w)),z6,z7,?_⟩
    have tk:ws.take (i + 1)=ws.take i++[w]:=by rw [List.take_add_one,hw];rfl
    rw [tk,List.foldl_append]
    rfl)
 refine ⟨z5,z6,z7,?_⟩
 rw [aU,List.take_length] at e
 unfold pass
 simp only [EV,reduceIte,aq,aA,aj,ak,aB,aC,aD,e]
theorem Ii {ws:List Way} {a0:D} {l l':Lb} {c c':Cm} (R:Runs ws l c l' c'):c.length=l.length→(∀ w ∈ ws,w.u < l.length∧w.v < l.length)→∀ y5 y6 y7:Option U,∃ n z5 z6 z7,fJ ((aP (ao 4))) ((aY (bh 4 (dC (.bool false))) (ou (mz (ao 1)) (gNl 5) (aY (bh 6 (dOp gIx (ao 2) (dOp gIx (ao 5) (dC (.int 0))))) (aY (bh 7 (dOp gIx (ao 2) (dOp gIx (ao 5) (dC (.int 1))))) (sIf (D3.jf (aP (dUn pP (ao 6))) (D3.tOr (aP (dUn xq (ao 7))) (aP (dOp gLt (dOp fu (ao 6) (dOp gIx (ao 5) (dC (.int 2)))) (ao 7))))) (aY (oU 2 (dOp gIx (ao 5) (dC (.int 1))) (dOp fu (ao 6) (dOp gIx (ao 5) (dC (.int 2))))) (aY (oU 3 (dOp gIx (ao 5) (dC (.int 1))) (ao 5)) (bh 4 (dC (.bool true))))) (dF))))))) n [some (.d a0),some (.d (.list (ws.map wyD))),some (.d (.list (l.map oD))),some (.d (.list (c.map cD))),some (.d (.bool true)),y5,y6,y7] =
 some (.nx [some (.d a0),some (.d (.list (ws.map wyD))),some (.d (.list (l'.map oD))),some (.d (.list (c'.map cD))),some (.d (.bool false)),z5,z6,z7]):=by
 induction R with
 | @done l c q =>
  intro hc rg y5 y6 y7
  obtain ⟨z5,z6,z7,ez⟩:=wK hc rg a0 (.bool true) y5 y6 y7
  have F:=(Be.qe ws (l,c,false) q).1
  have F:pass ws l c=(l,c,false):=F
  rw [F] at ez
  have e2:fJ ((aP (ao 4))) ((aY (bh 4 (dC (.bool false))) (ou (mz (ao 1)) (gNl 5) (aY (bh 6 (dOp gIx (ao 2) (dOp gIx (ao 5) (dC (.int 0))))) (aY (bh 7 (dOp gIx (ao 2) (dOp gIx (ao 5) (dC (.int 1))))) (sIf (D3.jf (aP (dUn pP (ao 6))) (D3.tOr (aP (dUn xq (ao 7))) (aP (dOp gLt (dOp fu (ao 6) (dOp gIx (ao 5) (dC (.int 2)))) (ao 7))))) (aY (oU 2 (dOp gIx (ao 5) (dC (.int 1))) (dOp fu (ao 6) (dOp gIx (ao 5) (dC (.int 2))))) (aY (oU 3 (dOp gIx (ao 5) (dC (.int 1))) (ao 5)) (bh 4 (dC (.bool true))))) (dF))))))) 1 [some (.d a0),some (.d (.list (ws.map wyD))),some (.d (.list (l.map oD))),some (.d (.list (c.map cD))),some (.d (.bool false)),z5,z6,z7]=some (.nx [some (.d a0),some (.d (.list (ws.map wyD))),some (.d (.list (l.map oD))),some (.d (.list (c.map cD))),some (.d (.bool false)),z5,z6,z7]):=by
   rw [fJ,show ((aP (ao 4))) [some (.d a0),some (.d (.list (ws.map wyD))),some (.d (.list (l.map oD))),some (.d (.list (c.map cD))),some (.d (.bool false)),z5,z6,z7]=some false from rfl,aH,if_neg (by decide)]
  refine ⟨2,z5,z6,z7,?_⟩
  rw [fJ,show ((aP (ao 4))) [some (.d a0),some (.d (.list (ws.map wyD))),some (.d (.list (l.map oD))),some (.d (.list (c.map cD))),some (.d (.bool true)),y5,y6,y7]=some true from rfl,aH,if_pos rfl,ez]
  exact e2
 | @step l l' c c' q R ih =>
  intro hc rg y5 y6 y7
  obtain ⟨z5,z6,z7,ez⟩:=wK hc rg a0 (.bool true) y5 y6 y7
  rw [q] at ez
  have L:=uW ws (l,c,false)
  have L1:(pass ws l c).1.length=l.length:=L.1
  have L2:(pass ws l c).2.1.length=l.length:=by unfold pass;rw [L.2];exact hc
  obtain ⟨n,w5,w6,w7,en⟩:=ih (by rw [L1,L2]) (fun w hw=>by rw [L1];exact rg w hw) z5 z6 z7
  refine ⟨n + 1,w5,w6,w7,?_⟩
  rw [fJ,show ((aP (ao 4))) [some (.d a0),some (.d (.list (ws.map wyD))),some (.d (.list (l.map oD))),some (.d (.list (c.map cD))),some (.d (.bool true)),y5,y6,y7]=some true from rfl,aH,if_pos rfl,ez]
  exact en
theorem Ij {d:D} {k:Int} (h:k ≤ 1000000) (h' : -(2 ^ 63) ≤ k):rN (.list [d]) (.int k)=some (.list (aK k.toNat d)):=by
 show (if [d].length * k.toNat ≤ 1000000∧-(2 ^ 63) ≤ k∧k < 2 ^ 63 then some (PyData.list (aK k.toNat [d]).flatten) else none)=_
 rw [if_pos ⟨by simp only [dY,jO];omega,h',by omega⟩]
 congr 2
 generalize k.toNat=n
 induction n with
 | zero=>rfl
 | succ n ih=>rw [cA,eH,ih,cA];rfl
theorem pU {ws:List Way} {c0 l:Lb} {c:Cm} (hl:c0.length ≤ 1000) (rg:∀ w ∈ ws,w.u < c0.length∧w.v < c0.length) (R:Runs ws c0 (aK c0.length none) l c) :
 iZ [.list (c0.map oD),.list (ws.map wyD)]=some (.tuple [.list (l.map oD),.list (c.map cD)]):=by
 obtain ⟨n,z5,z6,z7,e⟩:=Ii (a0:=.list (c0.map oD)) R aQ rg none none none
 have e':=vZ e
 have rp:rN (.list [.none]) (.int (c0.length:Int))=some (.list ((aK c0.length (none:Option Way)).map cD)):=by
  rw [Ij (by omega) (by omega),bJ,lY]
  rfl
 unfold iZ
 simp only [EV,reduceIte,aq,aA,aj,ak,aB,aC,aD,lMp,rp,e',jX oD PN,jX cD KR,sz (show 1 ≤ 1000000 by decide),sz (show 2 ≤ 1000000 by decide)]
theorem zR (w:Way) (P:List Way):(plc (w :: P)).map (fun i:Nat=>PyData.int (i:Int))=(match w.p with | none=>[] | some i=>[PyData.int (i:Int)])++(plc P).map fun i:Nat=>PyData.int (i:Int):=by
 unfold plc
 cases e:w.p with
 | none=>rw [jK e];rfl
 | some i=>rw [jL e];rfl
theorem Fd {c:Cm} {b v:Nat} {P:List Way} (h:PathTo c b v P):(∀ w ∈ P,w.u < c.length∧w.v < c.length)→∀ (acc:List D) (a2:D) (y5:Option U),acc.length + P.length ≤ 100000→∃ n z5,fJ ((aP (dOp gNe (ao 4) (ao 1)))) ((aY (bh 5 (dOp gIx (ao 0) (ao 4))) (aY (sIf (aP (dUn pP (dOp gIx (ao 5) (dC (.int 3))))) (o7 3 (dOp gIx (ao 5) (dC (.int 3)))) (dF)) (bh 4 (dOp gIx (ao 5) (dC (.int 0))))))) n [some (.d (.list (c.map cD))),some (.d (.int (b:Int))),some (.d a2),some (.d (.list acc)),some (.d (.int (v:Int))),y5] =
 some (.nx [some (.d (.list (c.map cD))),some (.d (.int (b:Int))),some (.d a2),some (.d (.list (acc++(plc P).map fun i:Nat=>PyData.int (i:Int)))),some (.d (.int (b:Int))),z5]):=by
 induction h with
 | nil =>
  intro _ acc a2 y5 _
  refine ⟨1,y5,?_⟩
  rw [fJ]
  simp only [EV,reduceIte,aq,aA,aj,ak,aB,aC,aD,dTr (show (b:Int)=(b:Int) from rfl),iu]
  show some _=_
  rw [show (plc []).map (fun i:Nat=>PyData.int (i:Int))=[] from rfl,i_]
 | @cons v w P h1 h2 h3 h4 ih =>
  intro rg acc a2 y5 hl
  have r:=rg w (aN ..)
  have ca:=Um (l:=c) (v:=v) (by rw [← h3];exact r.2)
  rw [h2] at ca
  have ca:pAt (c.map cD) (v:Int)=some (wyD w):=ca
  have i0:gIx (wyD w) (.int 0)=some (.int (w.u:Int)):=rfl
  have i3:gIx (wyD w) (.int 3)=some (plD w.p):=rfl
  rw [dY] at hl
  cases ep:w.p with
  | none =>
   obtain ⟨n,z5,en⟩:=ih (fun w hw=>rg w (aJ _ hw)) acc a2 (some (.d (wyD w))) (by omega)
   refine ⟨n + 1,z5,?_⟩
   rw [zR,ep]
   rw [ep] at i3
   have i3:gIx (wyD w) (.int 3)=some .none:=i3
   rw [fJ]
   simp only [EV,reduceIte,aq,aA,aj,ak,aB,aC,aD,dFa (show ¬ (v:Int)=(b:Int) by omega),jA,aH,ca,i0,i3,iu]
   exact en
  | some i =>
   obtain ⟨n,z5,en⟩:=ih (fun w hw=>rg w (aJ _ hw)) (acc++[.int (i:Int)]) a2 (some (.d (wyD w))) (by rw [cI];simp;omega)
   refine ⟨n + 1,z5,?_⟩
   rw [zR,ep]
   rw [ep] at i3
   have i3:gIx (wyD w) (.int 3)=some (.int (i:Int)):=i3
   rw [fJ]
   simp only [EV,reduceIte,aq,aA,aj,ak,aB,aC,aD,dFa (show ¬ (v:Int)=(b:Int) by omega),jA,aH,ca,i0,i3,show acc.length < 1000000 by omega]
   rw [ql] at en
   exact en
theorem Fe {c:Cm} {b v:Nat} {P:List Way} (h:PathTo c b v P) (rg:∀ w ∈ P,w.u < c.length∧w.v < c.length) (hl:P.length ≤ 10000):dU [.list (c.map cD),.int (b:Int),.int (v:Int)]=some (.list ((cZ (plc P)).map .int)):=by
 obtain ⟨n,z5,e⟩:=Fd h rg [] (.int (v:Int)) none (by simp;omega)
 have e':=vZ e
 have m:(plc P).map (fun i:Nat=>PyData.int (i:Int))=(cZ (plc P)).map .int:=by unfold cZ;rw [bZ];rfl
 rw [oK,m] at e'
 unfold dU
 simp only [EV,reduceIte,aq,aA,aj,ak,aB,aC,aD,e',gC,sz (show 0 ≤ 1000000 by decide)]
end Com
namespace Com
open PySem D3 My
open Be (Way Lb Cm lb cm fG onw bck gF relax better pass Runs PathTo plc nch src More ChOk Good)
theorem yu {c f:Str} {d:D} {b:FS}:qS (some (.ex c f d)) b=some (.ex c f d):=rfl
theorem Bu {wi wi':Nat→Wi} {fr:Nat→Int} {N:Nat} {ch:List Nat} {k:Nat} (h:∀ i,i < k→wi i=wi' i) (hc:∀ i ∈ ch,i < k):gF wi fr N ch k=gF wi' fr N ch k:=by
 have hh:∀ n,Be.held wi ch n=Be.held wi' ch n:=fun n=>by
  unfold Be.held
  rw [jG (fun i hi=>by rw [h i (hc i hi)])]
 unfold gF
 rw [show (fun n=>decide (Be.held wi ch n < fr n))=fun n=>decide (Be.held wi' ch n < fr n) from funext fun n=>by rw [hh n],jG (l:=aZ k) (g:=fG wi' ch) (fun i hi=>by unfold fG;rw [h i (bI.mp hi)])]
theorem Bv {ws:List Wi} {n:Int} (hw:∀ w ∈ ws,nR n w) {i:Nat} (hi:i < ws.length):nR n (wif ws i):=by
 unfold wif
 rw [aG,aO hi]
 exact hw _ (dZ hi)
theorem yw {ws:List Wi} {N:Nat} (hw:∀ w ∈ ws,nR (N:Int) w) {i:Nat} (hi:i < ws.length):Be.WiOk N (wif ws i):=by
 obtain ⟨a,b,c,d,_⟩:=Bv hw hi
 exact ⟨a,b,c,d⟩
theorem ne_bool (a b:Bool):gNe (.bool a) (.bool b)=some (.bool (a != b)):=by cases a <;> cases b <;> rfl
theorem P0 (l:List Nat):(cZ l).map PyData.int=l.map fun i:Nat=>PyData.int (i:Int):=by unfold cZ;rw [bZ];rfl
noncomputable def iU (d:Nat→Int) (N:Nat):List Pr:=((aZ N).filter fun n=>decide (0 < Be.prc d n)).map fun n:Nat=>((n:Int),Be.prc d n)
theorem vJ {ws:List Wi} {fs:List Int} {ch:List Nat} {l:Lb} {c:Cm} (hw:∀ w ∈ ws,nR fs.length w) (hc:∀ i ∈ ch,i < ws.length) (hl:ch.length ≤ 1000) (wl:ws.length ≤ 1000) (fl:fs.length ≤ 900)
 (R:Runs (gF (wif ws) (frf fs) fs.length ch ws.length) (aK (fs.length + 1) (some 0)) (aK (fs.length + 1) none) l c) (ll:l.length=fs.length + 1) (al:∀ v,v < fs.length + 1→∃ y,lb l v=some y) :
 h_ [.list (ws.map wiD),.list (fs.map .int),.list ((cZ ch).map .int)]=some (.list ((iU (fun v=>(lb l v).getD 0) fs.length).map prD)):=by
 have W:=wJ (ws:=ws) (fs:=fs) (ch:=ch) hw hc hl wl (by omega)
 have rp:rN (.list [.int 0]) (.int ((fs.length:Int) + 1))=some (.list ((aK (fs.length + 1) (some (0:Int))).map oD)):=by
  rw [Ij (by omega) (by omega),show ((fs.length:Int) + 1).toNat=fs.length + 1 by omega,lY]
  rfl
 have Ch:=pU (ws:=gF (wif ws) (frf fs) fs.length ch ws.length) (c0:=aK (fs.length + 1) (some 0)) (l:=l) (c:=c) (by rw [aQ];omega) (fun w h=>by rw [aQ];exact Be.uf (fun i hi=>yw hw hi) h) (by rw [aQ];exact R)
 have rr:nP (some [.int (fs.length:Int)])=some (fU 0 (fs.length:Int)):=tL (by omega) (by omega)
 have at':∀ v:Nat,v < fs.length + 1→pAt (l.map oD) (v:Int)=some (.int ((lb l v).getD 0)):=fun v hv=>by
  obtain ⟨y,e⟩:=al v hv
  rw [KY (by rw [ll];exact hv),e]
  rfl
 have C1:=oH (g:=(gNl 0)) (c:=(D3.gq)) (e:=(dW (dTup (aF (ao 0) (aF (dOp m8 (dOp gIx (ao 1) (ao 0)) (dOp gIx (ao 1) (dOp fu (ao 0) (dC (.int 1))))) (aM)))))) (δ:=[none,some (.d (.list (l.map oD)))]) (fun k:Nat=>PyData.int (k:Int)) (fun k:Nat=>prD ((k:Int),Be.prc (fun v=>(lb l v).getD 0) k)) (aZ fs.length) (fun k hk=>by
  have hk:=bI.mp hk
  have a1:=at' k (by omega)
  have a2:=at' (k + 1) (by omega)
  rw [show ((k + 1:Nat):Int)=(k:Int) + 1 by omega] at a2
  refine ⟨[some (.d (.int (k:Int))),some (.d (.list (l.map oD)))],rfl,rfl,?_⟩
  simp only [EV,reduceIte,aq,aA,aj,ak,aB,aC,aD,a1,a2,sz (show 2 ≤ 1000000 by decide)]
  rfl)
 have C2:=xU (g:=(gTn 2 (bT (gNl 0) (bT (gNl 1) (gA))))) (c:=(aP (dOp gGt (ao 1) (dC (.int 0))))) (e:=(dW (dTup (aF (ao 0) (aF (ao 1) (aM)))))) (δ:=[none,none]) (fun k:Nat=>prD ((k:Int),Be.prc (fun v=>(lb l v).getD 0) k)) (fun k:Nat=>decide (0 < Be.prc (fun v=>(lb l v).getD 0) k)) (fun k:Nat=>prD ((k:Int),Be.prc (fun v=>(lb l v).getD 0) k)) (aZ fs.length) (fun k _=>by
  refine ⟨[some (.d (.int (k:Int))),some (.d (.int (Be.prc (fun v=>(lb l v).getD 0) k)))],by unfold prD;simp only [EV,reduceIte,aq,aA,aj,ak,aB,aC,aD],?_,fun _=>?_⟩
  ·simp only [EV,reduceIte,aq,aA,aj,ak,aB,aC,aD]
  ·simp only [EV,reduceIte,aq,aA,aj,ak,aB,aC,aD,sz (show 2 ≤ 1000000 by decide)]
   rfl)
 have ca1:∀ x0 x1 x2 x3 x4:Option U,jg 1 [3] [x0,x1,x2,x3,x4]=[none,x3]:=fun _ _ _ _ _=>rfl
 have ca2:∀ x0 x1 x2 x3 x4:Option U,jg 2 [] [x0,x1,x2,x3,x4]=[none,none]:=fun _ _ _ _ _=>rfl
 have fin:((aZ fs.length).filter fun k:Nat=>decide (0 < Be.prc (fun v=>(lb l v).getD 0) k)).map (fun k:Nat=>prD ((k:Int),Be.prc (fun v=>(lb l v).getD 0) k))=(iU (fun v=>(lb l v).getD 0) fs.length).map prD:=by
  unfold iU
  rw [bZ]
  rfl
 rw [fin] at C2
 obtain ⟨m,hm⟩:∃ m,fs.length + 1=m:=⟨_,rfl⟩
 rw [hm] at rp Ch
 unfold h_
 simp only [EV,reduceIte,aq,aA,aj,ak,aB,aC,aD,lMp,rp,W,Ch,at0,rr,t_,bJ,cH,show fs.length ≤ 100000 by omega,ca1,ca2,C1,C2,sz (show 1 ≤ 1000000 by decide)]
theorem zT (ws:List Wi) (ch:List Nat):xY ws (cZ ch)=Be.worth (wif ws) ch:=by
 unfold xY Be.worth cZ
 rw [bZ]
 rfl
end Com
namespace Be
noncomputable abbrev Mk:=List (Wi × Bool)
noncomputable def tG (zs:Mk) (n:Nat):Int:=(zs.map fun z=>if z.2=true then cov z.1 n else 0).sum
noncomputable def pA (zs:Mk):Int:=(zs.map fun z=>if z.2=true then z.1.2.2 else 0).sum
noncomputable def Fits (fr:Nat→Int) (N:Nat) (zs:Mk):Prop:=∀ n,n < N→tG zs n ≤ fr n
structure IsMax (ws:List Wi) (fr:Nat→Int) (N:Nat) (v:Int):Prop where
 has:∃ zs:Mk,zs.map (·.1)=ws∧Fits fr N zs∧pA zs=v
 top:∀ zs:Mk,zs.map (·.1)=ws→Fits fr N zs→pA zs ≤ v
noncomputable def uX (d:Nat→Int) (w:Wi):Int:=w.2.2 - (d w.1.toNat - d w.2.1.toNat)
noncomputable def bnd (ws:List Wi) (fr:Nat→Int) (N:Nat) (d:Nat→Int):Int:=(ws.map fun w=>max 0 (uX d w)).sum + S (fun n=>prc d n * fr n) N
theorem wL {N:Nat} (d:Nat→Int):∀ zs:Mk,(∀ z ∈ zs,WiOk N z.1)→pA zs=(zs.map fun z=>if z.2=true then uX d z.1 else 0).sum + S (fun n=>prc d n * tG zs n) N
 | [],_=>by
  rw [fP (g:=fun _=>0) (fun n _=>by show prc d n * 0=0;rw [lH]),qg]
  rfl
 | z :: r,h=>by
  have ih:=wL d r (fun y hy=>h y (aJ _ hy))
  have c:=H_ (d:=d) (wi:=fun _=>z.1) (k:=0) (h z (aN ..))
  have m:∀ n,tG (z :: r) n=(if z.2=true then cov z.1 n else 0) + tG r n:=fun n=>by unfold tG;rw [bx,cC]
  have w:pA (z :: r)=(if z.2=true then z.1.2.2 else 0) + pA r:=by unfold pA;rw [bx,cC]
  have sm:S (fun n=>prc d n * tG (z :: r) n) N=S (fun n=>prc d n * (if z.2=true then cov z.1 n else 0)) N + S (fun n=>prc d n * tG r n) N:=by
   rw [← wG]
   exact fP (fun n _=>by rw [m n,Int.mul_add])
  rw [w,ih,bx,cC,sm]
  by_cases q:z.2=true
  ·have s1:S (fun n=>prc d n * (if z.2=true then cov z.1 n else 0)) N=S (fun n=>prc d n * cov z.1 n) N:=fP (fun n _=>by rw [if_pos q])
   rw [if_pos q,if_pos q,s1,c]
   unfold uX
   omega
  ·have s1:S (fun n=>prc d n * (if z.2=true then cov z.1 n else 0)) N=0:=by
    rw [fP (g:=fun _=>0) (fun n _=>by rw [if_neg q,lH]),qg]
   rw [if_neg q,if_neg q,s1]
   omega
theorem Ik {α:Type} {f g:α→Int}:∀ {l:List α},(∀ x ∈ l,f x ≤ g x)→(l.map f).sum ≤ (l.map g).sum
 | [],_=>iK _
 | a :: r,h=>by
  have:=Ik (l:=r) (fun x hx=>h x (aJ _ hx))
  have:=h a (aN ..)
  rw [bx,bx,cC,cC]
  omega
theorem KZ {ws:List Wi} {fr:Nat→Int} {N:Nat} {d:Nat→Int} (ho:∀ w ∈ ws,WiOk N w) (hp:∀ n,n < N→0 ≤ prc d n) {zs:Mk} (e:zs.map (·.1)=ws) (ft:Fits fr N zs):pA zs ≤ bnd ws fr N d:=by
 rw [wL d zs (fun z hz=>ho _ (by rw [← e];exact cN.mpr ⟨z,hz,rfl⟩))]
 unfold bnd
 rw [← e,bZ]
 refine Int.add_le_add (Ik fun z _=>?_) (Sv fun n hn=>Int.mul_le_mul_of_nonneg_left (ft n hn) (hp n hn))
 show (if z.2=true then uX d z.1 else 0) ≤ max 0 (uX d z.1)
 split <;> omega
theorem lR (f:Nat→Int):∀ k,((aZ k).map f).sum=S f k
 | 0=>rfl
 | k + 1=>by rw [List.range_succ,fQ,List.sum_append,lR f k];simp [S]
structure Bst (ws:List Wi) (fr:Nat→Int) (N:Nat) (d:Nat→Int) (v:Int):Prop where
 mx:IsMax ws fr N v
 pp:∀ n,n < N→0 ≤ prc d n
 eq:v=bnd ws fr N d
theorem wM (ws:List Wi) (x:Wi):(aZ ws.length).map (fun i=>ws.getD i x)=ws:=by
 apply ju
 intro i
 rw [bf]
 by_cases h:i < ws.length
 ·rw [eY h,aO h,gH,aG,aO h]
  rfl
 ·rw [bK (by simpa using h),bK (by omega)]
  rfl
theorem P_ {ws:List Wi} {x:Wi} {fr:Nat→Int} {N:Nat} {ch:List Nat} {d:Nat→Int} (ho:∀ w ∈ ws,WiOk N w) (ok:ChOk (fun i=>ws.getD i x) fr N ch ws.length) (g:Good (gF (fun i=>ws.getD i x) fr N ch ws.length) d):Bst ws fr N d (worth (fun i=>ws.getD i x) ch):=by
 have ho':∀ i,i < ws.length→WiOk N (ws.getD i x):=fun i hi=>by
  rw [aG,aO hi]
  exact ho _ (dZ hi)
 have pp:∀ n,n < N→0 ≤ prc d n:=fun n hn=>Dq g hn
 have eq:worth (fun i=>ws.getD i x) ch=bnd ws fr N d:=by
  rw [Ig ho' ok g]
  unfold bnd
  congr 1
  rw [← lR]
  conv=>rhs;rw [← wM ws x]
  rw [bZ]
  rfl
 refine ⟨⟨⟨(aZ ws.length).map fun i=>(ws.getD i x,decide (i ∈ ch)),?_,fun n hn=>?_,?_⟩,fun zs e ft=>by rw [eq];exact KZ ho pp e ft⟩,pp,eq⟩
 ·rw [bZ]
  exact wM ws x
 ·unfold tG
  rw [bZ,show ((fun z:Wi × Bool=>if z.2=true then cov z.1 n else 0) ∘ fun i=>(ws.getD i x,decide (i ∈ ch)))=fun i=>if i ∈ ch then cov (ws.getD i x) n else 0 from funext fun i=>by simp [Function.comp],lR]
  have:=ok.fit n hn
  rwa [yr ok.nd ok.lt] at this
 ·unfold pA
  rw [bZ,show ((fun z:Wi × Bool=>if z.2=true then z.1.2.2 else 0) ∘ fun i=>(ws.getD i x,decide (i ∈ ch)))=fun i=>if i ∈ ch then (ws.getD i x).2.2 else 0 from funext fun i=>by simp [Function.comp],lR]
  exact (zO ok.nd ok.lt).symm
section
variable {ws:List Wi} {fr fr':Nat→Int} {N:Nat} {d:Nat→Int} {v v':Int}
end
end Be
namespace Com
open PySem D3 My
open Be (ChOk Good gF IsMax Bst)
theorem Qa {ws:List Wi} {N:Nat} (hw:∀ w ∈ ws,nR (N:Int) w):∀ w ∈ ws,Be.WiOk N w:=fun w h=>by
 obtain ⟨a,b,c,d,_⟩:=hw w h
 exact ⟨a,b,c,d⟩
theorem fsum {α:Type} (P:Nat→Bool) (f:Nat→α) (Q:α→Bool) (g:α→Int):∀ l:List Nat,((((l.filter P).map f).filter Q).map g).sum=(l.map fun n=>if P n=true∧Q (f n)=true then g (f n) else 0).sum
 | []=>rfl
 | a :: r=>by
  have ih:=fsum P f Q g r
  rw [bx,cC,← ih]
  by_cases p:P a=true
  ·rw [iB p,bx]
   by_cases q:Q (f a)=true
   ·rw [iB q,bx,cC,if_pos ⟨p,q⟩]
   ·rw [iD q,if_neg (fun z=>q z.2),j5]
  ·rw [iD p,if_neg (fun z=>p z.1),j5]
theorem uY {d:Nat→Int} {N:Nat} (hp:∀ n,n < N→0 ≤ Be.prc d n) {a b:Int} (h0:0 ≤ a) (h1:a ≤ b) (h2:b ≤ N):tE (iU d N) a b=d a.toNat - d b.toNat:=by
 unfold tE iU
 rw [fsum,Be.lR,← Be.LR d a.toNat b.toNat (by omega) N (by omega)]
 refine Be.fP fun n hn=>?_
 have p:=hp n hn
 simp only [decide_eq_true_eq,aR]
 by_cases c:a.toNat ≤ n∧n < b.toNat
 ·rw [if_pos c]
  by_cases q:0 < Be.prc d n
  ·rw [if_pos ⟨q,by omega,by omega⟩];rfl
  ·rw [if_neg (fun z=>q z.1)]
   have:Be.prc d n=0:=by omega
   exact this.symm
 ·rw [if_neg c,if_neg (by omega)]
theorem Fg (d:Nat→Int) (N:Nat):(iU d N).length ≤ N:=by
 unfold iU
 rw [aU]
 have:=oR (fun n=>decide (0 < Be.prc d n)) (aZ N)
 rwa [cH] at this
end Com
namespace Com
open PySem D3 My
theorem uZ (P:Nat→Bool):∀ n,(∃ m,m < n∧P m=true∧∀ i,i < m→P i=false)∨∀ i,i < n→P i=false
 | 0=>.inr fun i h=>by omega
 | n + 1=>by
  rcases uZ P n with ⟨m,h1,h2,h3⟩ | h
  ·exact .inl ⟨m,by omega,h2,h3⟩
  ·cases c:P n with
   | true=>exact .inl ⟨n,by omega,c,h⟩
   | false =>
    refine .inr fun i hi=>?_
    by_cases e:i=n
    ·rw [e];exact c
    ·exact h i (by omega)
end Com
namespace Com
open PySem D3 My
theorem all_bools {α:Type} (f:α→Bool) (l:List α):vD [.list (l.map fun a=>PyData.bool (f a))]=some (.bool (l.all f)):=by
 have:nu (l.map fun a=>PyData.bool (f a))=some (l.map f):=by
  induction l with
  | nil=>rfl
  | cons a r ih=>rw [bx,nu,ih];rfl
 show (nu _).map _=_
 rw [this]
 simp [List.all_map]
noncomputable def inB (ws:List Wi) (cs:List Int):Bool:=cs.all fun c=>decide (0 ≤ c) && decide (c < (ws.length:Int))
noncomputable def riB (cs:List Int):Bool:=(cs.zip (cs.drop 1)).all fun p=>decide (p.1 < p.2)
noncomputable def fiB (ws:List Wi) (fs cs:List Int):Bool:=(aZ fs.length).all fun n:Nat=>decide ((jC ws cs (n:Int):Int) ≤ fs.getD n 0)
noncomputable def chB (ws:List Wi) (fs cs:List Int):Bool:=(riB cs && inB ws cs) && fiB ws fs cs
theorem Dt:∀ a b:List Int,o8 (a.map .int) (b.map .int)=(a.zip b).map prD
 | [],_=>by simp [o8]
 | _ :: _,[]=>by simp [o8]
 | x :: r,y :: s=>by
  show PyData.tuple [.int x,.int y] :: o8 (r.map .int) (s.map .int)=_
  rw [Dt r s]
  rfl
theorem u9 {l:List Int} (hl:l.length ≤ 1000):Com.fL [.list (l.map .int)]=some (.bool (riB l)):=by
 have C:=oH (g:=(gTn 2 (bT (gNl 0) (bT (gNl 1) (gA))))) (c:=(D3.gq)) (e:=(dOp gLt (ao 0) (ao 1))) (δ:=[none,none]) prD (fun p=>.bool (decide (p.1 < p.2))) (l.zip (l.drop 1)) (fun p h=>⟨[some (.d (.int p.1)),some (.d (.int p.2))],rfl,rfl,by simp only [EV,reduceIte,aq,aA,aj,ak,aB,aC,aD]⟩)
 have ca:∀ a:Option U,jg 2 [] [a]=[none,none]:=fun _=>rfl
 have ct:cutD (l.map .int) (some 1) none=(l.drop 1).map .int:=by
  rw [Sq (by decide),List.map_drop]
  rfl
 have pl:(l.zip (l.drop 1)).length ≤ 1000:=by rw [List.length_zip];omega
 unfold Com.fL
 simp only [EV,reduceIte,aq,aA,aj,ak,aB,aC,aD,ct,Dt,lMp,show (l.zip (l.drop 1)).length ≤ 100000 by omega,ca,C,all_bools]
 rfl
theorem Il {ws:List Wi} {fs cs:List Int} (hl:cs.length ≤ 1000) (fl:fs.length ≤ 1000) (hin:∀ c ∈ cs,0 ≤ c∧c < ws.length):Com.pq [.list (ws.map wiD),.list (fs.map .int),.list (cs.map .int)]=some (.bool (fiB ws fs cs)):=by
 have C3:=oH (g:=(gTn 2 (bT (gNl 0) (bT (gNl 1) (gA))))) (c:=(D3.gq)) (e:=(dOp gLe (dCall fD (aF (ao 2) (aF (ao 3) (aF (ao 0) (aM))))) (ao 1))) (δ:=[none,none,some (.d (.list (ws.map wiD))),some (.d (.list (cs.map .int)))]) (fun k:Nat=>PyData.tuple [.int (k:Int),.int (fs.getD k 0)]) (fun n:Nat=>.bool (decide ((jC ws cs (n:Int):Int) ≤ fs.getD n 0))) (aZ fs.length) (fun k hk=>by
  refine ⟨[some (.d (.int (k:Int))),some (.d (.int (fs.getD k 0))),some (.d (.list (ws.map wiD))),some (.d (.list (cs.map .int)))],rfl,rfl,?_⟩
  simp only [EV,reduceIte,aq,aA,aj,ak,aB,aC,aD,rY hl hin])
 have cc:∀ a b c:Option U,jg 2 [0,2] [a,b,c]=[none,none,a,c]:=fun _ _ _=>rfl
 unfold Com.pq
 simp only [EV,reduceIte,aq,aA,aj,ak,aB,aC,aD,Ew,lMp,cH,show fs.length ≤ 100000 by omega,cc,C3,all_bools]
 rfl
theorem sy {ws:List Wi} {cs:List Int}:inB ws cs=true↔∀ c ∈ cs,0 ≤ c∧c < ws.length:=by
 unfold inB
 simp [bY]
theorem sE {ws:List Wi} {cs:List Int} (hl:cs.length ≤ 1000) (h:∀ c ∈ cs,0 ≤ c∧c < ws.length) (n:Int):Com.cU [.list (ws.map wiD),.list (cs.map .int),.int n]=some (.int (jC ws cs n:Int)):=by
 have C:=xU (g:=(gNl 0)) (c:=(D3.jf (aP (dOp gLe (dOp gIx (dOp gIx (ao 2) (ao 0)) (dC (.int 0))) (ao 1))) (aP (dOp gLt (ao 1) (dOp gIx (dOp gIx (ao 2) (ao 0)) (dC (.int 1))))))) (e:=(dW (ao 0))) (δ:=[none,some (.d (.int n)),some (.d (.list (ws.map wiD)))]) PyData.int (fun c=>hbN n (wn (wat ws c))) PyData.int cs (fun c hc=>by
  have e:=fW wiD (0,0,0) (h c hc).1 (h c hc).2
  have w0:gIx (wiD (ws.getD c.toNat (0,0,0))) (.int 0)=some (.int (ws.getD c.toNat (0,0,0)).1):=rfl
  have w1:gIx (wiD (ws.getD c.toNat (0,0,0))) (.int 1)=some (.int (ws.getD c.toNat (0,0,0)).2.1):=rfl
  refine ⟨[some (.d (.int c)),some (.d (.int n)),some (.d (.list (ws.map wiD)))],rfl,?_,fun _=>rfl⟩
  unfold hbN wn wat
  by_cases q:(ws.getD c.toNat (0,0,0)).1 ≤ n
  ·simp only [EV,reduceIte,aq,aA,aj,ak,aB,aC,aD,e,w0,w1,dTr q]
   rfl
  ·simp only [EV,reduceIte,aq,aA,aj,ak,aB,aC,aD,e,w0,w1,dFa q]
   rfl)
 have ca:∀ a b c:Option U,jg 1 [2,0] [a,b,c]=[none,c,a]:=fun _ _ _=>rfl
 unfold Com.cU
 simp only [EV,reduceIte,aq,aA,aj,ak,aB,aC,aD,lMp,show cs.length ≤ 100000 by omega,ca,C]
 rfl
noncomputable def pC (ws:List Wi) (cs:List Int) (k:Nat):Bool:=(decide (0 ≤ cs.getD k 0) && decide (cs.getD k 0 < (ws.length:Int))) && (decide (k=0) || decide (cs.getD (k - 1) 0 < cs.getD k 0))
theorem Bw {cs:List Int}:riB cs=true↔∀ k,k + 1 < cs.length→cs.getD k 0 < cs.getD (k + 1) 0:=by
 unfold riB
 rw [bY]
 constructor
 ·intro h k hk
  have hz:(cs.zip (cs.drop 1))[k]? = some (cs.getD k 0,cs.getD (k + 1) 0):=by
   rw [mK]
   constructor
   ·show cs[k]? = some (cs.getD k 0)
    rw [aG,aO (by omega)];rfl
   ·show (cs.drop 1)[k]? = some (cs.getD (k + 1) 0)
    rw [iV,aG,show 1 + k=k + 1 by omega,aO hk];rfl
  exact of_decide_eq_true (h _ (gM hz))
 ·intro h p hp
  obtain ⟨k,hk⟩:=List.mem_iff_getElem?.mp hp
  obtain ⟨h1,h2⟩:=mK.mp hk
  rw [iV,show 1 + k=k + 1 by omega] at h2
  obtain ⟨l2,_⟩:=cg.mp h2
  have:=h k l2
  rw [aG,aG,h1,h2] at this
  exact dTr this
theorem Im {ws:List Wi} {cs:List Int}:(riB cs && inB ws cs)=true↔∀ k,k < cs.length→pC ws cs k=true:=by
 rw [aR,Bw,sy]
 constructor
 ·rintro ⟨h1,h2⟩ k hk
  unfold pC
  have m:=h2 (cs.getD k 0) (by rw [aG,aO hk];exact dZ hk)
  rw [dTr m.1,dTr m.2]
  by_cases z:k=0
  ·rw [dTr z];rfl
  ·have:=h1 (k - 1) (by omega)
   rw [show k - 1 + 1=k by omega] at this
   rw [dTr this,dFa z]
   rfl
 ·intro h
  constructor
  ·intro k hk
   have:=h (k + 1) hk
   unfold pC at this
   simp only [aR,jd,decide_eq_true_eq,Nat.add_sub_cancel] at this
   rcases this.2 with z | z
   ·omega
   ·exact z
  ·intro c hc
   obtain ⟨k,hk,rfl⟩:=oX.mp hc
   have:=h k hk
   unfold pC at this
   simp only [aR,jd,decide_eq_true_eq] at this
   have e:cs.getD k 0=cs[k]:=by rw [aG,aO hk];rfl
   rw [e] at this
   exact this.1
section
variable {ws:List Wi} {fs cs:List Int}
theorem u_ (y3 y4:Option U) {k:Nat} (hk:k < cs.length):((sIf (D3.tOr (D3.iI (aP (iG gLe gLt (dC (.int 0)) (dOp gIx (ao 2) (ao 3)) (dCall iW (aF (ao 0) (aM)))))) (D3.jf (aP (dOp gGt (ao 3) (dC (.int 0)))) (aP (dOp gLe (dOp gIx (ao 2) (ao 3)) (dOp gIx (ao 2) (dOp m8 (ao 3) (dC (.int 1)))))))) (b_ (dC (.bool false))) (dF))) [some (.d (.list (ws.map wiD))),some (.d (.list (fs.map .int))),some (.d (.list (cs.map .int))),some (.d (.int (k:Int))),y4]=if pC ws cs k=true then some (.nx [some (.d (.list (ws.map wiD))),some (.d (.list (fs.map .int))),some (.d (.list (cs.map .int))),some (.d (.int (k:Int))),y4]) else some (.rt (.bool false)):=by
 have e:=fW PyData.int (l:=cs) 0 (i:=(k:Int)) (by omega) (by omega)
 rw [bJ] at e
 have okT:∀ b,pC ws cs k=b→((decide (0 ≤ cs.getD k 0) && decide (cs.getD k 0 < (ws.length:Int))) && (decide (k=0) || decide (cs.getD (k - 1) 0 < cs.getD k 0)))=b:=fun b h=>h
 by_cases c1:0 ≤ cs.getD k 0
 ·by_cases c2:cs.getD k 0 < (ws.length:Int)
  ·by_cases z:k=0
   ·have ok:pC ws cs k=true:=by unfold pC;rw [dTr c1,dTr c2,dTr z];rfl
    rw [ok,if_pos rfl]
    simp only [EV,reduceIte,aq,aA,aj,ak,aB,aC,aD,e,lMp,dTr c1,dTr c2,dFa (show ¬ (k:Int) > 0 by omega)]
   ·have e1:=fW PyData.int (l:=cs) 0 (i:=(k:Int) - 1) (by omega) (by omega)
    rw [show ((k:Int) - 1).toNat=k - 1 by omega] at e1
    have zp:(k:Int) > 0:=by omega
    by_cases c3:cs.getD (k - 1) 0 < cs.getD k 0
    ·have ok:pC ws cs k=true:=by unfold pC;rw [dTr c1,dTr c2,dTr c3,dFa z];rfl
     rw [ok,if_pos rfl]
     simp only [EV,reduceIte,aq,aA,aj,ak,aB,aC,aD,e,e1,lMp,dTr c1,dTr c2,dTr zp,dFa (show ¬ cs.getD k 0 ≤ cs.getD (k - 1) 0 by omega)]
    ·have ok:pC ws cs k=false:=by unfold pC;rw [dTr c1,dTr c2,dFa c3,dFa z];rfl
     rw [ok,if_neg (by decide)]
     simp only [EV,reduceIte,aq,aA,aj,ak,aB,aC,aD,e,e1,lMp,dTr c1,dTr c2,dTr zp,dTr (show cs.getD k 0 ≤ cs.getD (k - 1) 0 by omega)]
  ·have ok:pC ws cs k=false:=by unfold pC;rw [dTr c1,dFa c2];rfl
   rw [ok,if_neg (by decide)]
   simp only [EV,reduceIte,aq,aA,aj,ak,aB,aC,aD,e,lMp,dTr c1,dFa c2]
 ·have ok:pC ws cs k=false:=by unfold pC;rw [dFa c1];rfl
  rw [ok,if_neg (by decide)]
  simp only [EV,reduceIte,aq,aA,aj,ak,aB,aC,aD,e,lMp,dFa c1]
theorem K4 (hl:cs.length ≤ 1000) (fl:fs.length ≤ 1000):Com.eE [.list (ws.map wiD),.list (fs.map .int),.list (cs.map .int)]=some (.bool (chB ws fs cs)):=by
 have rr:nP (some [.int (cs.length:Int)])=some (fU 0 (cs.length:Int)):=tL (by omega) (by omega)
 have r2:nP (some [.int (fs.length:Int)])=some (fU 0 (fs.length:Int)):=tL (by omega) (by omega)
 have rl:∀ n:Nat,(fU 0 (n:Int)).length=n:=fun n=>by unfold fU;rw [aU,cH];omega
 unfold Com.eE
 rcases uZ (fun k=>!pC ws cs k) cs.length with ⟨m,hm,hp,hn⟩ | hn
 ·have bad:chB ws fs cs=false:=by
   unfold chB
   cases q:riB cs && inB ws cs with
   | false=>rfl
   | true =>
    have:=Im.mp q m hm
    rw [this] at hp
    cases hp
  have e:=zH (g:=(gNl 3)) (b:=(sIf (D3.tOr (D3.iI (aP (iG gLe gLt (dC (.int 0)) (dOp gIx (ao 2) (ao 3)) (dCall iW (aF (ao 0) (aM)))))) (D3.jf (aP (dOp gGt (ao 3) (dC (.int 0)))) (aP (dOp gLe (dOp gIx (ao 2) (ao 3)) (dOp gIx (ao 2) (dOp m8 (ao 3) (dC (.int 1)))))))) (b_ (dC (.bool false))) (dF))) (fun _ δ=>∃ y3,δ=[some (.d (.list (ws.map wiD))),some (.d (.list (fs.map .int))),some (.d (.list (cs.map .int))),y3,none]) (v:=.bool false) m (fU 0 (cs.length:Int))
   [some (.d (.list (ws.map wiD))),some (.d (.list (fs.map .int))),some (.d (.list (cs.map .int))),none,none] ⟨none,rfl⟩ (by rw [rl];exact hm)
   (by
    rintro i d δ hi hd ⟨y3,rfl⟩
    obtain ⟨hk,rfl⟩:=lN hd
    refine ⟨_,_,rfl,?_,some (.d (.int (i:Int))),rfl⟩
    refine (u_ (ws:=ws) (fs:=fs) none none (show i < cs.length by omega)).trans ?_
    have:=hn i hi
    rw [if_pos (by simpa using this)])
   (by
    rintro d δ hd ⟨y3,rfl⟩
    obtain ⟨hk,rfl⟩:=lN hd
    refine ⟨_,rfl,?_⟩
    refine (u_ (ws:=ws) (fs:=fs) none none hm).trans ?_
    rw [if_neg (by simpa using hp)])
  simp only [EV,reduceIte,aq,aA,aj,ak,aB,aC,aD,lMp,rr,e]
  rw [bad]
 ·have good:(riB cs && inB ws cs)=true:=Im.mpr fun k hk=>by simpa using hn k hk
  have hin:=sy.mp (cF.mp good).2
  obtain ⟨δ',e,y3,rfl⟩:=oG (g:=(gNl 3)) (b:=(sIf (D3.tOr (D3.iI (aP (iG gLe gLt (dC (.int 0)) (dOp gIx (ao 2) (ao 3)) (dCall iW (aF (ao 0) (aM)))))) (D3.jf (aP (dOp gGt (ao 3) (dC (.int 0)))) (aP (dOp gLe (dOp gIx (ao 2) (ao 3)) (dOp gIx (ao 2) (dOp m8 (ao 3) (dC (.int 1)))))))) (b_ (dC (.bool false))) (dF))) (fun _ δ=>∃ y3,δ=[some (.d (.list (ws.map wiD))),some (.d (.list (fs.map .int))),some (.d (.list (cs.map .int))),y3,none]) (fU 0 (cs.length:Int))
   [some (.d (.list (ws.map wiD))),some (.d (.list (fs.map .int))),some (.d (.list (cs.map .int))),none,none] ⟨none,rfl⟩
   (by
    rintro i d δ hd ⟨y3,rfl⟩
    obtain ⟨hk,rfl⟩:=lN hd
    refine ⟨_,_,rfl,.inl ?_,some (.d (.int (i:Int))),rfl⟩
    refine (u_ (ws:=ws) (fs:=fs) none none (show i < cs.length by omega)).trans ?_
    have:=hn i (by omega)
    rw [if_pos (by simpa using this)])
  have B2:∀ (n:Nat),n < fs.length→((sIf (aP (dOp gGt (dCall cU (aF (ao 0) (aF (ao 2) (aF (ao 4) (aM))))) (dOp gIx (ao 1) (ao 4)))) (b_ (dC (.bool false))) (dF))) [some (.d (.list (ws.map wiD))),some (.d (.list (fs.map .int))),some (.d (.list (cs.map .int))),y3,some (.d (.int (n:Int)))]=if (decide ((jC ws cs (n:Int):Int) ≤ fs.getD n 0))=true then some (.nx [some (.d (.list (ws.map wiD))),some (.d (.list (fs.map .int))),some (.d (.list (cs.map .int))),y3,some (.d (.int (n:Int)))]) else some (.rt (.bool false)):=fun n hn=>by
   have en:=fW PyData.int (l:=fs) 0 (i:=(n:Int)) (by omega) (by omega)
   rw [bJ] at en
   by_cases c:(jC ws cs (n:Int):Int) ≤ fs.getD n 0
   ·rw [dTr c,if_pos rfl]
    simp only [EV,reduceIte,aq,aA,aj,ak,aB,aC,aD,sE hl hin,en,dFa (show ¬ (jC ws cs (n:Int):Int) > fs.getD n 0 by omega)]
   ·rw [dFa c,if_neg (by decide)]
    simp only [EV,reduceIte,aq,aA,aj,ak,aB,aC,aD,sE hl hin,en,dTr (show (jC ws cs (n:Int):Int) > fs.getD n 0 by omega)]
  rcases uZ (fun n=>!decide ((jC ws cs (n:Int):Int) ≤ fs.getD n 0)) fs.length with ⟨m,hm,hp,hn2⟩ | hn2
  ·have bad:chB ws fs cs=false:=by
    unfold chB
    rw [good]
    show fiB ws fs cs=false
    cases q:fiB ws fs cs with
    | false=>rfl
    | true =>
     unfold fiB at q
     have:=bY.mp q m (bI.mpr hm)
     rw [this] at hp
     cases hp
   have e2:=zH (g:=(gNl 4)) (b:=(sIf (aP (dOp gGt (dCall cU (aF (ao 0) (aF (ao 2) (aF (ao 4) (aM))))) (dOp gIx (ao 1) (ao 4)))) (b_ (dC (.bool false))) (dF))) (fun _ δ=>∃ y4,δ=[some (.d (.list (ws.map wiD))),some (.d (.list (fs.map .int))),some (.d (.list (cs.map .int))),y3,y4]) (v:=.bool false) m (fU 0 (fs.length:Int))
    [some (.d (.list (ws.map wiD))),some (.d (.list (fs.map .int))),some (.d (.list (cs.map .int))),y3,none] ⟨none,rfl⟩ (by rw [rl];exact hm)
    (by
     rintro i d δ hi hd ⟨y4,rfl⟩
     obtain ⟨hk,rfl⟩:=lN hd
     refine ⟨_,_,rfl,?_,some (.d (.int (i:Int))),rfl⟩
     refine (B2 i (by omega)).trans ?_
     have:=hn2 i hi
     rw [if_pos (by simpa using this)])
    (by
     rintro d δ hd ⟨y4,rfl⟩
     obtain ⟨hk,rfl⟩:=lN hd
     refine ⟨_,rfl,?_⟩
     refine (B2 m hm).trans ?_
     rw [if_neg (by simpa using hp)])
   simp only [EV,reduceIte,aq,aA,aj,ak,aB,aC,aD,lMp,rr,e,r2,e2]
   rw [bad]
  ·have gd:chB ws fs cs=true:=by
    unfold chB
    rw [good]
    show fiB ws fs cs=true
    unfold fiB
    rw [bY]
    intro n hn'
    simpa using hn2 n (bI.mp hn')
   obtain ⟨δ2,e2,y4,rfl⟩:=oG (g:=(gNl 4)) (b:=(sIf (aP (dOp gGt (dCall cU (aF (ao 0) (aF (ao 2) (aF (ao 4) (aM))))) (dOp gIx (ao 1) (ao 4)))) (b_ (dC (.bool false))) (dF))) (fun _ δ=>∃ y4,δ=[some (.d (.list (ws.map wiD))),some (.d (.list (fs.map .int))),some (.d (.list (cs.map .int))),y3,y4]) (fU 0 (fs.length:Int))
    [some (.d (.list (ws.map wiD))),some (.d (.list (fs.map .int))),some (.d (.list (cs.map .int))),y3,none] ⟨none,rfl⟩
    (by
     rintro i d δ hd ⟨y4,rfl⟩
     obtain ⟨hk,rfl⟩:=lN hd
     refine ⟨_,_,rfl,.inl ?_,some (.d (.int (i:Int))),rfl⟩
     refine (B2 i (by omega)).trans ?_
     have:=hn2 i (by omega)
     rw [if_pos (by simpa using this)])
   simp only [EV,reduceIte,aq,aA,aj,ak,aB,aC,aD,lMp,rr,e,r2,e2]
   rw [gd]
end
end Com
namespace K53
open PySem D3
noncomputable abbrev iw:List D→Option D:=Com.iw
noncomputable def ig:List D→Option D:=fnD 1 0 (b_ (dCall vD (aF (gb (Ny (ao 0)) (gNl 0) (gq) (dCall iw (aF (ao 0) (aM))) 1 []) (aM))))
noncomputable def jN:List D→Option D:=fnD 2 0 (b_ (lu (dUn (gIs "tuple") (ao 0)) (lu (dOp gEq (dCall iW (aF (ao 0) (aM))) (ao 1)) (dCall ig (aF (ao 0) (aM))))))
noncomputable def nU:List D→Option D:=fnD 1 0 (b_ (dCall jN (aF (ao 0) (aF (dC (.int 2)) (aM)))))
noncomputable def jl:List D→Option D:=fnD 1 0 (b_ (lu (dUn (gIs "list") (ao 0)) (dCall ig (aF (ao 0) (aM)))))
noncomputable abbrev fL:List D→Option D:=Com.fL
noncomputable abbrev iT:List D→Option D:=Com.iT
noncomputable abbrev mX:List D→Option D:=Com.mX
noncomputable abbrev jT:List D→Option D:=Com.jT
noncomputable abbrev gh:List D→Option D:=Com.gh
noncomputable abbrev cY:List D→Option D:=Com.cY
noncomputable abbrev qd:List D→Option D:=Com.qd
noncomputable abbrev dJ:List D→Option D:=Com.dJ
noncomputable abbrev fD:List D→Option D:=Com.fD
noncomputable abbrev pq:List D→Option D:=Com.pq
noncomputable def jm:List D→Option D:=fnD 2 0 (b_ (lu (dCall jl (aF (ao 1) (aM))) (lu (dCall fL (aF (ao 1) (aM))) (dCall vD (aF (gb (mz (ao 1)) (gNl 0) (gq) (iG gLe gLt (dC (.int 0)) (ao 0) (dCall iW (aF (ao 1) (aM)))) 1 [0]) (aM))))))
noncomputable def fj:List D→Option D:=fnD 3 0 (aY (sS (dCall cY (aF (ao 0) (aF (ao 1) (aM)))))
 (b_ (lu (dCall jm (aF (ao 0) (aF (ao 2) (aM)))) (dCall pq (aF (ao 0) (aF (ao 1) (aF (ao 2) (aM))))))))
noncomputable def jU:List D→Option D:=fnD 2 0 (b_ (lu (dCall nU (aF (ao 1) (aM))) (lu (iG gLe gLt (dC (.int 0)) (dOp gIx (ao 1) (dC (.int 0))) (dCall iW (aF (ao 0) (aM)))) (dOp gGe (dOp gIx (ao 1) (dC (.int 1))) (dC (.int 1))))))
noncomputable def fV:List D→Option D:=fnD 2 0 (aY (sIf (D3.tOr (D3.iI (aP (dUn (gIs "list") (ao 1)))) (D3.iI (aP (dCall vD (aF (gb (mz (ao 1)) (gNl 0) (gq) (dCall jU (aF (ao 1) (aF (ao 0) (aM)))) 1 [0]) (aM)))))) (b_ (dC (.bool false))) (dF))
 (b_ (dCall fL (aF (gb (mz (ao 1)) (gTn 2 (bT (gNl 0) (bT (gNl 1) (gA)))) (gq) (dW (ao 0)) 2 []) (aM)))))
noncomputable abbrev jH:List D→Option D:=Com.jH
noncomputable abbrev jB:List D→Option D:=Com.jB
noncomputable def jo:List D→Option D:=fnD 4 2 (aY (sIf (D3.tOr (D3.iI (aP (dCall fj (aF (ao 0) (aF (ao 1) (aF (ao 2) (aM))))))) (D3.iI (aP (dCall fV (aF (ao 1) (aF (ao 3) (aM))))))) (b_ (dC (.bool false))) (dF))
 (aY (ou (sU (ao 0)) (gTn 2 (bT (gNl 4) (bT (gNl 5) (gA)))) (aY (sIf (D3.jf (aP (dOp gIn (ao 4) (ao 2))) (aP (dOp gLt (dCall jH (aF (ao 5) (aF (ao 3) (aM)))) (dC (.int 0))))) (b_ (dC (.bool false))) (dF))
 (sIf (D3.jf (aP (dOp oF (ao 4) (ao 2))) (aP (dOp gGt (dCall jH (aF (ao 5) (aF (ao 3) (aM)))) (dC (.int 0))))) (b_ (dC (.bool false))) (dF))))
 (b_ (dCall jB (aF (ao 0) (aF (ao 1) (aF (ao 2) (aF (ao 3) (aM)))))))))
noncomputable abbrev fB:List D→Option D:=Com.fB
noncomputable abbrev fM:List D→Option D:=Com.fM
noncomputable abbrev iY:List D→Option D:=Com.iY
noncomputable abbrev iZ:List D→Option D:=Com.iZ
noncomputable abbrev dU:List D→Option D:=Com.dU
noncomputable def gJ:List D→Option D:=fnL 4 5 (aY (bh 4 (dOp gIx (ao 0) (ao 3)))
 (aY (bh 5 (dOp rN (dR (aF (dC (.none)) (aM))) (dOp fu (dCall iW (aF (ao 1) (aM))) (dC (.int 1)))))
 (aY (oU 5 (dOp gIx (ao 4) (dC (.int 1))) (dC (.int 0)))
 (aY (bh 6 (dCall iZ (aF (ao 5) (aF (dCall iY (aF (dSl (ao 0) Cj (yW (ao 3))) (aF (ao 1) (aF (ao 2) (aM))))) (aM)))))
 (aY (bh 7 (dOp gIx (dOp gIx (ao 6) (dC (.int 0))) (dOp gIx (ao 4) (dC (.int 0)))))
 (aY (sIf (D3.tOr (aP (dUn xq (ao 7))) (aP (dOp gGe (ao 7) (dOp gIx (ao 4) (dC (.int 2)))))) (rB (ao 2)) (dF))
 (aY (bh 8 (dOp qJ (dCall dU (aF (dOp gIx (ao 6) (dC (.int 1))) (aF (dOp gIx (ao 4) (dC (.int 1))) (aF (dOp gIx (ao 4) (dC (.int 0))) (aM))))) (dR (aF (ao 3) (aM)))))
 (rB (gb (lG (aF (dOp fu (ao 3) (dC (.int 1))) (aM))) (gNl 0) (aP (dOp gNe (dOp gIn (ao 0) (ao 1)) (dOp gIn (ao 0) (ao 2)))) (dW (ao 0)) 1 [2,8])))))))))
noncomputable abbrev h_:List D→Option D:=Com.h_
noncomputable def gD:List D→Option D:=fnL 2 2 (aY (sS (dCall cY (aF (ao 0) (aF (ao 1) (aM)))))
 (aY (bh 2 (dR (aM)))
 (aY (ou (lG (aF (dCall iW (aF (ao 0) (aM))) (aM))) (gNl 3) (wg 2 gJ (ao 0) (ao 1) (ao 3)))
 (tu 2 (dCall dJ (aF (ao 0) (aF (ao 2) (aM)))) (dCall h_ (aF (ao 0) (aF (ao 1) (aF (ao 2) (aM)))))))))
noncomputable abbrev iQ:List D→Option D:=Com.iQ
noncomputable abbrev iR:List D→Option D:=Com.iR
noncomputable abbrev dI:List D→Option D:=Com.dI
noncomputable abbrev cM:List D→Option D:=Com.cM
noncomputable abbrev eZ:List D→Option D:=Com.eZ
noncomputable abbrev dM:List D→Option D:=Com.dM
noncomputable abbrev cU:List D→Option D:=Com.cU
noncomputable abbrev eE:List D→Option D:=Com.eE
noncomputable abbrev g_:List D→Option D:=Com.g_
noncomputable abbrev eX:List D→Option D:=Com.eX
noncomputable def cQ:List D→Option D:=fnD 3 4 (aY (sIf (D3.tOr (D3.iI (aP (dUn (gIs "tuple") (ao 2)))) (D3.tOr (aP (dOp gNe (dCall iW (aF (ao 2) (aM))) (dC (.int 3)))) (D3.iI (aP (dCall cM (aF (dOp gIx (ao 2) (dC (.int 0))) (aM))))))) (b_ (dC (.bool false))) (dF))
 (aY (Ao (ao 2) (gTn 3 (bT (gNl 3) (bT (gNl 4) (bT (gNl 5) (gA))))))
 (aY (sIf (D3.tOr (D3.iI (aP (dUn (gIs "list") (ao 4)))) (D3.iI (aP (dUn (gIs "list") (ao 5))))) (b_ (dC (.bool false))) (dF))
 (aY (ou (mz (ao 5)) (gNl 6) (sIf (D3.tOr (D3.iI (aP (dUn (gIs "tuple") (ao 6)))) (D3.tOr (aP (dOp gNe (dCall iW (aF (ao 6) (aM))) (dC (.int 2)))) (D3.tOr (D3.iI (aP (dCall cM (aF (dOp gIx (ao 6) (dC (.int 0))) (aM))))) (D3.iI (aP (dCall cM (aF (dOp gIx (ao 6) (dC (.int 1))) (aM)))))))) (b_ (dC (.bool false))) (dF)))
 (aY (sIf (D3.tOr (aP (dOp gNe (gb (mz (ao 4)) (gNl 0) (D3.iI (aP (dCall cM (aF (ao 0) (aM))))) (dW (ao 0)) 1 []) (dR (aM)))) (D3.iI (aP (dCall eX (aF (ao 0) (aF (ao 1) (aF (ao 4) (aF (ao 5) (aM))))))))) (b_ (dC (.bool false))) (dF))
 (b_ (dOp gEq (ao 3) (dCall xr (aF (gb (mz (ao 4)) (gNl 0) (gq) (dW (dOp gIx (dOp gIx (ao 1) (ao 0)) (dC (.int 2)))) 1 [0]) (aM))))))))))
noncomputable def Io:List D→Option D:=fnD 1 11 (aY (bh 1 (dCall dI (aF (ao 0) (aF (dC (.int 0)) (aF (dC (.int 4)) (aM))))))
 (aY (bh 2 (dOp fu (dC (.int 1)) (dOp eN (dOp gIx (ao 1) (dC (.int 0))) (dC (.int 10)))))
 (aY (bh 3 (dOp eN (dOp gIx (ao 1) (dC (.int 1))) (dC (.int 13))))
 (aY (sIf (aP (dOp gEq (dOp eN (dOp gIx (ao 1) (dC (.int 2))) (dC (.int 12))) (dC (.int 5)))) (aY (bh 2 (dC (.int 24)))
 (bh 3 (dC (.int 16)))) (dF))
 (aY (sIf (aP (dOp gEq (dOp eN (dOp gIx (ao 1) (dC (.int 2))) (dC (.int 40))) (dC (.int 7)))) (aY (bh 2 (dC (.int 60)))
 (bh 3 (dC (.int 40)))) (dF))
 (aY (bh 4 (dCall eZ (aF (ao 0) (aF (ao 2) (aM)))))
 (aY (bh 5 (dCall dM (aF (ao 0) (aF (ao 2) (aF (ao 3) (aM))))))
 (aY (bh 6 (dR (aF (dN1 (lJ (dUn gY (ao 5)))) (aF (dN1 (lJ (dUn gY (ao 4)))) (aM)))))
 (aY (bh 7 (dCall gD (aF (dOp gIx (ao 6) (dC (.int 0))) (aF (dOp gIx (ao 6) (dC (.int 1))) (aM)))))
 (aY (sIf (D3.tOr (D3.iI (aP (dCall cQ (aF (ao 5) (aF (ao 4) (aF (ao 7) (aM))))))) (aP (dOp gNe (ao 6) (dR (aF (ao 5) (aF (ao 4) (aM))))))) (b_ (dC (.bool false))) (dF))
 (aY (vH 8 9 10 7)
 (aY (sIf (D3.tOr (aP (dOp gNe (dCall fB (aF (ao 5) (aF (ao 4) (aF (ao 10) (aM))))) (ao 8))) (aP (dOp gNe (dCall dJ (aF (ao 5) (aF (ao 9) (aM)))) (ao 8)))) (b_ (dC (.bool false))) (dF))
 (aY (sIf (D3.tOr (aP (dUn mQ (dCall jo (aF (ao 5) (aF (ao 4) (aF (ao 9) (aF (ao 10) (aM)))))))) (aP (dUn mQ (dCall fj (aF (ao 5) (aF (ao 4) (aF (ao 9) (aM)))))))) (b_ (dC (.bool false))) (dF))
 (aY (o7 9 (dC (.int 0)))
 (aY (xR 10)
 (aY (pO 6 (dC (.int 0)))
 (aY (bh 11 (dCall gD (aF (dUn gY (ao 5)) (aF (dUn gY (ao 4)) (aM)))))
 (b_ (lu (dCall cQ (aF (ao 5) (aF (ao 4) (aF (ao 11) (aM))))) (lu (dOp gEq (dOp gIx (ao 11) (dC (.int 0))) (ao 8)) (dOp gEq (dCall gD (aF (dR (aM)) (aF (dR (aM)) (aM)))) (dTup (aF (dC (.int 0)) (aF (dR (aM)) (aF (dR (aM)) (aM))))))))))))))))))))))))))
end K53
namespace K53
open PySem D3 My Com
section
variable {ws:List Wi} {fs cs:List Int} {ps:List Pr}
theorem vd {g:FG} {b:FS} (Inv:DS→Prop) (P:Nat→Bool) (l:List D) (δ:DS) (h0:Inv δ) (hs:∀ i d δ,l[i]? = some d→Inv δ→∃ δ1,g d δ=some δ1∧(P i=true→∃ δ',b δ1=some (.nx δ')∧Inv δ')∧(P i=false→b δ1=some (.rt (.bool false)))) :
 (∃ δ',jY g b l δ=some (.nx δ')∧Inv δ'∧(aZ l.length).all P=true)∨(jY g b l δ=some (.rt (.bool false))∧(aZ l.length).all P=false):=by
 have key:∀ (l:List D) (k:Nat) (δ:DS),Inv δ→(∀ i d δ,l[i]? = some d→Inv δ→∃ δ1,g d δ=some δ1∧(P (k + i)=true→∃ δ',b δ1=some (.nx δ')∧Inv δ')∧(P (k + i)=false→b δ1=some (.rt (.bool false)))) →
  (∃ δ',jY g b l δ=some (.nx δ')∧Inv δ'∧∀ i,i < l.length→P (k + i)=true)∨(jY g b l δ=some (.rt (.bool false))∧∃ i,i < l.length∧P (k + i)=false):=by
  intro l
  induction l with
  | nil=>exact fun k δ h _=>.inl ⟨δ,rfl,h,fun i h=>by cases h⟩
  | cons d r ih =>
   intro k δ h hs
   obtain ⟨δ1,e1,e2,e3⟩:=hs 0 d δ rfl h
   cases q:P (k + 0) with
   | false =>
    refine .inr ⟨?_,0,by simp,q⟩
    rw [jY,e1,aH,e3 q]
    rfl
   | true =>
    obtain ⟨δ',e4,e5⟩:=e2 q
    have st:jY g b (d :: r) δ=jY g b r δ':=by rw [jY,e1,aH,e4];rfl
    rcases ih (k + 1) δ' e5 (fun i d' δ'' hd hi=>by
     have:=hs (i + 1) d' δ'' (by simpa using hd) hi
     rw [show k + (i + 1)=k + 1 + i by omega] at this
     exact this) with ⟨δ2,a1,a2,a3⟩ | ⟨a1,i,a2,a3⟩
    ·refine .inl ⟨δ2,st.trans a1,a2,fun i hi=>?_⟩
     cases i with
     | zero=>exact q
     | succ i=>have:=a3 i (by simpa using hi);rwa [show k + 1 + i=k + (i + 1) by omega] at this
    ·exact .inr ⟨st.trans a1,i + 1,by simpa using a2,by rw [show k + (i + 1)=k + 1 + i by omega];exact a3⟩
 rcases key l 0 δ h0 (fun i d δ h h'=>by simpa using hs i d δ h h') with ⟨δ',a,b,c⟩ | ⟨a,i,b,c⟩
 ·exact .inl ⟨δ',a,b,bY.mpr fun i hi=>by simpa using c i (bI.mp hi)⟩
 ·refine .inr ⟨a,?_⟩
  cases q:(aZ l.length).all P with
  | false=>rfl
  | true =>
   have:=bY.mp q i (bI.mpr b)
   rw [gQ] at c
   rw [this] at c;cases c
noncomputable def isI:D→Bool
 | .int _=>true
 | _=>false
theorem wh (d:D):Com.iw [d]=some (.bool (isI d)):=by
 unfold Com.iw
 cases d <;> rfl
noncomputable def two:D→Bool
 | .tuple [x,y]=>isI x && isI y
 | _=>false
theorem all2 (x y:D):ig [.tuple [x,y]]=some (.bool (isI x && isI y)):=by
 have C:=oH (g:=(gNl 0)) (c:=(D3.gq)) (e:=(dCall iw (aF (ao 0) (aM)))) (δ:=[none]) (fun d:D=>d) (fun d=>.bool (isI d)) [x,y] (fun d _=>⟨[some (.d d)],rfl,rfl,by simp only [EV,reduceIte,aq,aA,aj,ak,aB,aC,aD,wh]⟩)
 have C:jW (gNl 0) (D3.gq) (dCall iw (aF (ao 0) (aM))) [none] [x,y]=some [.bool (isI x),.bool (isI y)]:=C
 have ca:∀ a:Option U,jg 1 [] [a]=[none]:=fun _=>rfl
 have ga:vD [.list [.bool (isI x),.bool (isI y)]]=some (.bool (isI x && isI y)):=by cases isI x <;> cases isI y <;> rfl
 unfold ig
 simp only [EV,reduceIte,aq,aA,aj,ak,aB,aC,aD,Q5,NK,show 2 ≤ 100000 by decide,ca,C,ga]
theorem len2 {l:List D} (h:l.length=2):∃ x y,l=[x,y]:=by
 match l,h with
 | [x,y],_=>exact ⟨x,y,rfl⟩
theorem two_no {l:List D} (h:¬ l.length=2):two (.tuple l)=false:=by
 match l,h with
 | [],_=>rfl
 | [_],_=>rfl
 | [_,_],h=>exact absurd rfl h
 | _ :: _ :: _ :: _,_=>rfl
theorem isTup:D3.isT "tuple" "tuple" = true:=by decide
theorem rH (d:D):nU [d]=some (.bool (two d)):=by
 have T:jN [d,.int 2]=some (.bool (two d)):=by
  unfold jN
  cases d with
  | tuple l =>
   by_cases h:l.length=2
   ·obtain ⟨x,y,rfl⟩:=len2 h
    simp only [EV,reduceIte,aq,aA,aj,ak,aB,aC,aD,tyD,isTup,show iW [PyData.tuple [x,y]]=some (.int 2) from rfl,show gEq (.int 2) (.int 2)=some (.bool true) from rfl,all2]
    rfl
   ·have gl:iW [PyData.tuple l]=some (.int (l.length:Int)):=rfl
    rw [two_no h]
    simp only [EV,reduceIte,aq,aA,aj,ak,aB,aC,aD,tyD,isTup,gl,dFa (show ¬ (l.length:Int)=2 by omega)]
  | _=>rfl
 unfold nU
 simp only [EV,reduceIte,aq,aA,aj,ak,aB,aC,aD,T]
theorem vf {l:List D} (hl:l.length ≤ 1000):jl [.list l]=some (.bool (l.all isI)):=by
 have C1:=oH (g:=(gNl 0)) (c:=(D3.gq)) (e:=(dCall iw (aF (ao 0) (aM)))) (δ:=[none]) (fun d:D=>d) (fun d=>.bool (isI d)) l (fun d h=>⟨[some (.d d)],rfl,rfl,by simp only [EV,reduceIte,aq,aA,aj,ak,aB,aC,aD,wh]⟩)
 rw [qx] at C1
 have ca:∀ a:Option U,jg 1 [] [a]=[none]:=fun _=>rfl
 have ga:=all_bools isI l
 have W:ig [.list l]=some (.bool (l.all isI)):=by
  unfold ig
  simp only [EV,reduceIte,aq,aA,aj,ak,aB,aC,aD,Q5,Nz,show l.length ≤ 100000 by omega,ca,C1,ga]
 unfold jl
 simp only [EV,reduceIte,aq,aA,aj,ak,aB,aC,aD,show D3.isT "list" (tyD (.list l))=true from rfl,W]
theorem K5 (cs:List Int):(cs.map PyData.int).all isI=true:=by simp [bY,isI]
theorem Ip {ws:List Wi} {cs:List Int} (hl:cs.length ≤ 1000):jm [.list (ws.map wiD),.list (cs.map .int)]=some (.bool (riB cs && inB ws cs)):=by
 have C2:=oH (g:=(gNl 0)) (c:=(D3.gq)) (e:=(iG gLe gLt (dC (.int 0)) (ao 0) (dCall iW (aF (ao 1) (aM))))) (δ:=[none,some (.d (.list (ws.map wiD)))]) PyData.int (fun c=>.bool (decide (0 ≤ c) && decide (c < (ws.length:Int)))) cs (fun p h=>⟨[some (.d (.int p)),some (.d (.list (ws.map wiD)))],rfl,rfl,by
  by_cases c:0 ≤ p
  ·simp only [EV,reduceIte,aq,aA,aj,ak,aB,aC,aD,lMp,dTr c]
   rfl
  ·simp only [EV,reduceIte,aq,aA,aj,ak,aB,aC,aD,lMp,dFa c]
   rfl⟩)
 have cb:∀ a b:Option U,jg 1 [0] [a,b]=[none,a]:=fun _ _=>rfl
 have W:=vf (l:=cs.map PyData.int) (by rw [aU];exact hl)
 rw [K5] at W
 have Rg:fL [.list (cs.map .int)]=some (.bool (riB cs)):=u9 hl
 unfold jm
 cases r:riB cs with
 | true =>
  simp only [EV,reduceIte,aq,aA,aj,ak,aB,aC,aD,W,Rg,r,lMp,show cs.length ≤ 100000 by omega,cb,C2,all_bools]
  rfl
 | false =>
  simp only [EV,reduceIte,aq,aA,aj,ak,aB,aC,aD,W,Rg,r]
  rfl
theorem rJ (hl:cs.length ≤ 1000) (fl:fs.length ≤ 1000) (hw:∀ w ∈ ws,nR fs.length w):fj [.list (ws.map wiD),.list (fs.map .int),.list (cs.map .int)]=some (.bool (chB ws fs cs)):=by
 have Cw:cY [.list (ws.map wiD),.list (fs.map .int)]=some .none:=kE hw
 unfold fj
 unfold chB
 cases r:riB cs && inB ws cs with
 | true =>
  have hin:=sy.mp (cF.mp r).2
  have Ft:pq [.list (ws.map wiD),.list (fs.map .int),.list (cs.map .int)]=some (.bool (fiB ws fs cs)):=Il hl fl hin
  simp only [EV,reduceIte,aq,aA,aj,ak,aB,aC,aD,Cw,Ip hl,r,Ft]
  rfl
 | false =>
  simp only [EV,reduceIte,aq,aA,aj,ak,aB,aC,aD,Cw,Ip hl,r]
  rfl
noncomputable def pB (n:Int) (p:Pr):Bool:=(decide (0 ≤ p.1) && decide (p.1 < n)) && decide (1 ≤ p.2)
noncomputable def prI:D→Pr
 | .tuple [.int a,.int b]=>(a,b)
 | _=>(0,0)
noncomputable def prB (n:Int) (d:D):Bool:=two d && pB n (prI d)
theorem two_pr {d:D} (h:two d=true):∃ p:Pr,d=prD p:=by
 cases d with
 | tuple l =>
  by_cases hl:l.length=2
  ·obtain ⟨x,y,rfl⟩:=len2 hl
   have h:(isI x && isI y)=true:=h
   cases x <;> cases y <;> first | exact ⟨(_,_),rfl⟩ | cases h
  ·rw [two_no hl] at h;cases h
 | _=>cases h
theorem Qc {n:Int} {d:D} (h:two d=false):prB n d=false:=by
 unfold prB
 rw [h]
 rfl
theorem wN (d:D):jU [.list (fs.map .int),d]=some (.bool (prB fs.length d)):=by
 unfold jU
 cases q:two d with
 | false =>
  rw [Qc q]
  simp only [EV,reduceIte,aq,aA,aj,ak,aB,aC,aD,rH,q]
 | true =>
  obtain ⟨⟨a,b⟩,rfl⟩:=two_pr q
  have e:prD (a,b) = .tuple [.int a,.int b]:=rfl
  rw [e] at q ⊢
  show _=some (PyData.bool (pB fs.length (a,b)))
  unfold pB
  by_cases c1:0 ≤ a
  ·by_cases c2:a < (fs.length:Int)
   ·simp only [EV,reduceIte,aq,aA,aj,ak,aB,aC,aD,rH,q,at0,at1,lMp,dTr c1,dTr c2]
    rfl
   ·simp only [EV,reduceIte,aq,aA,aj,ak,aB,aC,aD,rH,q,at0,at1,lMp,dTr c1,dFa c2]
    rfl
  ·simp only [EV,reduceIte,aq,aA,aj,ak,aB,aC,aD,rH,q,at0,at1,lMp,dFa c1]
   rfl
noncomputable def plB (n:Int) (ps:List Pr):Bool:=ps.all (pB n) && riB (ps.map (·.1))
theorem Fj {l:List D} (hl:l.length ≤ 1000) (h:l.all (prB fs.length)=false):fV [.list (fs.map .int),.list l]=some (.bool false):=by
 have C1:=oH (g:=(gNl 0)) (c:=(D3.gq)) (e:=(dCall jU (aF (ao 1) (aF (ao 0) (aM))))) (δ:=[none,some (.d (.list (fs.map .int)))]) (fun d:D=>d) (fun d=>.bool (prB fs.length d)) l (fun d h=>⟨[some (.d d),some (.d (.list (fs.map .int)))],rfl,rfl,by simp only [EV,reduceIte,aq,aA,aj,ak,aB,aC,aD,wN]⟩)
 rw [qx] at C1
 have ca:∀ a b:Option U,jg 1 [0] [a,b]=[none,a]:=fun _ _=>rfl
 unfold fV
 simp only [EV,reduceIte,aq,aA,aj,ak,aB,aC,aD,show D3.isT "list" (tyD (.list l))=true from rfl,show l.length ≤ 100000 by omega,ca,C1,all_bools,h]
theorem sG (hl:ps.length ≤ 1000):fV [.list (fs.map .int),.list (ps.map prD)]=some (.bool (plB fs.length ps)):=by
 have pe:((ps.map prD).all (prB fs.length))=ps.all (pB fs.length):=by rw [List.all_map];rfl
 unfold plB
 cases q:ps.all (pB fs.length) with
 | false=>exact Fj (by rw [aU];exact hl) (by rw [pe,q])
 | true =>
  have C1:=oH (g:=(gNl 0)) (c:=(D3.gq)) (e:=(dCall jU (aF (ao 1) (aF (ao 0) (aM))))) (δ:=[none,some (.d (.list (fs.map .int)))]) (fun d:D=>d) (fun d=>.bool (prB fs.length d)) (ps.map prD) (fun d h=>⟨[some (.d d),some (.d (.list (fs.map .int)))],rfl,rfl,by simp only [EV,reduceIte,aq,aA,aj,ak,aB,aC,aD,wN]⟩)
  rw [qx] at C1
  have C2:=oH (g:=(gTn 2 (bT (gNl 0) (bT (gNl 1) (gA))))) (c:=(D3.gq)) (e:=(dW (ao 0))) (δ:=[none,none]) prD (fun p=>.int p.1) ps (fun p h=>⟨[some (.d (.int p.1)),some (.d (.int p.2))],rfl,rfl,rfl⟩)
  have e2:(ps.map fun p=>PyData.int p.1)=(ps.map (·.1)).map .int:=by rw [bZ];rfl
  rw [e2] at C2
  have Rg:fL [.list ((ps.map (·.1)).map .int)]=some (.bool (riB (ps.map (·.1)))):=u9 (by rw [aU];exact hl)
  have ca:∀ a b:Option U,jg 1 [0] [a,b]=[none,a]:=fun _ _=>rfl
  have cb:∀ a b:Option U,jg 2 [] [a,b]=[none,none]:=fun _ _=>rfl
  unfold fV
  simp only [EV,reduceIte,aq,aA,aj,ak,aB,aC,aD,show ∀ l,D3.isT "list" (tyD (.list l))=true from fun _=>rfl,lMp,show ps.length ≤ 100000 by omega,ca,C1,all_bools,pe,q,cb,C2,Rg]
  rfl
noncomputable def gnP (ws:List Wi) (cs:List Int) (ps:List Pr) (i:Nat):Bool:=!(decide ((i:Int) ∈ cs) && decide (jz ps (wif ws i) < 0)) && !(!decide ((i:Int) ∈ cs) && decide (jz ps (wif ws i) > 0))
noncomputable def soB (ws:List Wi) (fs cs:List Int) (ps:List Pr):Bool:=ps.all fun p=>decide ((jC ws cs p.1:Int)=fs.getD p.1.toNat 0)
noncomputable def ibB (ws:List Wi) (fs cs:List Int) (ps:List Pr):Bool:=(chB ws fs cs && plB fs.length ps) && ((aZ ws.length).all (gnP ws cs ps) && soB ws fs cs ps)
theorem jD (cs:List Int) (x:Int):oF (.int x) (.list (cs.map .int))=some (.bool (!decide (x ∈ cs))):=by
 have h:=jQ cs x
 unfold gIn at h
 unfold oF
 dsimp only at h ⊢
 split at h
 ·next c =>
  injection h with h
  injection h with h
  rw [if_pos c,h]
 ·cases h
theorem Ir (hl:cs.length ≤ 1000) (pl:ps.length ≤ 1000) (hin:∀ c ∈ cs,0 ≤ c∧c < ws.length) (hp:∀ p ∈ ps,0 ≤ p.1∧p.1 < fs.length):jB [.list (ws.map wiD),.list (fs.map .int),.list (cs.map .int),.list (ps.map prD)]=some (.bool (soB ws fs cs ps)):=by
 have C:=oH (g:=(gTn 2 (bT (gNl 0) (bT (gNl 1) (gA))))) (c:=(D3.gq)) (e:=(dOp gEq (dCall fD (aF (ao 2) (aF (ao 3) (aF (ao 0) (aM))))) (dOp gIx (ao 4) (ao 0)))) (δ:=[none,none,some (.d (.list (ws.map wiD))),some (.d (.list (cs.map .int))),some (.d (.list (fs.map .int)))]) prD (fun p=>.bool (decide ((jC ws cs p.1:Int)=fs.getD p.1.toNat 0))) ps (fun p h=>by
  refine ⟨[some (.d (.int p.1)),some (.d (.int p.2)),some (.d (.list (ws.map wiD))),some (.d (.list (cs.map .int))),some (.d (.list (fs.map .int)))],rfl,rfl,?_⟩
  have e:=fW PyData.int (l:=fs) 0 (hp p h).1 (hp p h).2
  have Hs:fD [.list (ws.map wiD),.list (cs.map .int),.int p.1]=some (.int (jC ws cs p.1:Int)):=rY hl hin p.1
  simp only [EV,reduceIte,aq,aA,aj,ak,aB,aC,aD,Hs,e])
 have cc:∀ a b c d:Option U,jg 2 [0,2,1] [a,b,c,d]=[none,none,a,c,b]:=fun _ _ _ _=>rfl
 show Com.jB _=_
 unfold Com.jB
 simp only [EV,reduceIte,aq,aA,aj,ak,aB,aC,aD,lMp,show ps.length ≤ 100000 by omega,cc,C,all_bools]
 rfl
theorem wO (hl:cs.length ≤ 1000) (pl:ps.length ≤ 1000) {i:Nat} (hi:i < ws.length):(∀ b,gnP ws cs ps i=b→((aY (sIf (D3.jf (aP (dOp gIn (ao 4) (ao 2))) (aP (dOp gLt (dCall jH (aF (ao 5) (aF (ao 3) (aM)))) (dC (.int 0))))) (b_ (dC (.bool false))) (dF)) (sIf (D3.jf (aP (dOp oF (ao 4) (ao 2))) (aP (dOp gGt (dCall jH (aF (ao 5) (aF (ao 3) (aM)))) (dC (.int 0))))) (b_ (dC (.bool false))) (dF)))) [some (.d (.list (ws.map wiD))),some (.d (.list (fs.map .int))),some (.d (.list (cs.map .int))),some (.d (.list (ps.map prD))),some (.d (.int (i:Int))),some (.d (wiD (wif ws i)))] =
 if b=true then some (.nx [some (.d (.list (ws.map wiD))),some (.d (.list (fs.map .int))),some (.d (.list (cs.map .int))),some (.d (.list (ps.map prD))),some (.d (.int (i:Int))),some (.d (wiD (wif ws i)))]) else some (.rt (.bool false))):=by
 intro b hb
 have Gs:jH [wiD (wif ws i),.list (ps.map prD)]=some (.int (jz ps (wif ws i))):=wD pl _
 unfold gnP at hb
 by_cases c:(i:Int) ∈ cs
 ·by_cases g:jz ps (wif ws i) < 0
  ·rw [dTr c,dTr g] at hb
   have hb:false=b:=hb
   subst hb
   rw [if_neg bC]
   simp only [EV,reduceIte,aq,aA,aj,ak,aB,aC,aD,jQ,dTr c,Gs,dTr g]
  ·rw [dTr c,dFa g] at hb
   have hb:true=b:=hb
   subst hb
   rw [if_pos rfl]
   simp only [EV,reduceIte,aq,aA,aj,ak,aB,aC,aD,jQ,jD,dTr c,Gs,dFa g]
 ·by_cases g:jz ps (wif ws i) > 0
  ·rw [dFa c,dTr g] at hb
   have hb:false=b:=hb
   subst hb
   rw [if_neg bC]
   simp only [EV,reduceIte,aq,aA,aj,ak,aB,aC,aD,jQ,jD,dFa c,Gs,dTr g]
  ·rw [dFa c,dFa g] at hb
   have hb:true=b:=hb
   subst hb
   rw [if_pos rfl]
   simp only [EV,reduceIte,aq,aA,aj,ak,aB,aC,aD,jQ,jD,dFa c,Gs,dFa g]
theorem Iu (wl:ws.length ≤ 1000) (hl:cs.length ≤ 1000) (fl:fs.length ≤ 1000) (pl:ps.length ≤ 1000) (hw:∀ w ∈ ws,nR fs.length w):jo [.list (ws.map wiD),.list (fs.map .int),.list (cs.map .int),.list (ps.map prD)]=some (.bool (ibB ws fs cs ps)):=by
 unfold jo ibB
 cases c1:chB ws fs cs with
 | false =>
  simp only [EV,reduceIte,aq,aA,aj,ak,aB,aC,aD,rJ hl fl hw,c1]
  rfl
 | true =>
  cases c2:plB fs.length ps with
  | false =>
   simp only [EV,reduceIte,aq,aA,aj,ak,aB,aC,aD,rJ hl fl hw,c1,sG pl,c2]
   rfl
  | true =>
   have hin:=sy.mp (cF.mp (cF.mp c1).1).2
   have hp:∀ p ∈ ps,0 ≤ p.1∧p.1 < fs.length:=fun p h=>by
    have:=bY.mp (cF.mp c2).1 p h
    unfold pB at this
    simp only [aR,decide_eq_true_eq] at this
    exact this.1
   have So:=Ir hl pl hin hp
   have En:=uV wiD ws (0,0,0)
   have L:=vd (g:=(gTn 2 (bT (gNl 4) (bT (gNl 5) (gA))))) (b:=(aY (sIf (D3.jf (aP (dOp gIn (ao 4) (ao 2))) (aP (dOp gLt (dCall jH (aF (ao 5) (aF (ao 3) (aM)))) (dC (.int 0))))) (b_ (dC (.bool false))) (dF)) (sIf (D3.jf (aP (dOp oF (ao 4) (ao 2))) (aP (dOp gGt (dCall jH (aF (ao 5) (aF (ao 3) (aM)))) (dC (.int 0))))) (b_ (dC (.bool false))) (dF)))) (fun δ=>∃ y4 y5,δ=[some (.d (.list (ws.map wiD))),some (.d (.list (fs.map .int))),some (.d (.list (cs.map .int))),some (.d (.list (ps.map prD))),y4,y5]) (gnP ws cs ps) (mC (ws.map wiD)) [some (.d (.list (ws.map wiD))),some (.d (.list (fs.map .int))),some (.d (.list (cs.map .int))),some (.d (.list (ps.map prD))),none,none] ⟨none,none,rfl⟩ (by
    rintro i d δ hd ⟨y4,y5,rfl⟩
    rw [En,bf] at hd
    obtain ⟨k,hk,rfl⟩:=Option.map_eq_some_iff.mp hd
    have hi:i < ws.length:=by
     have:=(cg.mp hk).1
     simpa using this
    have ek:k=i:=by
     rw [eY hi] at hk
     exact (dH.inj hk).symm
    subst ek
    refine ⟨_,rfl,fun hP=>⟨[some (.d (.list (ws.map wiD))),some (.d (.list (fs.map .int))),some (.d (.list (cs.map .int))),some (.d (.list (ps.map prD))),some (.d (.int (k:Int))),some (.d (wiD (wif ws k)))],?_,_,_,rfl⟩,fun hP=>?_⟩
    ·exact (wO (fs:=fs) hl pl hi true hP).trans (by rw [if_pos rfl])
    ·exact (wO (fs:=fs) hl pl hi false hP).trans (by rw [if_neg (by decide)]))
   have ll:(mC (ws.map wiD)).length=ws.length:=by rw [En,aU,cH]
   rw [ll] at L
   rcases L with ⟨δ',e,⟨y4,y5,rfl⟩,q⟩ | ⟨e,q⟩
   ·rw [q]
    simp only [EV,reduceIte,aq,aA,aj,ak,aB,aC,aD,rJ hl fl hw,c1,sG pl,c2,e,So]
    rfl
   ·rw [q]
    simp only [EV,reduceIte,aq,aA,aj,ak,aB,aC,aD,rJ hl fl hw,c1,sG pl,c2,e]
    rfl
noncomputable def pg (ps:List Pr) (k:Nat):Pr:=ps.getD k (0,0)
noncomputable def okP (ws:List Wi) (fs cs:List Int) (ps:List Pr) (k:Nat):Bool:=(pB fs.length (pg ps k) && (decide (k=0) || decide ((pg ps (k - 1)).1 < (pg ps k).1))) && decide ((jC ws cs (pg ps k).1:Int)=fs.getD (pg ps k).1.toNat 0)
theorem Iw {k:Nat} (hk:k < ps.length):ps[k]=pg ps k:=by unfold pg;rw [aG,aO hk];rfl
theorem K6:(aZ ps.length).all (okP ws fs cs ps)=(plB fs.length ps && soB ws fs cs ps):=by
 rw [lB]
 have mp:∀ k,(ps.map (·.1)).getD k 0=(pg ps k).1:=fun k=>by
  unfold pg
  rw [aG,bf,aG]
  cases ps[k]? <;> rfl
 have ri:=Bw (cs:=ps.map (·.1))
 rw [aU] at ri
 unfold plB soB
 simp only [aR,ri,bY,bI,decide_eq_true_eq]
 constructor
 ·intro h
  have each:∀ p ∈ ps,pB fs.length p=true∧(jC ws cs p.1:Int)=fs.getD p.1.toNat 0:=fun p hp=>by
   obtain ⟨k,hk,rfl⟩:=oX.mp hp
   have:=h k hk
   unfold okP at this
   simp only [aR,decide_eq_true_eq] at this
   rw [Iw hk]
   exact ⟨this.1.1,this.2⟩
  refine ⟨⟨fun p hp=>(each p hp).1,fun k hk=>?_⟩,fun p hp=>(each p hp).2⟩
  rw [mp,mp]
  have:=h (k + 1) hk
  unfold okP at this
  simp only [aR,jd,decide_eq_true_eq] at this
  rcases this.1.2 with z | z
  ·omega
  ·exact z
 ·rintro ⟨⟨h1,h2⟩,h3⟩ k hk
  have m:pg ps k ∈ ps:=by rw [← Iw hk];exact dZ hk
  unfold okP
  simp only [aR,jd,decide_eq_true_eq]
  refine ⟨⟨h1 _ m,?_⟩,h3 _ m⟩
  by_cases z:k=0
  ·exact .inl z
  ·right
   have:=h2 (k - 1) (by omega)
   rw [mp,mp,show k - 1 + 1=k by omega] at this
   exact this
theorem zU (hl:cs.length ≤ 1000) (hin:∀ c ∈ cs,0 ≤ c∧c < ws.length) {k:Nat} (hk:k < ps.length) (y5 y6 y7 y8:Option U):∀ b,okP ws fs cs ps k=b→((aY (Ao (dOp gIx (ao 3) (ao 4)) (gTn 2 (bT (gNl 5) (bT (gNl 6) (gA))))) (aY (sIf (D3.tOr (D3.iI (aP (iG gLe gLt (dC (.int 0)) (ao 5) (dCall iW (aF (ao 1) (aM)))))) (D3.tOr (aP (dOp gLt (ao 6) (dC (.int 1)))) (D3.jf (aP (dOp gGt (ao 4) (dC (.int 0)))) (aP (dOp gLe (ao 5) (dOp gIx (dOp gIx (ao 3) (dOp m8 (ao 4) (dC (.int 1)))) (dC (.int 0)))))))) (b_ (dC (.bool false))) (dF)) (sIf (aP (dOp gNe (dCall cU (aF (ao 0) (aF (ao 2) (aF (ao 5) (aM))))) (dOp gIx (ao 1) (ao 5)))) (b_ (dC (.bool false))) (dF))))) [some (.d (.list (ws.map wiD))),some (.d (.list (fs.map .int))),some (.d (.list (cs.map .int))),some (.d (.list (ps.map prD))),some (.d (.int (k:Int))),y5,y6,y7,y8] =
 if b=true then some (.nx [some (.d (.list (ws.map wiD))),some (.d (.list (fs.map .int))),some (.d (.list (cs.map .int))),some (.d (.list (ps.map prD))),some (.d (.int (k:Int))),some (.d (.int (pg ps k).1)),some (.d (.int (pg ps k).2)),y7,y8]) else some (.rt (.bool false)):=by
 intro b hb
 have e:=fW prD (l:=ps) (0,0) (i:=(k:Int)) (by omega) (by omega)
 rw [bJ] at e
 have e:pAt (ps.map prD) (k:Int)=some (.tuple [.int (pg ps k).1,.int (pg ps k).2]):=e
 have Hs:∀ n,Com.cU [.list (ws.map wiD),.list (cs.map .int),.int n]=some (.int (jC ws cs n:Int)):=fun n=>sE hl hin n
 unfold okP pB at hb
 by_cases c1:0 ≤ (pg ps k).1
 ·by_cases c2:(pg ps k).1 < (fs.length:Int)
  ·by_cases c3:1 ≤ (pg ps k).2
   ·have en:=fW PyData.int (l:=fs) 0 (i:=(pg ps k).1) c1 c2
    have n3:¬ (pg ps k).2 < 1:=by omega
    have fin:∀ b,(decide ((jC ws cs (pg ps k).1:Int)=fs.getD (pg ps k).1.toNat 0))=b→gNe (.int (jC ws cs (pg ps k).1:Int)) (.int (fs.getD (pg ps k).1.toNat 0))=some (.bool (!b)):=fun b h=>by rw [← h];rfl
    by_cases z:k=0
    ·rw [dTr c1,dTr c2,dTr c3,dTr z] at hb
     have hb:decide ((jC ws cs (pg ps k).1:Int)=fs.getD (pg ps k).1.toNat 0)=b:=by simpa using hb
     have F:=fin b hb
     have z':¬ (k:Int) > 0:=by omega
     cases b with
     | true =>
      rw [if_pos rfl]
      simp only [EV,reduceIte,aq,aA,aj,ak,aB,aC,aD,e,lMp,dTr c1,dTr c2,dFa n3,dFa z',Hs,en,F]
     | false =>
      rw [if_neg bC]
      simp only [EV,reduceIte,aq,aA,aj,ak,aB,aC,aD,e,lMp,dTr c1,dTr c2,dFa n3,dFa z',Hs,en,F]
    ·have zp:(k:Int) > 0:=by omega
     have e1:=fW prD (l:=ps) (0,0) (i:=(k:Int) - 1) (by omega) (by omega)
     rw [show ((k:Int) - 1).toNat=k - 1 by omega] at e1
     have e1:pAt (ps.map prD) ((k:Int) - 1)=some (.tuple [.int (pg ps (k - 1)).1,.int (pg ps (k - 1)).2]):=e1
     by_cases c4:(pg ps (k - 1)).1 < (pg ps k).1
     ·rw [dTr c1,dTr c2,dTr c3,dTr c4] at hb
      have hb:decide ((jC ws cs (pg ps k).1:Int)=fs.getD (pg ps k).1.toNat 0)=b:=by simpa using hb
      have F:=fin b hb
      have n4:¬ (pg ps k).1 ≤ (pg ps (k - 1)).1:=by omega
      cases b with
      | true =>
       rw [if_pos rfl]
       simp only [EV,reduceIte,aq,aA,aj,ak,aB,aC,aD,e,e1,at0,lMp,dTr c1,dTr c2,dFa n3,dTr zp,dFa n4,Hs,en,F]
      | false =>
       rw [if_neg bC]
       simp only [EV,reduceIte,aq,aA,aj,ak,aB,aC,aD,e,e1,at0,lMp,dTr c1,dTr c2,dFa n3,dTr zp,dFa n4,Hs,en,F]
     ·rw [dTr c1,dTr c2,dTr c3,dFa c4,dFa z] at hb
      have hb:false=b:=by simpa using hb
      subst hb
      rw [if_neg bC]
      have p4:(pg ps k).1 ≤ (pg ps (k - 1)).1:=by omega
      simp only [EV,reduceIte,aq,aA,aj,ak,aB,aC,aD,e,e1,at0,lMp,dTr c1,dTr c2,dFa n3,dTr zp,dTr p4]
   ·rw [dFa c3] at hb
    have hb:false=b:=by simpa using hb
    subst hb
    rw [if_neg bC]
    have p3:(pg ps k).2 < 1:=by omega
    simp only [EV,reduceIte,aq,aA,aj,ak,aB,aC,aD,e,lMp,dTr c1,dTr c2,dTr p3]
  ·rw [dFa c2] at hb
   have hb:false=b:=by simpa using hb
   subst hb
   rw [if_neg bC]
   simp only [EV,reduceIte,aq,aA,aj,ak,aB,aC,aD,e,lMp,dTr c1,dFa c2]
 ·rw [dFa c1] at hb
  have hb:false=b:=by simpa using hb
  subst hb
  rw [if_neg bC]
  simp only [EV,reduceIte,aq,aA,aj,ak,aB,aC,aD,e,lMp,dFa c1]
theorem zV (pl:ps.length ≤ 1000) {i:Nat} (hi:i < ws.length) (y4 y5 y6 y8:Option U):∀ b,gnP ws cs ps i=b→((aY (bh 8 (dOp m8 (dOp gIx (dOp gIx (ao 0) (ao 7)) (dC (.int 2))) (dCall g_ (aF (ao 3) (aF (dOp gIx (dOp gIx (ao 0) (ao 7)) (dC (.int 0))) (aF (dOp gIx (dOp gIx (ao 0) (ao 7)) (dC (.int 1))) (aM))))))) (sIf (D3.tOr (D3.jf (aP (dOp gLt (ao 8) (dC (.int 0)))) (aP (dOp gIn (ao 7) (ao 2)))) (D3.jf (aP (dOp gGt (ao 8) (dC (.int 0)))) (aP (dOp oF (ao 7) (ao 2))))) (b_ (dC (.bool false))) (dF)))) [some (.d (.list (ws.map wiD))),some (.d (.list (fs.map .int))),some (.d (.list (cs.map .int))),some (.d (.list (ps.map prD))),y4,y5,y6,some (.d (.int (i:Int))),y8] =
 if b=true then some (.nx [some (.d (.list (ws.map wiD))),some (.d (.list (fs.map .int))),some (.d (.list (cs.map .int))),some (.d (.list (ps.map prD))),y4,y5,y6,some (.d (.int (i:Int))),some (.d (.int (jz ps (wif ws i))))]) else some (.rt (.bool false)):=by
 intro b hb
 have e:=fW wiD (l:=ws) (0,0,0) (i:=(i:Int)) (by omega) (by omega)
 rw [bJ] at e
 have e:pAt (ws.map wiD) (i:Int)=some (.tuple [.int (wif ws i).1,.int (wif ws i).2.1,.int (wif ws i).2.2]):=e
 have Cs:=vI pl (wif ws i).1 (wif ws i).2.1
 have g0:(wif ws i).2.2 - tE ps (wif ws i).1 (wif ws i).2.1=jz ps (wif ws i):=rfl
 unfold gnP at hb
 by_cases c:(i:Int) ∈ cs
 ·by_cases g:jz ps (wif ws i) < 0
  ·rw [dTr c,dTr g] at hb
   have hb:false=b:=hb
   subst hb
   rw [if_neg bC]
   simp only [EV,reduceIte,aq,aA,aj,ak,aB,aC,aD,e,at0,at1,at2,Cs,g0,jQ,dTr c,dTr g]
  ·rw [dTr c,dFa g] at hb
   have hb:true=b:=hb
   subst hb
   rw [if_pos rfl]
   by_cases g2:jz ps (wif ws i) > 0
   ·simp only [EV,reduceIte,aq,aA,aj,ak,aB,aC,aD,e,at0,at1,at2,Cs,g0,jQ,jD,dTr c,dFa g,dTr g2]
   ·simp only [EV,reduceIte,aq,aA,aj,ak,aB,aC,aD,e,at0,at1,at2,Cs,g0,jQ,jD,dTr c,dFa g,dFa g2]
 ·by_cases g:jz ps (wif ws i) > 0
  ·have g2:¬ jz ps (wif ws i) < 0:=by omega
   rw [dFa c,dTr g] at hb
   have hb:false=b:=hb
   subst hb
   rw [if_neg bC]
   simp only [EV,reduceIte,aq,aA,aj,ak,aB,aC,aD,e,at0,at1,at2,Cs,g0,jQ,jD,dFa c,dFa g2,dTr g]
  ·rw [dFa c,dFa g] at hb
   have hb:true=b:=hb
   subst hb
   rw [if_pos rfl]
   by_cases g2:jz ps (wif ws i) < 0
   ·simp only [EV,reduceIte,aq,aA,aj,ak,aB,aC,aD,e,at0,at1,at2,Cs,g0,jQ,jD,dFa c,dTr g2,dFa g]
   ·simp only [EV,reduceIte,aq,aA,aj,ak,aB,aC,aD,e,at0,at1,at2,Cs,g0,jQ,jD,dFa c,dFa g2,dFa g]
theorem Fo (wl:ws.length ≤ 1000) (hl:cs.length ≤ 1000) (fl:fs.length ≤ 1000) (pl:ps.length ≤ 1000):eX [.list (ws.map wiD),.list (fs.map .int),.list (cs.map .int),.list (ps.map prD)]=some (.bool (ibB ws fs cs ps)):=by
 have Lc:Com.eE [.list (ws.map wiD),.list (fs.map .int),.list (cs.map .int)]=some (.bool (chB ws fs cs)):=K4 hl fl
 show Com.eX _=_
 unfold Com.eX ibB
 cases c1:chB ws fs cs with
 | false =>
  simp only [EV,reduceIte,aq,aA,aj,ak,aB,aC,aD,Lc,c1]
  rfl
 | true =>
  have hin:=sy.mp (cF.mp (cF.mp c1).1).2
  have r1:nP (some [.int (ps.length:Int)])=some (fU 0 (ps.length:Int)):=tL (by omega) (by omega)
  have r2:nP (some [.int (ws.length:Int)])=some (fU 0 (ws.length:Int)):=tL (by omega) (by omega)
  have rl:∀ n:Nat,(fU 0 (n:Int)).length=n:=fun n=>by unfold fU;rw [aU,cH];omega
  have L:=vd (g:=(gNl 4)) (b:=(aY (Ao (dOp gIx (ao 3) (ao 4)) (gTn 2 (bT (gNl 5) (bT (gNl 6) (gA))))) (aY (sIf (D3.tOr (D3.iI (aP (iG gLe gLt (dC (.int 0)) (ao 5) (dCall iW (aF (ao 1) (aM)))))) (D3.tOr (aP (dOp gLt (ao 6) (dC (.int 1)))) (D3.jf (aP (dOp gGt (ao 4) (dC (.int 0)))) (aP (dOp gLe (ao 5) (dOp gIx (dOp gIx (ao 3) (dOp m8 (ao 4) (dC (.int 1)))) (dC (.int 0)))))))) (b_ (dC (.bool false))) (dF)) (sIf (aP (dOp gNe (dCall cU (aF (ao 0) (aF (ao 2) (aF (ao 5) (aM))))) (dOp gIx (ao 1) (ao 5)))) (b_ (dC (.bool false))) (dF))))) (fun δ=>∃ y4 y5 y6,δ=[some (.d (.list (ws.map wiD))),some (.d (.list (fs.map .int))),some (.d (.list (cs.map .int))),some (.d (.list (ps.map prD))),y4,y5,y6,none,none]) (okP ws fs cs ps) (fU 0 (ps.length:Int)) [some (.d (.list (ws.map wiD))),some (.d (.list (fs.map .int))),some (.d (.list (cs.map .int))),some (.d (.list (ps.map prD))),none,none,none,none,none] ⟨none,none,none,rfl⟩ (by
   rintro i d δ hd ⟨y4,y5,y6,rfl⟩
   obtain ⟨hk,rfl⟩:=lN hd
   refine ⟨_,rfl,fun hP=>⟨[some (.d (.list (ws.map wiD))),some (.d (.list (fs.map .int))),some (.d (.list (cs.map .int))),some (.d (.list (ps.map prD))),some (.d (.int (i:Int))),some (.d (.int (pg ps i).1)),some (.d (.int (pg ps i).2)),none,none],?_,_,_,_,rfl⟩,fun hP=>?_⟩
   ·exact (zU (ws:=ws) (fs:=fs) (ps:=ps) hl hin (show i < ps.length by omega) y5 y6 none none true hP).trans (by rw [if_pos rfl])
   ·exact (zU (ws:=ws) (fs:=fs) (ps:=ps) hl hin (show i < ps.length by omega) y5 y6 none none false hP).trans (by rw [if_neg bC]))
  rw [rl,K6] at L
  rcases L with ⟨δ',e,⟨y4,y5,y6,rfl⟩,q⟩ | ⟨e,q⟩
  ·have q1:=(cF.mp q).1
   have q2:=(cF.mp q).2
   have L2:=vd (g:=(gNl 7)) (b:=(aY (bh 8 (dOp m8 (dOp gIx (dOp gIx (ao 0) (ao 7)) (dC (.int 2))) (dCall g_ (aF (ao 3) (aF (dOp gIx (dOp gIx (ao 0) (ao 7)) (dC (.int 0))) (aF (dOp gIx (dOp gIx (ao 0) (ao 7)) (dC (.int 1))) (aM))))))) (sIf (D3.tOr (D3.jf (aP (dOp gLt (ao 8) (dC (.int 0)))) (aP (dOp gIn (ao 7) (ao 2)))) (D3.jf (aP (dOp gGt (ao 8) (dC (.int 0)))) (aP (dOp oF (ao 7) (ao 2))))) (b_ (dC (.bool false))) (dF)))) (fun δ=>∃ y7 y8,δ=[some (.d (.list (ws.map wiD))),some (.d (.list (fs.map .int))),some (.d (.list (cs.map .int))),some (.d (.list (ps.map prD))),y4,y5,y6,y7,y8]) (gnP ws cs ps) (fU 0 (ws.length:Int)) [some (.d (.list (ws.map wiD))),some (.d (.list (fs.map .int))),some (.d (.list (cs.map .int))),some (.d (.list (ps.map prD))),y4,y5,y6,none,none] ⟨none,none,rfl⟩ (by
    rintro i d δ hd ⟨y7,y8,rfl⟩
    obtain ⟨hk,rfl⟩:=lN hd
    refine ⟨_,rfl,fun hP=>⟨[some (.d (.list (ws.map wiD))),some (.d (.list (fs.map .int))),some (.d (.list (cs.map .int))),some (.d (.list (ps.map prD))),y4,y5,y6,some (.d (.int (i:Int))),some (.d (.int (jz ps (wif ws i))))],?_,_,_,rfl⟩,fun hP=>?_⟩
    ·exact (zV (ws:=ws) (fs:=fs) (cs:=cs) pl (show i < ws.length by omega) y4 y5 y6 y8 true hP).trans (by rw [if_pos rfl])
    ·exact (zV (ws:=ws) (fs:=fs) (cs:=cs) pl (show i < ws.length by omega) y4 y5 y6 y8 false hP).trans (by rw [if_neg bC]))
   rw [rl] at L2
   rcases L2 with ⟨δ2,e2,⟨y7,y8,rfl⟩,q3⟩ | ⟨e2,q3⟩
   ·rw [q1,q2,q3]
    simp only [EV,reduceIte,aq,aA,aj,ak,aB,aC,aD,Lc,c1,lMp,r1,e,r2,e2]
    try rfl
   ·rw [q1,q2,q3]
    simp only [EV,reduceIte,aq,aA,aj,ak,aB,aC,aD,Lc,c1,lMp,r1,e,r2,e2]
    try rfl
  ·have bad:((true && plB fs.length ps) && ((aZ ws.length).all (gnP ws cs ps) && soB ws fs cs ps))=false:=by
    cases a1:plB fs.length ps <;> cases a2:soB ws fs cs ps <;> rw [a1,a2] at q <;> simp_all
   rw [bad]
   simp only [EV,reduceIte,aq,aA,aj,ak,aB,aC,aD,Lc,c1,lMp,r1,e]
theorem Sw (ws:List Wi):ly 50 (.list (ws.map wiD)):=Dh (ud (uc wiD LC ws)) (by decide)
theorem Qd (l:List Int):ly 50 (.list (l.map .int)):=Dh (ud (uc PyData.int (fun _=>xX (n:=0)) l)) (by decide)
theorem Fp {wi:Nat→Wi} {fr:Nat→Int} {N k:Nat} {ch ch':List Nat} (M:Be.More wi fr N k ch ch') (h:ch.Pairwise (· < ·)):ch'.Pairwise (· < ·):=by
 obtain ⟨l,c,_,_,_,⟨_,rfl⟩ | ⟨y,P,_,_,_,_,_,rfl⟩⟩:=M
 ·exact h
 ·exact List.Pairwise.filter _ n6
theorem Du {l:List Int} (h:l.Pairwise (· < ·)):riB l=true:=by
 rw [Bw]
 intro k hk
 have:=List.pairwise_iff_getElem.mp h k (k + 1) (by omega) hk (by omega)
 rw [aG,aG,aO hk,aO (show k < l.length by omega)]
 exact this
theorem K7 (d:Nat→Int) (N:Nat):((iU d N).map (·.1)).Pairwise (· < ·):=by
 unfold iU
 rw [bZ]
 refine List.Pairwise.map (R:=(· < ·)) _ (fun a b h=>?_) (List.Pairwise.filter _ n6)
 show (a:Int) < (b:Int)
 omega
theorem Bx {d:Nat→Int} {N:Nat} {p:Pr} (h:p ∈ iU d N):∃ n:Nat,n < N∧0 < Be.prc d n∧p=((n:Int),Be.prc d n):=by
 unfold iU at h
 obtain ⟨n,hn,rfl⟩:=cN.mp h
 rw [gG] at hn
 exact ⟨n,bI.mp hn.1,of_decide_eq_true hn.2,rfl⟩
theorem K8 {ws:List Wi} {fs:List Int} {ch:List Nat} {d:Nat→Int} (hw:∀ w ∈ ws,nR fs.length w) (ok:Be.ChOk (wif ws) (frf fs) fs.length ch ws.length) (up:ch.Pairwise (· < ·)) (g:Be.Good (Be.gF (wif ws) (frf fs) fs.length ch ws.length) d):ibB ws fs (cZ ch) (iU d fs.length)=true:=by
 have pp:∀ n,n < fs.length→0 ≤ Be.prc d n:=fun n hn=>by
  have:=g (Be.onw n) (Be.eG.mpr (.inl ⟨n,hn,rfl⟩))
  unfold Be.onw at this
  unfold Be.prc
  dsimp only at this
  omega
 have fr:∀ n:Nat,n < fs.length→frf fs n=fs.getD n 0:=fun n hn=>rfl
 unfold ibB chB plB
 simp only [aR]
 refine ⟨⟨⟨⟨Du ?_,sy.mpr fun c hc=>?_⟩,?_⟩,?_,Du (K7 d _)⟩,?_,?_⟩
 ·unfold cZ
  refine List.Pairwise.map (R:=(· < ·)) _ (fun a b h=>?_) up
  show (a:Int) < (b:Int)
  omega
 ·unfold cZ at hc
  obtain ⟨i,hi,rfl⟩:=cN.mp hc
  have:=ok.lt i hi
  omega
 ·unfold fiB
  rw [bY]
  intro n hn
  have hn:=bI.mp hn
  refine dTr ?_
  rw [held_eq]
  exact ok.fit n hn
 ·rw [bY]
  intro p hp
  obtain ⟨n,h1,h2,rfl⟩:=Bx hp
  unfold pB
  simp only [aR,decide_eq_true_eq]
  omega
 ·rw [bY]
  intro i hi
  have hi:=bI.mp hi
  obtain ⟨w1,w2,w3,w4,w5⟩:=Bv hw hi
  have gi:jz (iU d fs.length) (wif ws i)=(wif ws i).2.2 - (d (wif ws i).1.toNat - d (wif ws i).2.1.toNat):=by
   unfold jz
   rw [uY pp w1 (by omega) w3]
  have gw:=g (Be.fG (wif ws) ch i) (Be.eG.mpr (.inr (.inr ⟨i,hi,rfl⟩)))
  unfold Be.fG at gw
  unfold gnP
  by_cases c:i ∈ ch
  ·rw [if_pos c] at gw
   dsimp only at gw
   have c':((i:Int) ∈ cZ ch):=Br.mpr c
   have:¬ jz (iU d fs.length) (wif ws i) < 0:=by rw [gi];omega
   rw [dTr c',dFa this]
   rfl
  ·rw [if_neg c] at gw
   dsimp only at gw
   have c':¬ ((i:Int) ∈ cZ ch):=fun z=>c (Br.mp z)
   have:¬ jz (iU d fs.length) (wif ws i) > 0:=by rw [gi];omega
   rw [dFa c',dFa this]
   rfl
 ·unfold soB
  rw [bY]
  intro p hp
  obtain ⟨n,h1,h2,rfl⟩:=Bx hp
  refine dTr ?_
  show ((jC ws (cZ ch) (n:Int):Nat):Int)=fs.getD ((n:Int)).toNat 0
  rw [held_eq,bJ]
  have a:=ok.fit n h1
  by_cases z:Be.held (wif ws) ch n < frf fs n
  ·have:=g (Be.bck n) (Be.eG.mpr (.inr (.inl ⟨n,h1,z,rfl⟩)))
   unfold Be.bck at this
   unfold Be.prc at h2
   dsimp only at this
   omega
  ·have e:frf fs n=fs.getD n 0:=rfl
   rw [← e]
   omega
theorem wQ (l:List Pr):flats (l.map prD)=true:=jX prD Di l
end
noncomputable def qRF (a:Option D):Option Oc:=match a with
 | some (.list l)=>if flats l=true then some (.ex "" "" (.list l)) else none
 | _=>none
theorem BJ {f:FE} {δ:DS}:rB f δ=qRF (f δ):=by
 unfold rB qRF
 cases f δ with
 | none=>rfl
 | some d=>cases d <;> rfl
theorem vg {l:List D} (h:flats l=true):qRF (some (.list l))=some (.ex "" "" (.list l)):=if_pos h
theorem K9 {i:Nat} {F:List D→Option D} {f0 f1 f3:FE} {δ:DS} {d0 d1 d3:D} {l0 l:List D} (e0:f0 δ=some d0) (e1:f1 δ=some d1) (e2:ao i δ=some (.list l0)) (e3:f3 δ=some d3) (h0:flats l0=true) (hi:i < δ.length) (eF:F [d0,d1,.list l0,d3]=some (.list l)) (h:flats l=true) :
 wg i F f0 f1 f3 δ=some (.nx (δ.set i (some (.d (.list l))))):=by
 unfold wg
 rw [e0,aH,e1,aH,e2,aH,e3,aH]
 dsimp only
 rw [if_pos ⟨h0,hi⟩,eF,aH]
 exact if_pos h
theorem K_ {i:Nat} {f1 f3:FE} {δ:DS} {n:Int} {l m:List D} (e1:f1 δ=some (.int n)) (e2:ao i δ=some (.list l)) (e3:f3 δ=some (.list m)) (h1:flats l=true) (h2:flats m=true) :
 tu i f1 f3 δ=some (.ex "" "" (.tuple [.int n,.list l,.list m])):=by
 unfold tu
 rw [e1,aH,e2,aH,e3,aH]
 exact if_pos ⟨h1,h2⟩
open Be (Way Lb Cm lb cm fG onw bck gF relax better pass Runs PathTo plc nch src More ChOk Good)
theorem Uo {ws:List Wi} {fs:List Int} {ch ch':List Nat} {k:Nat} (hw:∀ w ∈ ws,nR fs.length w) (hk:k < ws.length) (hc:∀ i ∈ ch,i < k) (hl:ch.length ≤ 1000) (wl:ws.length ≤ 1000) (fl:fs.length ≤ 900) (M:More (wif ws) (frf fs) fs.length k ch ch') :
 gJ [.list (ws.map wiD),.list (fs.map .int),.list ((cZ ch).map .int),.int (k:Int)]=some (.list ((cZ ch').map .int)):=by
 obtain ⟨l,c,R,ll,lc,q⟩:=M
 have ok:=Bv hw hk
 have o1:=ok.1;have o2:=ok.2.1;have o3:=ok.2.2.1
 have e1:pAt (ws.map wiD) (k:Int)=some (wiD (wif ws k)):=by
  have:=fW wiD (l:=ws) (0,0,0) (i:=(k:Int)) (by omega) (by omega)
  rw [bJ] at this
  exact this
 have i0:gIx (wiD (wif ws k)) (.int 0)=some (.int (wif ws k).1):=rfl
 have i1:gIx (wiD (wif ws k)) (.int 1)=some (.int (wif ws k).2.1):=rfl
 have i2:gIx (wiD (wif ws k)) (.int 2)=some (.int (wif ws k).2.2):=rfl
 have cut:cutD (ws.map wiD) none (some (k:Int))=(ws.take k).map wiD:=by rw [Ss (by omega),bJ,List.map_take]
 have tl:(ws.take k).length=k:=by rw [nH];omega
 have W:=wJ (ws:=ws.take k) (fs:=fs) (ch:=ch) (fun w hw'=>hw w (List.mem_of_mem_take hw')) (fun i hi=>by rw [tl];exact hc i hi) hl (by omega) (by omega)
 rw [tl,Bu (wi':=wif ws) (fun i hi=>by unfold wif;rw [aG,aG,mZ hi]) hc] at W
 have rp:rN (.list [.none]) (.int ((fs.length:Int) + 1))=some (.list (aK (fs.length + 1) .none)):=by
  rw [Ij (by omega) (by omega),show ((fs.length:Int) + 1).toNat=fs.length + 1 by omega]
 have px:pIx (fs.length + 1) (wif ws k).2.1=some (wif ws k).2.1.toNat:=by
  have:=PX (n:=fs.length + 1) (k:=(wif ws k).2.1.toNat) (by omega)
  rwa [dO (by omega)] at this
 have sr:(aK (fs.length + 1) PyData.none).set (wif ws k).2.1.toNat (.int 0)=(src (fs.length + 1) (wif ws k).2.1.toNat).map oD:=by
  unfold src
  rw [qw,lY]
  rfl
 have sl:(src (fs.length + 1) (wif ws k).2.1.toNat).length=fs.length + 1:=by unfold src;rw [bM,aQ]
 have rg:∀ w ∈ gF (wif ws) (frf fs) fs.length ch k,w.u < fs.length + 1∧w.v < fs.length + 1:=fun w h=>Be.uf (fun i hi=>yw hw (by omega)) h
 have Ch:=pU (ws:=gF (wif ws) (frf fs) fs.length ch k) (c0:=src (fs.length + 1) (wif ws k).2.1.toNat) (l:=l) (c:=c) (by rw [sl];omega) (fun w h=>by rw [sl];exact rg w h) (by rw [sl];exact R)
 have la:=KY (l:=l) (v:=(wif ws k).1.toNat) (by rw [ll];omega)
 rw [dO o1] at la
 obtain ⟨m,hm⟩:∃ m,fs.length + 1=m:=⟨_,rfl⟩
 rw [hm] at rp px sr Ch
 unfold gJ
 rcases q with ⟨h,rfl⟩ | ⟨y,P,ey,hy,hP,pr,plen,rfl⟩
 ·cases ea:lb l (wif ws k).1.toNat with
  | none =>
   rw [ea] at la
   have la:pAt (l.map oD) (wif ws k).1=some .none:=la
   simp only [EV,reduceIte,aq,aA,aj,ak,aB,aC,aD,CK,rA,yu,BJ,vg (gC _),e1,i0,i1,i2,cut,W,lMp,rp,aQ,px,aH,sr,Ch,la,at0,sz (show 1 ≤ 1000000 by decide)]
  | some y =>
   rw [ea] at la
   have la:pAt (l.map oD) (wif ws k).1=some (.int y):=la
   simp only [EV,reduceIte,aq,aA,aj,ak,aB,aC,aD,CK,rA,yu,BJ,vg (gC _),e1,i0,i1,i2,cut,W,lMp,rp,aQ,px,aH,sr,Ch,la,at0,dTr (h y ea),sz (show 1 ≤ 1000000 by decide)]
 ·rw [ey] at la
  have la:pAt (l.map oD) (wif ws k).1=some (.int y):=la
  have Bk:=Fe hP (fun w h=>by rw [lc];exact pr w h) (by omega)
  rw [dO o1,dO (show 0 ≤ (wif ws k).2.1 by omega)] at Bk
  have pll:(plc P).length ≤ P.length:=by unfold plc;exact List.length_filterMap_le _ _
  have gc:qJ (.list ((cZ (plc P)).map .int)) (.list [.int (k:Int)])=some (.list ((cZ (plc P++[k])).map .int)):=by
   rw [su (by rw [aU];unfold cZ;rw [aU];simp only [dY,jO];omega)]
   unfold cZ
   rw [fQ,fQ]
   rfl
  have rr:nP (some [.int ((k:Int) + 1)])=some (fU 0 ((k:Int) + 1)):=tL (by omega) (by omega)
  have C:=xU (g:=(gNl 0)) (c:=(aP (dOp gNe (dOp gIn (ao 0) (ao 1)) (dOp gIn (ao 0) (ao 2))))) (e:=(dW (ao 0))) (δ:=[none,some (.d (.list ((cZ ch).map .int))),some (.d (.list ((cZ (plc P++[k])).map .int)))]) (fun i:Nat=>PyData.int (i:Int)) (fun i:Nat=>(decide (i ∈ ch)) != (decide (i ∈ plc P++[k]))) (fun i:Nat=>PyData.int (i:Int)) (aZ (k + 1)) (fun i _=>by
   refine ⟨[some (.d (.int (i:Int))),some (.d (.list ((cZ ch).map .int))),some (.d (.list ((cZ (plc P++[k])).map .int)))],rfl,?_,fun _=>by simp only [EV,reduceIte,aq,aA,aj,ak,aB,aC,aD]⟩
   have g1:=Ds ch i
   have g2:=Ds (plc P++[k]) i
   generalize decide (i ∈ ch)=b1 at g1 ⊢
   generalize decide (i ∈ plc P++[k])=b2 at g2 ⊢
   simp only [EV,reduceIte,aq,aA,aj,ak,aB,aC,aD,g1,g2,ne_bool])
  have ca:∀ x0 x1 x2 x3 x4 x5 x6 x7 x8:Option U,jg 1 [2,8] [x0,x1,x2,x3,x4,x5,x6,x7,x8]=[none,x2,x8]:=fun _ _ _ _ _ _ _ _ _=>rfl
  have rm:fU 0 ((k:Int) + 1)=(aZ (k + 1)).map fun i:Nat=>PyData.int (i:Int):=by rw [t_,show ((k:Int) + 1).toNat=k + 1 by omega]
  have fin:((aZ (k + 1)).filter fun i:Nat=>(decide (i ∈ ch)) != (decide (i ∈ plc P++[k]))).map (fun i:Nat=>PyData.int (i:Int))=(cZ (nch ch (plc P) k)).map .int:=by rw [P0];rfl
  rw [fin] at C
  simp only [EV,reduceIte,aq,aA,aj,ak,aB,aC,aD,CK,rA,yu,BJ,vg (gC _),e1,i0,i1,i2,cut,W,lMp,rp,aQ,px,aH,sr,Ch,la,at0,at1,dFa (show ¬ (wif ws k).2.2 ≤ y by omega),Bk,gc,rr,rm,cH,show k + 1 ≤ 100000 by omega,ca,C,sz (show 1 ≤ 1000000 by decide)]
theorem L_ {ws:List Wi} {fs:List Int} (hw:∀ w ∈ ws,nR fs.length w) (hf:∀ f ∈ fs,0 ≤ f) (wl:ws.length ≤ 900) (fl:fs.length ≤ 900):∃ ch d,Be.ChOk (wif ws) (frf fs) fs.length ch ws.length∧ch.Pairwise (· < ·)∧Be.Good (Be.gF (wif ws) (frf fs) fs.length ch ws.length) d ∧
 gD [.list (ws.map wiD),.list (fs.map .int)]=some (.tuple [.int (Be.worth (wif ws) ch),.list ((cZ ch).map .int),.list ((iU d fs.length).map prD)]):=by
 have rr:nP (some [.int (ws.length:Int)])=some (fU 0 (ws.length:Int)):=tL (by omega) (by omega)
 have ok0:Be.ChOk (wif ws) (frf fs) fs.length [] 0:=⟨List.nodup_nil,fun _ h=>(by cases h),fun n hn=>by
  show (0:Int) ≤ fs.getD n 0
  rw [aG,aO hn]
  exact hf _ (dZ hn)⟩
 have g0:Be.Good (Be.gF (wif ws) (frf fs) fs.length [] 0) (fun _=>0):=fun w h=>by
  rcases Be.eG.mp h with ⟨n,_,rfl⟩ | ⟨n,_,_,rfl⟩ | ⟨i,hi,rfl⟩
  ·exact iK _
  ·exact iK _
  ·omega
 obtain ⟨δ',e,ch,π,z3,ok,up,g,rfl⟩:=oG (g:=(gNl 3)) (b:=(wg 2 gJ (ao 0) (ao 1) (ao 3))) (fun k δ=>∃ (ch:List Nat) (π:Nat→Int) (y3:Option U),Be.ChOk (wif ws) (frf fs) fs.length ch k∧ch.Pairwise (· < ·)∧Be.Good (Be.gF (wif ws) (frf fs) fs.length ch k) π∧δ=[some (.d (.list (ws.map wiD))),some (.d (.list (fs.map .int))),some (.d (.list ((cZ ch).map .int))),y3]) (fU 0 (ws.length:Int))
  [some (.d (.list (ws.map wiD))),some (.d (.list (fs.map .int))),some (.d (.list [])),none] ⟨[],fun _=>0,none,ok0,.nil,g0,rfl⟩
  (by
   rintro k d δ hd ⟨ch,π,y3,ok,up,g,rfl⟩
   obtain ⟨hk,rfl⟩:=lN hd
   obtain ⟨ch',π',M,ok',g'⟩:=Be.HX (fun i hi=>yw hw (by omega)) ok g
   have len:=Be.yt ok.nd ok.lt
   have O:=Uo hw (by omega) ok.lt (by omega) (by omega) (by omega) M
   refine ⟨_,_,rfl,.inl ?_,ch',π',some (.d (.int (k:Int))),ok',Fp M up,g',rfl⟩
   exact K9 rfl rfl rfl rfl (gC _) (by simp) O (gC _))
 rw [mY,bJ] at ok g
 have len:=Be.yt ok.nd ok.lt
 obtain ⟨l,c,R,ll,al,gd⟩:=Be.E_ (fun i hi=>yw hw hi) g
 have Pr:=vJ hw ok.lt (by omega) (by omega) (by omega) R ll al
 have W:=uP (ws:=ws) (cs:=cZ ch) (by unfold cZ;rw [aU];omega) (fun c h=>by
  unfold cZ at h
  obtain ⟨i,hi,rfl⟩:=cN.mp h
  have:=ok.lt i hi
  omega)
 rw [zT] at W
 refine ⟨ch,_,ok,up,gd,?_⟩
 have W':Com.dJ _=_:=W
 have Pr':Com.h_ _=_:=Pr
 have RT:(tu 2 (dCall dJ (aF (ao 0) (aF (ao 2) (aM)))) (dCall h_ (aF (ao 0) (aF (ao 1) (aF (ao 2) (aM)))))) [some (.d (.list (ws.map wiD))),some (.d (.list (fs.map .int))),some (.d (.list ((cZ ch).map .int))),z3]=some (.ex "" "" (.tuple [.int (Be.worth (wif ws) ch),.list ((cZ ch).map .int),.list ((iU (fun v=>(Be.lb l v).getD 0) fs.length).map prD)])) :=
  K_ (by simp only [EV,reduceIte,aq,aA,aj,ak,aB,aC,aD,W']) rfl (by simp only [EV,reduceIte,aq,aA,aj,ak,aB,aC,aD,Pr']) (gC _) (wQ _)
 unfold gD
 simp only [EV,reduceIte,aq,aA,aj,ak,aB,aC,aD,CK,rA,yu,kE hw,lMp,rr,e,sz (show 0 ≤ 1000000 by decide),RT]
theorem Qe {i j k q:Nat} {δ:DS} {d0:D} {l1 l2:List D} (e:ao q δ=some (.tuple [d0,.list l1,.list l2])) (f0:flat d0=true) (f1:flats l1=true) (f2:flats l2=true) (h:i < δ.length∧j < δ.length∧k < δ.length) :
 vH i j k q δ=some (.nx ((((δ.set i (some (.d d0))).set j (some (.d (.list l1)))).set k (some (.d (.list l2)))).set q none)):=by
 unfold vH
 rw [e,aH]
 exact if_pos ⟨f0,f1,f2,h.1,h.2.1,h.2.2⟩
theorem Qf {i n:Nat} {fk:FE} {δ:DS} {l m:List D} (h1:ao i δ=some (.list l)) (h2:fk δ=some (.int (n:Int))) (h4:l[n]? = some (.list m)) :
 pO i fk δ=some (.nx (δ.set i (some (.d (.list (l.set n (.list []))))))):=by
 have hn:n < l.length:=(cg.mp h4).1
 unfold pO Nh
 rw [h1,aH,h2,aH]
 show (pIx l.length (n:Int)).bind _=_
 have:pIx l.length (n:Int)=some n:=by
  unfold pIx
  rw [if_pos (by omega),if_pos (by omega)]
  rfl
 rw [this,aH,h4]
 rfl
theorem Qg {i:Nat} {l:List D} {δ:DS} (h:ao i δ=some (.list l)):xR i δ=some (.nx (δ.set i (some (.d (.list []))))):=by
 show qM (fun _=>some []) i (ao i δ) δ=_
 rw [h]
 rfl
theorem fs2 {α:Type} (P:Nat→Bool) (f:Nat→α) (g:α→Int):∀ l:List Nat,(((l.filter P).map f).map g).sum=(l.map fun n=>if P n=true then g (f n) else 0).sum
 | []=>rfl
 | a :: r=>by
  have ih:=fs2 P f g r
  rw [bx,cC,← ih]
  by_cases p:P a=true
  ·rw [iB p,bx,bx,cC,if_pos p]
  ·rw [iD p,if_neg p,j5]
theorem zW {ws:List Wi} {fs:List Int} {d:Nat→Int} {v:Int} (hw:∀ w ∈ ws,nR fs.length w) (b:Be.Bst ws (frf fs) fs.length d v):Bg ws fs (iU d fs.length)=v:=by
 rw [b.eq]
 unfold Bg Hy Be.bnd
 have e1:((iU d fs.length).map fun p=>fs.getD p.1.toNat 0 * p.2).sum=Be.S (fun n=>Be.prc d n * frf fs n) fs.length:=by
  unfold iU
  rw [fs2,Be.lR]
  refine Be.fP fun n hn=>?_
  have p:=b.pp n hn
  by_cases c:0 < Be.prc d n
  ·rw [if_pos (dTr c)]
   show fs.getD ((n:Int).toNat) 0 * Be.prc d n=_
   rw [bJ,Int.mul_comm]
   rfl
  ·rw [if_neg (by simpa using c),show Be.prc d n=0 by omega,qu]
 have e2:(ws.map fun w=>Eu (jz (iU d fs.length) w))=ws.map fun w=>max 0 (Be.uX d w):=by
  apply jG
  intro w h
  obtain ⟨a,b',c,_⟩:=hw w h
  unfold jz Eu Be.uX
  rw [uY b.pp a (by omega) c]
  split <;> omega
 rw [e1,e2,Int.add_comm]
theorem lw (d:D):Com.cM [d]=some (.bool (isI d)):=by
 unfold Com.cM
 cases d <;> rfl
theorem BK {ws:List Wi} {fs cs:List Int} {ps:List Pr} {v:Int} (wl:ws.length ≤ 1000) (hl:cs.length ≤ 1000) (fl:fs.length ≤ 1000) (pl:ps.length ≤ 1000) (ib:ibB ws fs cs ps=true) (hin:∀ c ∈ cs,0 ≤ c∧c < ws.length) (hv:xY ws cs=v) :
 cQ [.list (ws.map wiD),.list (fs.map .int),.tuple [.int v,.list (cs.map .int),.list (ps.map prD)]]=some (.bool true):=by
 have LB:Com.eX _=_:=Fo wl hl fl pl
 rw [ib] at LB
 have w1:=lw (.int v)
 have t1:D3.isT "tuple" (tyD (.tuple [.int v,.list (cs.map .int),.list (ps.map prD)]))=true:=rfl
 have l1:∀ l:List D,D3.isT "list" (tyD (.list l))=true:=fun _=>rfl
 have n3:gNe (.int ((0 + 1 + 1 + 1:Nat):Int)) (.int 3)=some (.bool false):=rfl
 have C1:∀ δ0,jW (gNl 0) (D3.iI (aP (dCall cM (aF (ao 0) (aM))))) (dW (ao 0)) (jg 1 [] δ0) (cs.map .int)=some []:=fun δ0=>by
  have:=xU (g:=(gNl 0)) (c:=(D3.iI (aP (dCall cM (aF (ao 0) (aM)))))) (e:=(dW (ao 0))) (δ:=jg 1 [] δ0) (fun k:Int=>PyData.int k) (fun _=>false) (fun k:Int=>PyData.int k) cs fun k _=>⟨[some (.d (.int k))],rfl,by
   have w2:=lw (.int k)
   have w2:Com.cM [.int k]=some (.bool true):=w2
   simp only [EV,reduceIte,aq,aA,aj,ak,aB,aC,aD,w2,iu],fun z=>by cases z⟩
  rw [this]
  simp
 have C2:∀ u1 u2 u3 u4 u5 u6:Option U,jW (gNl 0) (D3.gq) (dW (dOp gIx (dOp gIx (ao 1) (ao 0)) (dC (.int 2)))) (jg 1 [0] [some (.d (.list (ws.map wiD))),u1,u2,u3,u4,u5,u6]) (cs.map .int)=some ((cs.map fun c=>(ws.getD c.toNat (0,0,0)).2.2).map .int):=fun _ _ _ _ _ _=>by
  rw [bZ]
  exact oH (fun k:Int=>PyData.int k) _ cs fun k hk=>⟨[some (.d (.int k)),some (.d (.list (ws.map wiD)))],rfl,rfl,by
   have e:=fW wiD (l:=ws) (0,0,0) (hin k hk).1 (hin k hk).2
   have i2:gIx (wiD (ws.getD k.toNat (0,0,0))) (.int 2)=some (.int (ws.getD k.toNat (0,0,0)).2.2):=rfl
   have f2:flat (.int (ws.getD k.toNat (0,0,0)).2.2)=true:=rfl
   simp only [EV,reduceIte,aq,aA,aj,ak,aB,aC,aD,e,i2,f2]
   rfl⟩
 have cl:(cs.map PyData.int).length ≤ 100000:=by rw [aU];omega
 have ns:=wu (ns:=cs.map fun c=>(ws.getD c.toNat (0,0,0)).2.2)
 have hv:(cs.map fun c=>(ws.getD c.toNat (0,0,0)).2.2).sum=v:=hv
 obtain ⟨δ',e,y6,rfl⟩:=oG (g:=(gNl 6)) (b:=(sIf (D3.tOr (D3.iI (aP (dUn (gIs "tuple") (ao 6)))) (D3.tOr (aP (dOp gNe (dCall iW (aF (ao 6) (aM))) (dC (.int 2)))) (D3.tOr (D3.iI (aP (dCall cM (aF (dOp gIx (ao 6) (dC (.int 0))) (aM))))) (D3.iI (aP (dCall cM (aF (dOp gIx (ao 6) (dC (.int 1))) (aM)))))))) (b_ (dC (.bool false))) (dF))) (fun _ δ=>∃ y6:Option U,δ=[some (.d (.list (ws.map wiD))),some (.d (.list (fs.map .int))),some (.d (.tuple [.int v,.list (cs.map .int),.list (ps.map prD)])),some (.d (.int v)),some (.d (.list (cs.map .int))),some (.d (.list (ps.map prD))),y6]) (ps.map prD)
  [some (.d (.list (ws.map wiD))),some (.d (.list (fs.map .int))),some (.d (.tuple [.int v,.list (cs.map .int),.list (ps.map prD)])),some (.d (.int v)),some (.d (.list (cs.map .int))),some (.d (.list (ps.map prD))),none] ⟨none,rfl⟩ (by
   rintro i d δ hd ⟨y6,rfl⟩
   obtain ⟨p,_,rfl⟩:=cN.mp (gM hd)
   refine ⟨_,[some (.d (.list (ws.map wiD))),some (.d (.list (fs.map .int))),some (.d (.tuple [.int v,.list (cs.map .int),.list (ps.map prD)])),some (.d (.int v)),some (.d (.list (cs.map .int))),some (.d (.list (ps.map prD))),some (.d (prD p))],rfl,.inl ?_,_,rfl⟩
   have t2:D3.isT "tuple" (tyD (prD p))=true:=rfl
   have w2:Com.cM [.int p.1]=some (.bool true):=lw (.int p.1)
   have w3:Com.cM [.int p.2]=some (.bool true):=lw (.int p.2)
   have n2:gNe (.int ((0 + 1 + 1:Nat):Int)) (.int 2)=some (.bool false):=rfl
   unfold prD at *
   simp only [EV,reduceIte,aq,aA,aj,ak,aB,aC,aD,t2,iu,n2,at0,at1,w2,w3])
 have e0:gNe (.list []) (.list [])=some (.bool false):=rfl
 have wt:Com.cM [.int v]=some (.bool true):=w1
 unfold cQ
 simp only [EV,reduceIte,aq,aA,aj,ak,aB,aC,aD,t1,iu,n3,at0,wt,l1,e,cl,C1,sz (show 0 ≤ 1000000 by decide),e0,LB,C2,ns,hv,decide_true]
theorem vh (ns:List Int) {n m:Int} (n0:1 ≤ n) (n1:n ≤ 60) (m0:0 ≤ m) (m1:m ≤ 40) (xs:List Int):((aY (bh 4 (dCall eZ (aF (ao 0) (aF (ao 2) (aM)))))
 (aY (bh 5 (dCall dM (aF (ao 0) (aF (ao 2) (aF (ao 3) (aM))))))
 (aY (bh 6 (dR (aF (dN1 (lJ (dUn gY (ao 5)))) (aF (dN1 (lJ (dUn gY (ao 4)))) (aM)))))
 (aY (bh 7 (dCall gD (aF (dOp gIx (ao 6) (dC (.int 0))) (aF (dOp gIx (ao 6) (dC (.int 1))) (aM)))))
 (aY (sIf (D3.tOr (D3.iI (aP (dCall cQ (aF (ao 5) (aF (ao 4) (aF (ao 7) (aM))))))) (aP (dOp gNe (ao 6) (dR (aF (ao 5) (aF (ao 4) (aM))))))) (b_ (dC (.bool false))) (dF))
 (aY (vH 8 9 10 7)
 (aY (sIf (D3.tOr (aP (dOp gNe (dCall fB (aF (ao 5) (aF (ao 4) (aF (ao 10) (aM))))) (ao 8))) (aP (dOp gNe (dCall dJ (aF (ao 5) (aF (ao 9) (aM)))) (ao 8)))) (b_ (dC (.bool false))) (dF))
 (aY (sIf (D3.tOr (aP (dUn mQ (dCall jo (aF (ao 5) (aF (ao 4) (aF (ao 9) (aF (ao 10) (aM)))))))) (aP (dUn mQ (dCall fj (aF (ao 5) (aF (ao 4) (aF (ao 9) (aM)))))))) (b_ (dC (.bool false))) (dF))
 (aY (o7 9 (dC (.int 0)))
 (aY (xR 10)
 (aY (pO 6 (dC (.int 0)))
 (aY (bh 11 (dCall gD (aF (dUn gY (ao 5)) (aF (dUn gY (ao 4)) (aM)))))
 (b_ (lu (dCall cQ (aF (ao 5) (aF (ao 4) (aF (ao 11) (aM))))) (lu (dOp gEq (dOp gIx (ao 11) (dC (.int 0))) (ao 8)) (dOp gEq (dCall gD (aF (dR (aM)) (aF (dR (aM)) (aM)))) (dTup (aF (dC (.int 0)) (aF (dR (aM)) (aF (dR (aM)) (aM)))))))))))))))))))))) [some (.d (.list (ns.map .int))),some (.d (.list (xs.map .int))),some (.d (.int n)),some (.d (.int m)),none,none,none,none,none,none,none,none]=some (.rt (.bool true)):=by
 obtain ⟨fs,fl,hf,ef⟩:=Es ns (n:=n) n0 (by omega)
 have fl':(fs.length:Int)=n:=by omega
 obtain ⟨ws,wl,hw,ew⟩:=zK ns (n:=(fs.length:Int)) (m:=m) (by omega) (by omega) m0 (by omega)
 rw [fl'] at ew
 have wl1:ws.length ≤ 40:=by omega
 have fl1:fs.length ≤ 60:=by omega
 obtain ⟨ch,d,ok,up,g,eb⟩:=L_ hw (fun f hf'=>(hf f hf').1) (by omega) (by omega)
 have bst:=Be.P_ (x:=(0,0,0)) (Qa hw) ok g
 have bw:=zW hw bst
 have ib:=K8 hw ok up g
 have we:=zT ws ch
 have pl:=Fg d fs.length
 have cl:(cZ ch).length ≤ 40:=by
  have:=Be.yt ok.nd ok.lt
  unfold cZ
  rw [aU]
  omega
 have hin:∀ c ∈ cZ ch,0 ≤ c∧c < ws.length:=fun c h=>by
  unfold cZ at h
  obtain ⟨i,hi,rfl⟩:=cN.mp h
  have:=ok.lt i hi
  omega
 have hp:∀ p ∈ iU d fs.length,0 ≤ p.1∧p.1 < fs.length:=fun p h=>by
  obtain ⟨k,hk,_,rfl⟩:=Bx h
  constructor
  ·show (0:Int) ≤ (k:Int);omega
  ·show (k:Int) < _;omega
 have bv:Be.worth (fun i=>ws.getD i (0,0,0)) ch=Be.worth (wif ws) ch:=rfl
 rw [bv] at bw
 obtain ⟨ch0,d0,ok0,_,_,eb0⟩:=L_ (ws:=[]) (fs:=[]) (fun w h=>by cases h) (fun f h=>by cases h) (by decide) (by decide)
 have c0:ch0=[]:=by
  cases ch0 with
  | nil=>rfl
  | cons a r=>exact absurd (ok0.lt a aN) (Nat.not_lt_zero _)
 subst c0
 have eb0:gD [.list [],.list []]=some (.tuple [.int 0,.list [],.list []]):=eb0
 have R1:=BK (v:=Be.worth (wif ws) ch) (by omega) (by omega) (by omega) (by omega) ib hin we
 have B1:Com.fB _=_:=Bj (ws:=ws) (fs:=fs) (ps:=iU d fs.length) (by omega) (by omega) hw hf hp
 rw [bw] at B1
 have W1:Com.dJ _=_:=uP (ws:=ws) (cs:=cZ ch) (by omega) hin
 rw [we] at W1
 have I1:=Iu (ws:=ws) (fs:=fs) (cs:=cZ ch) (ps:=iU d fs.length) (by omega) (by omega) (by omega) (by omega) hw
 rw [ib] at I1
 have cb:chB ws fs (cZ ch)=true:=(cF.mp (cF.mp ib).1).1
 have H1:=rJ (ws:=ws) (fs:=fs) (cs:=cZ ch) (by omega) (by omega) hw
 rw [cb] at H1
 have f1:=gC (cZ ch)
 have f2:=wQ (iU d fs.length)
 generalize Be.worth (wif ws) ch=v at *
 have l1:((cZ ch).map PyData.int).length < 1000000:=by rw [aU];omega
 generalize (cZ ch).map PyData.int=CS at *
 generalize (iU d fs.length).map prD=PS at *
 have fw:flats (ws.map wiD)=true:=jX wiD (fun _=>rfl) ws
 have ff:=gC fs
 have nw:nl (.list (ws.map wiD)) ≤ 1:=by
  show nls (ws.map wiD) + 1 ≤ 1
  have:nls (ws.map wiD)=0:=by
   generalize ws=l
   induction l with
   | nil=>rfl
   | cons a r ih =>
    show nl (wiD a) + nls (r.map wiD)=0
    rw [ih]
    rfl
  omega
 have nf:nl (.list (fs.map .int)) ≤ 1:=by
  show nls (fs.map .int) + 1 ≤ 1
  have:nls (fs.map PyData.int)=0:=by
   generalize fs=l
   induction l with
   | nil=>rfl
   | cons a r ih =>
    show nl (.int a) + nls (r.map PyData.int)=0
    rw [ih]
    rfl
  omega
 have nh:gNe (.list [.list (ws.map wiD),.list (fs.map .int)]) (.list [.list (ws.map wiD),.list (fs.map .int)])=some (.bool false):=ne_self (Dh (n:=51) (ud (nQ (Sw ws) (nQ (Qd fs) xW))) (by decide))
 have q0:gEq (.tuple [.int 0,.list [],.list []]) (.tuple [.int 0,.list [],.list []])=some (.bool true):=rfl
 have nT:mQ (.bool true)=some (.bool false):=rfl
 have U1:vH 8 9 10 7 [some (.d (.list (ns.map .int))),some (.d (.list (xs.map .int))),some (.d (.int n)),some (.d (.int m)),some (.d (.list (fs.map .int))),some (.d (.list (ws.map wiD))),some (.d (.list [.list (ws.map wiD),.list (fs.map .int)])),some (.d (.tuple [.int v,.list CS,.list PS])),none,none,none,none]=some (.nx [some (.d (.list (ns.map .int))),some (.d (.list (xs.map .int))),some (.d (.int n)),some (.d (.int m)),some (.d (.list (fs.map .int))),some (.d (.list (ws.map wiD))),some (.d (.list [.list (ws.map wiD),.list (fs.map .int)])),none,some (.d (.int v)),some (.d (.list CS)),some (.d (.list PS)),none]):=Qe rfl rfl f1 f2 (by simp)
 have K1:xR 10 [some (.d (.list (ns.map .int))),some (.d (.list (xs.map .int))),some (.d (.int n)),some (.d (.int m)),some (.d (.list (fs.map .int))),some (.d (.list (ws.map wiD))),some (.d (.list [.list (ws.map wiD),.list (fs.map .int)])),none,some (.d (.int v)),some (.d (.list (CS++[.int 0]))),some (.d (.list PS)),none]=some (.nx [some (.d (.list (ns.map .int))),some (.d (.list (xs.map .int))),some (.d (.int n)),some (.d (.int m)),some (.d (.list (fs.map .int))),some (.d (.list (ws.map wiD))),some (.d (.list [.list (ws.map wiD),.list (fs.map .int)])),none,some (.d (.int v)),some (.d (.list (CS++[.int 0]))),some (.d (.list [])),none]):=Qg rfl
 have K2:pO 6 (dC (.int 0)) [some (.d (.list (ns.map .int))),some (.d (.list (xs.map .int))),some (.d (.int n)),some (.d (.int m)),some (.d (.list (fs.map .int))),some (.d (.list (ws.map wiD))),some (.d (.list [.list (ws.map wiD),.list (fs.map .int)])),none,some (.d (.int v)),some (.d (.list (CS++[.int 0]))),some (.d (.list [])),none]=some (.nx [some (.d (.list (ns.map .int))),some (.d (.list (xs.map .int))),some (.d (.int n)),some (.d (.int m)),some (.d (.list (fs.map .int))),some (.d (.list (ws.map wiD))),some (.d (.list [.list [],.list (fs.map .int)])),none,some (.d (.int v)),some (.d (.list (CS++[.int 0]))),some (.d (.list [])),none]):=Qf (n:=0) (l:=[.list (ws.map wiD),.list (fs.map .int)]) (m:=ws.map wiD) rfl rfl rfl
 simp only [EV,reduceIte,aq,aA,aj,ak,aB,aC,aD,ef,ew,Hv,fw,ff,nw,nf,decide_true,at0,at1,eb,R1,iu,sz (show 2 ≤ 1000000 by decide),nh,U1,B1,W1,ne_eq,not_true_eq_false,decide_false,I1,H1,nT,l1,K1,K2,sz (show 0 ≤ 1000000 by decide),eb0,sz (show 3 ≤ 1000000 by decide),q0]
theorem Iz (ns:List Int) (h:ns.length ≤ 63):Io [.list (ns.map .int)]=some (.bool true):=by
 obtain ⟨xs,hl,hb,R⟩:=rG ns (a:=0) (m:=4) (by decide) (by decide) (by decide)
 obtain ⟨x0,x1,x2,x3,rfl⟩:∃ x0 x1 x2 x3,xs=[x0,x1,x2,x3]:=by
  match xs,hl with
  | [a,b,c,d],_=>exact ⟨a,b,c,d,rfl⟩
 have R:Com.dI [.list (ns.map .int),.int 0,.int 4]=some (.list [.int x0,.int x1,.int x2,.int x3]):=R
 have r0:=oV (i:=x0) (j:=10) (by decide)
 have g0:eN (.int x0) (.int 10)=some (.int (x0 % 10)):=iy (by decide)
 have r1:=oV (i:=x1) (j:=13) (by decide)
 have g1:eN (.int x1) (.int 13)=some (.int (x1 % 13)):=iy (by decide)
 have g2:eN (.int x2) (.int 12)=some (.int (x2 % 12)):=iy (by decide)
 have g3:eN (.int x2) (.int 40)=some (.int (x2 % 40)):=iy (by decide)
 have K1:=vh ns (n:=60) (m:=40) (by decide) (by decide) (by decide) (by decide) [x0,x1,x2,x3]
 have K2:=vh ns (n:=24) (m:=16) (by decide) (by decide) (by decide) (by decide) [x0,x1,x2,x3]
 have K3:=vh ns (n:=1 + x0 % 10) (m:=x1 % 13) (by omega) (by omega) (by omega) (by omega) [x0,x1,x2,x3]
 have K1:((aY (bh 4 (dCall eZ (aF (ao 0) (aF (ao 2) (aM)))))
  (aY (bh 5 (dCall dM (aF (ao 0) (aF (ao 2) (aF (ao 3) (aM))))))
  (aY (bh 6 (dR (aF (dN1 (lJ (dUn gY (ao 5)))) (aF (dN1 (lJ (dUn gY (ao 4)))) (aM)))))
  (aY (bh 7 (dCall gD (aF (dOp gIx (ao 6) (dC (.int 0))) (aF (dOp gIx (ao 6) (dC (.int 1))) (aM)))))
  (aY (sIf (D3.tOr (D3.iI (aP (dCall cQ (aF (ao 5) (aF (ao 4) (aF (ao 7) (aM))))))) (aP (dOp gNe (ao 6) (dR (aF (ao 5) (aF (ao 4) (aM))))))) (b_ (dC (.bool false))) (dF))
  (aY (vH 8 9 10 7)
  (aY (sIf (D3.tOr (aP (dOp gNe (dCall fB (aF (ao 5) (aF (ao 4) (aF (ao 10) (aM))))) (ao 8))) (aP (dOp gNe (dCall dJ (aF (ao 5) (aF (ao 9) (aM)))) (ao 8)))) (b_ (dC (.bool false))) (dF))
  (aY (sIf (D3.tOr (aP (dUn mQ (dCall jo (aF (ao 5) (aF (ao 4) (aF (ao 9) (aF (ao 10) (aM)))))))) (aP (dUn mQ (dCall fj (aF (ao 5) (aF (ao 4) (aF (ao 9) (aM)))))))) (b_ (dC (.bool false))) (dF))
  (aY (o7 9 (dC (.int 0)))
  (aY (xR 10)
  (aY (pO 6 (dC (.int 0)))
  (aY (bh 11 (dCall gD (aF (dUn gY (ao 5)) (aF (dUn gY (ao 4)) (aM)))))
  (b_ (lu (dCall cQ (aF (ao 5) (aF (ao 4) (aF (ao 11) (aM))))) (lu (dOp gEq (dOp gIx (ao 11) (dC (.int 0))) (ao 8)) (dOp gEq (dCall gD (aF (dR (aM)) (aF (dR (aM)) (aM)))) (dTup (aF (dC (.int 0)) (aF (dR (aM)) (aF (dR (aM)) (aM)))))))))))))))))))))) [some (.d (.list (ns.map .int))),some (.d (.list [.int x0,.int x1,.int x2,.int x3])),some (.d (.int 60)),some (.d (.int 40)),none,none,none,none,none,none,none,none]=some (.rt (.bool true)):=K1
 have K2:((aY (bh 4 (dCall eZ (aF (ao 0) (aF (ao 2) (aM)))))
  (aY (bh 5 (dCall dM (aF (ao 0) (aF (ao 2) (aF (ao 3) (aM))))))
  (aY (bh 6 (dR (aF (dN1 (lJ (dUn gY (ao 5)))) (aF (dN1 (lJ (dUn gY (ao 4)))) (aM)))))
  (aY (bh 7 (dCall gD (aF (dOp gIx (ao 6) (dC (.int 0))) (aF (dOp gIx (ao 6) (dC (.int 1))) (aM)))))
  (aY (sIf (D3.tOr (D3.iI (aP (dCall cQ (aF (ao 5) (aF (ao 4) (aF (ao 7) (aM))))))) (aP (dOp gNe (ao 6) (dR (aF (ao 5) (aF (ao 4) (aM))))))) (b_ (dC (.bool false))) (dF))
  (aY (vH 8 9 10 7)
  (aY (sIf (D3.tOr (aP (dOp gNe (dCall fB (aF (ao 5) (aF (ao 4) (aF (ao 10) (aM))))) (ao 8))) (aP (dOp gNe (dCall dJ (aF (ao 5) (aF (ao 9) (aM)))) (ao 8)))) (b_ (dC (.bool false))) (dF))
  (aY (sIf (D3.tOr (aP (dUn mQ (dCall jo (aF (ao 5) (aF (ao 4) (aF (ao 9) (aF (ao 10) (aM)))))))) (aP (dUn mQ (dCall fj (aF (ao 5) (aF (ao 4) (aF (ao 9) (aM)))))))) (b_ (dC (.bool false))) (dF))
  (aY (o7 9 (dC (.int 0)))
  (aY (xR 10)
  (aY (pO 6 (dC (.int 0)))
  (aY (bh 11 (dCall gD (aF (dUn gY (ao 5)) (aF (dUn gY (ao 4)) (aM)))))
  (b_ (lu (dCall cQ (aF (ao 5) (aF (ao 4) (aF (ao 11) (aM))))) (lu (dOp gEq (dOp gIx (ao 11) (dC (.int 0))) (ao 8)) (dOp gEq (dCall gD (aF (dR (aM)) (aF (dR (aM)) (aM)))) (dTup (aF (dC (.int 0)) (aF (dR (aM)) (aF (dR (aM)) (aM)))))))))))))))))))))) [some (.d (.list (ns.map .int))),some (.d (.list [.int x0,.int x1,.int x2,.int x3])),some (.d (.int 24)),some (.d (.int 16)),none,none,none,none,none,none,none,none]=some (.rt (.bool true)):=K2
 have K3:((aY (bh 4 (dCall eZ (aF (ao 0) (aF (ao 2) (aM)))))
  (aY (bh 5 (dCall dM (aF (ao 0) (aF (ao 2) (aF (ao 3) (aM))))))
  (aY (bh 6 (dR (aF (dN1 (lJ (dUn gY (ao 5)))) (aF (dN1 (lJ (dUn gY (ao 4)))) (aM)))))
  (aY (bh 7 (dCall gD (aF (dOp gIx (ao 6) (dC (.int 0))) (aF (dOp gIx (ao 6) (dC (.int 1))) (aM)))))
  (aY (sIf (D3.tOr (D3.iI (aP (dCall cQ (aF (ao 5) (aF (ao 4) (aF (ao 7) (aM))))))) (aP (dOp gNe (ao 6) (dR (aF (ao 5) (aF (ao 4) (aM))))))) (b_ (dC (.bool false))) (dF))
  (aY (vH 8 9 10 7)
  (aY (sIf (D3.tOr (aP (dOp gNe (dCall fB (aF (ao 5) (aF (ao 4) (aF (ao 10) (aM))))) (ao 8))) (aP (dOp gNe (dCall dJ (aF (ao 5) (aF (ao 9) (aM)))) (ao 8)))) (b_ (dC (.bool false))) (dF))
  (aY (sIf (D3.tOr (aP (dUn mQ (dCall jo (aF (ao 5) (aF (ao 4) (aF (ao 9) (aF (ao 10) (aM)))))))) (aP (dUn mQ (dCall fj (aF (ao 5) (aF (ao 4) (aF (ao 9) (aM)))))))) (b_ (dC (.bool false))) (dF))
  (aY (o7 9 (dC (.int 0)))
  (aY (xR 10)
  (aY (pO 6 (dC (.int 0)))
  (aY (bh 11 (dCall gD (aF (dUn gY (ao 5)) (aF (dUn gY (ao 4)) (aM)))))
  (b_ (lu (dCall cQ (aF (ao 5) (aF (ao 4) (aF (ao 11) (aM))))) (lu (dOp gEq (dOp gIx (ao 11) (dC (.int 0))) (ao 8)) (dOp gEq (dCall gD (aF (dR (aM)) (aF (dR (aM)) (aM)))) (dTup (aF (dC (.int 0)) (aF (dR (aM)) (aF (dR (aM)) (aM)))))))))))))))))))))) [some (.d (.list (ns.map .int))),some (.d (.list [.int x0,.int x1,.int x2,.int x3])),some (.d (.int (1 + x0 % 10))),some (.d (.int (x1 % 13))),none,none,none,none,none,none,none,none]=some (.rt (.bool true)):=K3
 unfold Io
 generalize (aY (bh 4 (dCall eZ (aF (ao 0) (aF (ao 2) (aM)))))
  (aY (bh 5 (dCall dM (aF (ao 0) (aF (ao 2) (aF (ao 3) (aM))))))
  (aY (bh 6 (dR (aF (dN1 (lJ (dUn gY (ao 5)))) (aF (dN1 (lJ (dUn gY (ao 4)))) (aM)))))
  (aY (bh 7 (dCall gD (aF (dOp gIx (ao 6) (dC (.int 0))) (aF (dOp gIx (ao 6) (dC (.int 1))) (aM)))))
  (aY (sIf (D3.tOr (D3.iI (aP (dCall cQ (aF (ao 5) (aF (ao 4) (aF (ao 7) (aM))))))) (aP (dOp gNe (ao 6) (dR (aF (ao 5) (aF (ao 4) (aM))))))) (b_ (dC (.bool false))) (dF))
  (aY (vH 8 9 10 7)
  (aY (sIf (D3.tOr (aP (dOp gNe (dCall fB (aF (ao 5) (aF (ao 4) (aF (ao 10) (aM))))) (ao 8))) (aP (dOp gNe (dCall dJ (aF (ao 5) (aF (ao 9) (aM)))) (ao 8)))) (b_ (dC (.bool false))) (dF))
  (aY (sIf (D3.tOr (aP (dUn mQ (dCall jo (aF (ao 5) (aF (ao 4) (aF (ao 9) (aF (ao 10) (aM)))))))) (aP (dUn mQ (dCall fj (aF (ao 5) (aF (ao 4) (aF (ao 9) (aM)))))))) (b_ (dC (.bool false))) (dF))
  (aY (o7 9 (dC (.int 0)))
  (aY (xR 10)
  (aY (pO 6 (dC (.int 0)))
  (aY (bh 11 (dCall gD (aF (dUn gY (ao 5)) (aF (dUn gY (ao 4)) (aM)))))
  (b_ (lu (dCall cQ (aF (ao 5) (aF (ao 4) (aF (ao 11) (aM))))) (lu (dOp gEq (dOp gIx (ao 11) (dC (.int 0))) (ao 8)) (dOp gEq (dCall gD (aF (dR (aM)) (aF (dR (aM)) (aM)))) (dTup (aF (dC (.int 0)) (aF (dR (aM)) (aF (dR (aM)) (aM)))))))))))))))))))))=RR at *
 by_cases c1:x2 % 12=5
 ·by_cases c2:x2 % 40=7
  ·simp only [EV,reduceIte,aq,aA,aj,ak,aB,aC,aD,R,at0,at1,at2,g0,g1,g2,g3,dTr c1,dTr c2,K1]
  ·simp only [EV,reduceIte,aq,aA,aj,ak,aB,aC,aD,R,at0,at1,at2,g0,g1,g2,g3,dTr c1,dFa c2,K2]
 ·by_cases c2:x2 % 40=7
  ·simp only [EV,reduceIte,aq,aA,aj,ak,aB,aC,aD,R,at0,at1,at2,g0,g1,g2,g3,dFa c1,dTr c2,K1]
  ·simp only [EV,reduceIte,aq,aA,aj,ak,aB,aC,aD,R,at0,at1,at2,g0,g1,g2,g3,dFa c1,dFa c2,K3]
end K53
namespace K53
open PySem PySem.Spec PyProof.Rows L2 My D3
noncomputable def top (i:Nat):Stmt:=PySem.Challenge.pw_nightbook_k53_whole_best_by_its_paper.main.body.getD i (.Pass ⟨0,0,0,0⟩)
section
seal PE PT PW PA PS PSs PG PGs PI PO PTs
variable {P:Program} {w:World} {K:PySem.W.Frag} {mg:Str→Option Value} {base:Heap} {n:Nat}
theorem zX (D:Dg K mg "is_whole" (top 4) ["thing"]) (B:Bl mg):Has P w K mg base (n + 1) "is_whole" ["thing"] (spD K iw):=by
 have sc:FnScope ["thing"] ["thing"] (bA (top 4)):=fsc
 exact eV (fl:=[.A]) D sc (by decide) (by decide) fun f cdv A outer s H E hr=>aX (bO (bU (k_ (aW (mH (T := "int") (by decide) (vP 0) (by rfl) B.isinstance_ (by rfl) B.int_ PyProof.Rows.boot_int)) (oE (GC (aW (mH (T := "bool") (by decide) (vP 0) (by rfl) B.isinstance_ (by rfl) B.bool_ PyProof.Rows.boot_bool)))))))
theorem yx (D:Dg K mg "all_whole" (top 5) ["things"]) (B:Bl mg) (his_whole:Has P w K mg base n "is_whole" ["thing"] (spD K iw)):Has P w K mg base (n + 1) "all_whole" ["things"] (spD K ig):=by
 have sc:FnScope ["things"] ["things"] (bA (top 5)):=fsc
 exact eV (fl:=[.A]) D sc (by decide) (by decide) fun f cdv A outer s H E hr=>aX (bO (bU (cX (lQ rfl) sZ (by rfl) B.all_ (show bootBuiltins "all" = some (.builtin "all") by decide +kernel) (dq (aW (eU (L:=[]) (fl':=[.A]) rfl ["thing"] [] [] (N5 (vB 0)) (fun _ _ _ _ _=>gN' (i:=0) (show (["thing"]:List Str).Nodup by decide +kernel)) (fun _ _ _ _ _=>f9) (fun _ _ _ _ _=>bF his_whole hr (dq (vP 0) dz)))) dz))))
theorem vm (D:Dg K mg "is_tuple_of" (top 6) ["thing", "many"]) (B:Bl mg) (hall_whole:Has P w K mg base n "all_whole" ["things"] (spD K ig)):Has P w K mg base (n + 1) "is_tuple_of" ["thing", "many"] (spD K jN):=by
 have sc:FnScope ["thing", "many"] ["thing", "many"] (bA (top 6)):=fsc
 exact eV (fl:=[.A,.A]) D sc (by decide) (by decide) fun f cdv A outer s H E hr=>aX (bO (sV (k_ (aW (mH (T := "tuple") (by decide) (vP 0) (by rfl) B.isinstance_ (by rfl) B.tuple_ PyProof.Rows.boot_tuple)) (k_ (aW (nC (lD hr.units) tK (aW (cX bR iM (by rfl) B.len_ PySem.boot_len (dq (vP 0) dz))) (vP 1) (cJ _))) (oE (bF hall_whole hr (dq (vP 0) dz)))))))
theorem BL (D:Dg K mg "is_pair" (top 7) ["thing"]) (B:Bl mg) (his_tuple_of:Has P w K mg base n "is_tuple_of" ["thing", "many"] (spD K jN)):Has P w K mg base (n + 1) "is_pair" ["thing"] (spD K nU):=by
 have sc:FnScope ["thing"] ["thing"] (bA (top 7)):=fsc
 exact eV (fl:=[.A]) D sc (by decide) (by decide) fun f cdv A outer s H E hr=>aX (bO (sV (bF his_tuple_of hr (dq (vP 0) (dq iP dz)))))
theorem sH (D:Dg K mg "is_whole_list" (top 8) ["thing"]) (B:Bl mg) (hall_whole:Has P w K mg base n "all_whole" ["things"] (spD K ig)):Has P w K mg base (n + 1) "is_whole_list" ["thing"] (spD K jl):=by
 have sc:FnScope ["thing"] ["thing"] (bA (top 8)):=fsc
 exact eV (fl:=[.A]) D sc (by decide) (by decide) fun f cdv A outer s H E hr=>aX (bO (sV (k_ (aW (mH (T := "list") (by decide) (vP 0) (by rfl) B.isinstance_ (by rfl) B.list_ PyProof.Rows.boot_list)) (oE (bF hall_whole hr (dq (vP 0) dz))))))
theorem yC (D:Dg K mg "is_rising" (top 9) ["numbers"]) (B:Bl mg):Has P w K mg base (n + 1) "is_rising" ["numbers"] (spD K fL):=by
 have sc:FnScope ["numbers"] ["numbers"] (bA (top 9)):=fsc
 exact eV (fl:=[.A]) D sc (by decide) (by decide) fun f cdv A outer s H E hr=>aX (bO (bU (cX (lQ rfl) sZ (by rfl) B.all_ (show bootBuiltins "all" = some (.builtin "all") by decide +kernel) (dq (aW (eU (L:=[]) (fl':=[.A,.A]) rfl ["one", "other"] [] [] (Nv (L1:=[]) (L2:=[]) (vB 0) (jE (pR (Lq (vB 0) (Cy iP) Cv))) (by rfl) B.zip_) (fun _ _ _ _ _=>j_ rfl (cP (gN' (i:=0) (show (["one", "other"]:List Str).Nodup by decide +kernel)) (cP (gN' (i:=1) (show (["one", "other"]:List Str).Nodup by decide +kernel)) (jx)))) (fun _ _ _ _ _=>f9) (fun _ _ _ _ _=>cW (nC lq b_lt (vP 0) (vP 1) (cJ _))))) dz))))
theorem yD (D:Dg K mg "nights_of" (top 11) ["stay"]) (B:Bl mg):Has P w K mg base (n + 1) "nights_of" ["stay"] (spD K iT):=by
 have sc:FnScope ["stay"] ["stay"] (bA (top 11)):=fsc
 exact eV (fl:=[.A]) D sc (by decide) (by decide) fun f cdv A outer s H E hr=>aX (bO (nD rfl (dq (bU (fY (bL (dx (vB 0) iP)))) (dq (bU (fY (bL (dx (vB 0) iP)))) dz))))
theorem IK (D:Dg K mg "holds" (top 12) ["stretch", "night"]) (B:Bl mg):Has P w K mg base (n + 1) "holds" ["stretch", "night"] (spD K mX):=by
 have sc:FnScope ["stretch", "night"] ["stretch", "night"] (bA (top 12)):=fsc
 exact eV (fl:=[.A,.A]) D sc (by decide) (by decide) fun f cdv A outer s H E hr=>aX (bO (bU (qQ lZ lq p8 b_lt (bL (dx (vB 0) iP)) (vP 1) (bL (dx (vB 0) iP)))))
theorem zY (D:Dg K mg "count_at" (top 13) ["stretches", "night"]) (B:Bl mg) (hholds:Has P w K mg base n "holds" ["stretch", "night"] (spD K mX)):Has P w K mg base (n + 1) "count_at" ["stretches", "night"] (spD K jT):=by
 have sc:FnScope ["stretches", "night"] ["stretches", "night"] (bA (top 13)):=fsc
 exact eV (fl:=[.A,.A]) D sc (by decide) (by decide) fun f cdv A outer s H E hr=>aX (bO (bU (cX bR iM (by rfl) B.len_ PySem.boot_len (dq (aW (eU (L:=[]) (fl':=[.A,.A]) rfl ["stretch"] ["night"] [1] (g8 (vB 0)) (fun _ _ _ _ _=>gN' (i:=0) (show (["stretch", "night"]:List Str).Nodup by decide +kernel)) (fun _ _ _ _ _=>mL (jr (eO (bF hholds hr (dq (vP 0) (dq (vP 1) dz)))))) (fun _ _ _ _ _=>cW (fY (vP 0))))) dz))))
theorem vo (D:Dg K mg "is_wish_for" (top 16) ["wish", "free"]) (B:Bl mg) (gMOST_WORTH:∃ t,mg "MOST_WORTH" = some (.int 1000000000 t)):Has P w K mg base (n + 1) "is_wish_for" ["wish", "free"] (spD K gh):=by
 have sc:FnScope ["wish", "free"] ["wish", "free"] (bA (top 16)):=fsc
 exact eV (fl:=[.A,.A]) D sc (by decide) (by decide) fun f cdv A outer s H E hr=>aX (bO (bU (k_ (aW (Ed lZ lq lZ p8 b_lt p8 iP (bL (dx (vB 0) iP)) (bL (dx (vB 0) iP)) (aW (cX bR iM (by rfl) B.len_ PySem.boot_len (dq (vP 1) dz))))) (oE (qQ lZ lZ p8 p8 iP (bL (dx (vB 0) iP)) (aW (Jw gMOST_WORTH)))))))
theorem tM (D:Dg K mg "check_wishes" (top 17) ["wishes", "free"]) (B:Bl mg) (his_wish_for:Has P w K mg base n "is_wish_for" ["wish", "free"] (spD K gh)):Has P w K mg base (n + 1) "check_wishes" ["wishes", "free"] (spD K cY):=by
 have sc:FnScope ["wishes", "free", "at", "wish"] ["wishes", "free"] (bA (top 17)):=fsc
 exact eV (fl:=[.A,.A,.A,.A]) D sc (by decide) (by decide) fun f cdv A outer s H E hr=>aX (mF (L:=[]) PassesOwn.never rfl (q_ (vB 0) (by rfl) B.enumerate_) (j_ rfl (cP (gN' (i:=2) sc.nd) (cP (gN' (i:=3) sc.nd) (jx)))) (aX (gB (jt (jr (eO (bF his_wish_for hr (dq (vP 3) (dq (vP 1) dz)))))) (aX (GK)) (dh))))
theorem La (D:Dg K mg "cost" (top 18) ["prices", "first", "behind"]) (B:Bl mg):Has P w K mg base (n + 1) "cost" ["prices", "first", "behind"] (spD K qd):=by
 have sc:FnScope ["prices", "first", "behind"] ["prices", "first", "behind"] (bA (top 18)):=fsc
 exact eV (fl:=[.A,.A,.A]) D sc (by decide) (by decide) fun f cdv A outer s H E hr=>aX (bO (bU (cX (lO rfl) sY (by rfl) B.sum_ PyProof.Rows.boot_sum (dq (aW (eU (L:=[]) (fl':=[.A,.A,.A,.A]) rfl ["night", "price"] ["first", "behind"] [1,2] (g8 (vB 0)) (fun _ _ _ _ _=>j_ rfl (cP (gN' (i:=0) (show (["night", "price", "first", "behind"]:List Str).Nodup by decide +kernel)) (cP (gN' (i:=1) (show (["night", "price", "first", "behind"]:List Str).Nodup by decide +kernel)) (jx)))) (fun _ _ _ _ _=>mL (uL lZ lq p8 b_lt (vP 2) (vP 0) (vP 3))) (fun _ _ _ _ _=>cW (fY (vP 1))))) dz))))
theorem zZ (D:Dg K mg "worth_of" (top 19) ["wishes", "choice"]) (B:Bl mg):Has P w K mg base (n + 1) "worth_of" ["wishes", "choice"] (spD K dJ):=by
 have sc:FnScope ["wishes", "choice"] ["wishes", "choice"] (bA (top 19)):=fsc
 exact eV (fl:=[.A,.A]) D sc (by decide) (by decide) fun f cdv A outer s H E hr=>aX (bO (bU (cX (lO rfl) sY (by rfl) B.sum_ PyProof.Rows.boot_sum (dq (aW (eU (L:=[]) (fl':=[.A,.A]) rfl ["place"] ["wishes"] [0] (g8 (vB 1)) (fun _ _ _ _ _=>gN' (i:=0) (show (["place", "wishes"]:List Str).Nodup by decide +kernel)) (fun _ _ _ _ _=>f9) (fun _ _ _ _ _=>cW (fY (bL (dx (jE (dx (vB 1) (vP 0))) iP)))))) dz))))
theorem BP (D:Dg K mg "held_at" (top 20) ["wishes", "choice", "night"]) (B:Bl mg) (hnights_of:Has P w K mg base n "nights_of" ["stay"] (spD K iT)) (hcount_at:Has P w K mg base n "count_at" ["stretches", "night"] (spD K jT)):Has P w K mg base (n + 1) "held_at" ["wishes", "choice", "night"] (spD K fD):=by
 have sc:FnScope ["wishes", "choice", "night"] ["wishes", "choice", "night"] (bA (top 20)):=fsc
 exact eV (fl:=[.A,.A,.A]) D sc (by decide) (by decide) fun f cdv A outer s H E hr=>aX (bO (sV (bF hcount_at hr (dq (aW (eU (L:=[]) (fl':=[.A,.A]) rfl ["place"] ["wishes"] [0] (g8 (vB 1)) (fun _ _ _ _ _=>gN' (i:=0) (show (["place", "wishes"]:List Str).Nodup by decide +kernel)) (fun _ _ _ _ _=>f9) (fun _ _ _ _ _=>bF hnights_of hr (dq (bL (dx (vB 1) (vP 0))) dz)))) (dq (vP 2) dz)))))
theorem Ld (D:Dg K mg "fits" (top 21) ["wishes", "free", "choice"]) (B:Bl mg) (hheld_at:Has P w K mg base n "held_at" ["wishes", "choice", "night"] (spD K fD)):Has P w K mg base (n + 1) "fits" ["wishes", "free", "choice"] (spD K pq):=by
 have sc:FnScope ["wishes", "free", "choice"] ["wishes", "free", "choice"] (bA (top 21)):=fsc
 exact eV (fl:=[.A,.A,.A]) D sc (by decide) (by decide) fun f cdv A outer s H E hr=>aX (bO (bU (cX (lQ rfl) sZ (by rfl) B.all_ (show bootBuiltins "all" = some (.builtin "all") by decide +kernel) (dq (aW (eU (L:=[]) (fl':=[.A,.A,.A,.A]) rfl ["night", "many"] ["wishes", "choice"] [0,2] (q_ (vB 1) (by rfl) B.enumerate_) (fun _ _ _ _ _=>j_ rfl (cP (gN' (i:=0) (show (["night", "many", "wishes", "choice"]:List Str).Nodup by decide +kernel)) (cP (gN' (i:=1) (show (["night", "many", "wishes", "choice"]:List Str).Nodup by decide +kernel)) (jx)))) (fun _ _ _ _ _=>f9) (fun _ _ _ _ _=>cW (nC lZ p8 (eO (bF hheld_at hr (dq (vP 2) (dq (vP 3) (dq (vP 0) dz))))) (vP 1) (cJ _))))) dz))))
theorem sI (D:Dg K mg "is_place_list" (top 22) ["wishes", "thing"]) (B:Bl mg) (his_whole_list:Has P w K mg base n "is_whole_list" ["thing"] (spD K jl)) (his_rising:Has P w K mg base n "is_rising" ["numbers"] (spD K fL)):Has P w K mg base (n + 1) "is_place_list" ["wishes", "thing"] (spD K jm):=by
 have sc:FnScope ["wishes", "thing"] ["wishes", "thing"] (bA (top 22)):=fsc
 exact eV (fl:=[.A,.A]) D sc (by decide) (by decide) fun f cdv A outer s H E hr=>aX (bO (bU (k_ (eO (bF his_whole_list hr (dq (vP 1) dz))) (k_ (eO (bF his_rising hr (dq (vP 1) dz))) (oE (cX (lQ rfl) sZ (by rfl) B.all_ (show bootBuiltins "all" = some (.builtin "all") by decide +kernel) (dq (aW (eU (L:=[]) (fl':=[.A,.A]) rfl ["place"] ["wishes"] [0] (g8 (vB 1)) (fun _ _ _ _ _=>gN' (i:=0) (show (["place", "wishes"]:List Str).Nodup by decide +kernel)) (fun _ _ _ _ _=>f9) (fun _ _ _ _ _=>cW (qQ lZ lq p8 b_lt iP (vP 0) (aW (cX bR iM (by rfl) B.len_ PySem.boot_len (dq (vP 1) dz))))))) dz)))))))
theorem yE (D:Dg K mg "is_choice" (top 23) ["wishes", "free", "thing"]) (B:Bl mg) (hcheck_wishes:Has P w K mg base n "check_wishes" ["wishes", "free"] (spD K cY)) (hfits:Has P w K mg base n "fits" ["wishes", "free", "choice"] (spD K pq)) (his_place_list:Has P w K mg base n "is_place_list" ["wishes", "thing"] (spD K jm)):Has P w K mg base (n + 1) "is_choice" ["wishes", "free", "thing"] (spD K fj):=by
 have sc:FnScope ["wishes", "free", "thing"] ["wishes", "free", "thing"] (bA (top 23)):=fsc
 exact eV (fl:=[.A,.A,.A]) D sc (by decide) (by decide) fun f cdv A outer s H E hr=>aV (xM (eO (bF hcheck_wishes hr (dq (vP 0) (dq (vP 1) dz)))))
  (aX (bO (sV (k_ (eO (bF his_place_list hr (dq (vP 0) (dq (vP 2) dz)))) (oE (bF hfits hr (dq (vP 0) (dq (vP 1) (dq (vP 2) dz)))))))))
theorem z9 (D:Dg K mg "is_price" (top 24) ["free", "thing"]) (B:Bl mg) (his_pair:Has P w K mg base n "is_pair" ["thing"] (spD K nU)):Has P w K mg base (n + 1) "is_price" ["free", "thing"] (spD K jU):=by
 have sc:FnScope ["free", "thing"] ["free", "thing"] (bA (top 24)):=fsc
 exact eV (fl:=[.A,.A]) D sc (by decide) (by decide) fun f cdv A outer s H E hr=>aX (bO (bU (k_ (eO (bF his_pair hr (dq (vP 1) dz))) (k_ (aW (qQ lZ lq p8 b_lt iP (bL (dx (vB 1) iP)) (aW (cX bR iM (by rfl) B.len_ PySem.boot_len (dq (vP 0) dz))))) (oE (nC FQ Nj (bL (dx (vB 1) iP)) iP (cJ _)))))))
theorem sJ (D:Dg K mg "is_price_list" (top 25) ["free", "thing"]) (B:Bl mg) (his_rising:Has P w K mg base n "is_rising" ["numbers"] (spD K fL)) (his_price:Has P w K mg base n "is_price" ["free", "thing"] (spD K jU)):Has P w K mg base (n + 1) "is_price_list" ["free", "thing"] (spD K fV):=by
 have sc:FnScope ["free", "thing"] ["free", "thing"] (bA (top 25)):=fsc
 exact eV (fl:=[.A,.A]) D sc (by decide) (by decide) fun f cdv A outer s H E hr=>aV (gB (lE (kJ (jt (jr (aW (mH (T := "list") (by decide) (vP 1) (by rfl) B.isinstance_ (by rfl) B.list_ PyProof.Rows.boot_list)))) (kj (jt (jr (aW (cX (lQ rfl) sZ (by rfl) B.all_ (show bootBuiltins "all" = some (.builtin "all") by decide +kernel) (dq (aW (eU (L:=[]) (fl':=[.A,.A]) rfl ["price"] ["free"] [0] (g8 (vB 1)) (fun _ _ _ _ _=>gN' (i:=0) (show (["price", "free"]:List Str).Nodup by decide +kernel)) (fun _ _ _ _ _=>f9) (fun _ _ _ _ _=>bF his_price hr (dq (vP 1) (dq (vP 0) dz))))) dz)))))))) (aX (bO (bU (jF)))) (dh))
  (aX (bO (sV (bF his_rising hr (dq (aW (eU (L:=[]) (fl':=[.A,.A]) rfl ["night", "price"] [] [] (g8 (vB 1)) (fun _ _ _ _ _=>j_ rfl (cP (gN' (i:=0) (show (["night", "price"]:List Str).Nodup by decide +kernel)) (cP (gN' (i:=1) (show (["night", "price"]:List Str).Nodup by decide +kernel)) (jx)))) (fun _ _ _ _ _=>f9) (fun _ _ _ _ _=>cW (fY (vP 0))))) dz)))))
theorem Le (D:Dg K mg "gain" (top 26) ["wish", "prices"]) (B:Bl mg) (hcost:Has P w K mg base n "cost" ["prices", "first", "behind"] (spD K qd)):Has P w K mg base (n + 1) "gain" ["wish", "prices"] (spD K jH):=by
 have sc:FnScope ["wish", "prices"] ["wish", "prices"] (bA (top 26)):=fsc
 exact eV (fl:=[.A,.A]) D sc (by decide) (by decide) fun f cdv A outer s H E hr=>aX (bO (bU (bV pY uI (bL (dx (vB 0) iP)) (eO (bF hcost hr (dq (vP 1) (dq (bL (dx (vB 0) iP)) (dq (bL (dx (vB 0) iP)) dz))))))))
theorem z_ (D:Dg K mg "sold_out" (top 27) ["wishes", "free", "choice", "prices"]) (B:Bl mg) (hheld_at:Has P w K mg base n "held_at" ["wishes", "choice", "night"] (spD K fD)):Has P w K mg base (n + 1) "sold_out" ["wishes", "free", "choice", "prices"] (spD K jB):=by
 have sc:FnScope ["wishes", "free", "choice", "prices"] ["wishes", "free", "choice", "prices"] (bA (top 27)):=fsc
 exact eV (fl:=[.A,.A,.A,.A]) D sc (by decide) (by decide) fun f cdv A outer s H E hr=>aX (bO (bU (cX (lQ rfl) sZ (by rfl) B.all_ (show bootBuiltins "all" = some (.builtin "all") by decide +kernel) (dq (aW (eU (L:=[]) (fl':=[.A,.A,.A,.A,.A]) rfl ["night", "price"] ["wishes", "choice", "free"] [0,2,1] (g8 (vB 3)) (fun _ _ _ _ _=>j_ rfl (cP (gN' (i:=0) (show (["night", "price", "wishes", "choice", "free"]:List Str).Nodup by decide +kernel)) (cP (gN' (i:=1) (show (["night", "price", "wishes", "choice", "free"]:List Str).Nodup by decide +kernel)) (jx)))) (fun _ _ _ _ _=>f9) (fun _ _ _ _ _=>cW (nC (lD hr.units) tK (eO (bF hheld_at hr (dq (vP 2) (dq (vP 3) (dq (vP 0) dz))))) (bL (dx (vB 4) (vP 0))) (cJ _))))) dz))))
theorem BR (D:Dg K mg "is_best" (top 28) ["wishes", "free", "choice", "prices"]) (B:Bl mg) (his_choice:Has P w K mg base n "is_choice" ["wishes", "free", "thing"] (spD K fj)) (his_price_list:Has P w K mg base n "is_price_list" ["free", "thing"] (spD K fV)) (hgain:Has P w K mg base n "gain" ["wish", "prices"] (spD K jH)) (hsold_out:Has P w K mg base n "sold_out" ["wishes", "free", "choice", "prices"] (spD K jB)):Has P w K mg base (n + 1) "is_best" ["wishes", "free", "choice", "prices"] (spD K jo):=by
 have sc:FnScope ["wishes", "free", "choice", "prices", "place", "wish"] ["wishes", "free", "choice", "prices"] (bA (top 28)):=fsc
 exact eV (fl:=[.A,.A,.A,.A,.A,.A]) D sc (by decide) (by decide) fun f cdv A outer s H E hr=>aV (gB (lE (kJ (jt (jr (eO (bF his_choice hr (dq (vP 0) (dq (vP 1) (dq (vP 2) dz))))))) (kj (jt (jr (eO (bF his_price_list hr (dq (vP 1) (dq (vP 3) dz))))))))) (aX (bO (bU (jF)))) (dh))
  (aV (mF (L:=[]) PassesOwn.never rfl (q_ (vB 0) (by rfl) B.enumerate_) (j_ rfl (cP (gN' (i:=4) sc.nd) (cP (gN' (i:=5) sc.nd) (jx)))) (aV (gB (lE (mG (cO (uM hr.units) G5 (vP 4) (vP 2) (by with_unfolding_all rfl)) (kh (cO lq b_lt (eO (bF hgain hr (dq (vP 5) (dq (vP 3) dz)))) iP (cJ _))))) (aX (bO (bU (jF)))) (dh))
  (aX (gB (lE (mG (cO (v9 hr.units) CP (vP 4) (vP 2) (by with_unfolding_all rfl)) (kh (cO uo Ax (eO (bF hgain hr (dq (vP 5) (dq (vP 3) dz)))) iP (cJ _))))) (aX (bO (bU (jF)))) (dh)))))
  (aX (bO (sV (bF hsold_out hr (dq (vP 0) (dq (vP 1) (dq (vP 2) (dq (vP 3) dz)))))))))
theorem Aa (D:Dg K mg "bound_by" (top 29) ["wishes", "free", "prices"]) (B:Bl mg) (hcheck_wishes:Has P w K mg base n "check_wishes" ["wishes", "free"] (spD K cY)) (hgain:Has P w K mg base n "gain" ["wish", "prices"] (spD K jH)):Has P w K mg base (n + 1) "bound_by" ["wishes", "free", "prices"] (spD K fB):=by
 have sc:FnScope ["wishes", "free", "prices", "rooms"] ["wishes", "free", "prices"] (bA (top 29)):=fsc
 exact eV (fl:=[.A,.A,.A,.A]) D sc (by decide) (by decide) fun f cdv A outer s H E hr=>aV (xM (eO (bF hcheck_wishes hr (dq (vP 0) (dq (vP 1) dz)))))
  (aV (sA (i:=3) sc.nd (dN (cX (lO rfl) sY (by rfl) B.sum_ PyProof.Rows.boot_sum (dq (aW (eU (L:=[]) (fl':=[.A,.A,.A]) rfl ["night", "price"] ["free"] [1] (g8 (vB 2)) (fun _ _ _ _ _=>j_ rfl (cP (gN' (i:=0) (show (["night", "price", "free"]:List Str).Nodup by decide +kernel)) (cP (gN' (i:=1) (show (["night", "price", "free"]:List Str).Nodup by decide +kernel)) (jx)))) (fun _ _ _ _ _=>f9) (fun _ _ _ _ _=>cW (bV j9 o_ (bL (dx (vB 2) (vP 0))) (vP 1))))) dz))))
  (aX (bO (bU (bV fX jw (vP 3) (aW (cX (lO rfl) sY (by rfl) B.sum_ PyProof.Rows.boot_sum (dq (aW (eU (L:=[]) (fl':=[.A,.A]) rfl ["wish"] ["prices"] [2] (g8 (vB 0)) (fun _ _ _ _ _=>gN' (i:=0) (show (["wish", "prices"]:List Str).Nodup by decide +kernel)) (fun _ _ _ _ _=>f9) (fun _ _ _ _ _=>cW (cX (DK rfl) Np (by rfl) B.max_ PyProof.Rows.boot_max (dq iP (dq (eO (bF hgain hr (dq (vP 0) (dq (vP 1) dz)))) dz)))))) dz))))))))
theorem tO (D:Dg K mg "ways_of_wish" (top 31) ["wish", "place", "choice"]) (B:Bl mg):Has P w K mg base (n + 1) "ways_of_wish" ["wish", "place", "choice"] (spD K fM):=by
 have sc:FnScope ["wish", "place", "choice"] ["wish", "place", "choice"] (bA (top 31)):=fsc
 exact eV (fl:=[.A,.A,.A]) D sc (by decide) (by decide) fun f cdv A outer s H E hr=>aV (gB (cO (uM hr.units) G5 (vP 1) (vP 2) (by with_unfolding_all rfl)) (aX (bO (nD rfl (dq (bU (fY (bL (dx (vB 0) iP)))) (dq (bU (fY (bL (dx (vB 0) iP)))) (dq (bU (fY (bL (dx (vB 0) iP)))) (dq (bU (fY (vP 1))) dz))))))) (dh))
  (aX (bO (nD rfl (dq (bU (fY (bL (dx (vB 0) iP)))) (dq (bU (fY (bL (dx (vB 0) iP)))) (dq (bU (Nt (bL (dx (vB 0) iP)))) (dq (bU (fY (vP 1))) dz)))))))
theorem Ab (D:Dg K mg "all_ways" (top 32) ["wishes", "free", "choice"]) (B:Bl mg) (hheld_at:Has P w K mg base n "held_at" ["wishes", "choice", "night"] (spD K fD)) (hways_of_wish:Has P w K mg base n "ways_of_wish" ["wish", "place", "choice"] (spD K fM)):Has P w K mg base (n + 1) "all_ways" ["wishes", "free", "choice"] (spD K iY):=by
 have sc:FnScope ["wishes", "free", "choice", "onward", "left", "back"] ["wishes", "free", "choice"] (bA (top 32)):=fsc
 exact eV (fl:=[.A,.A,.A,.A,.A,.A]) D sc (by decide) (by decide) fun f cdv A outer s H E hr=>aV (qW (i:=3) (L:=[]) (fl':=[.A]) rfl sc.nd rfl rfl rfl ["night"] [] [] (gj (by rfl) B.range_ (nO (dq (aW (cX bR iM (by rfl) B.len_ PySem.boot_len (dq (vP 1) dz))) dz))) (fun _ _ _ _ _=>gN' (i:=0) (show (["night"]:List Str).Nodup by decide +kernel)) (fun _ _ _ _ _=>f9) (fun _ _ _ _ _=>cW (fY (bL (nD rfl (dq (vA 0) (dq (dN (bV fX jw (vP 0) iP)) (dq (dN (mD)) (dq (dN (xK)) dz)))))))))
  (aV (qW (i:=4) (L:=[]) (fl':=[.A,.A,.A,.A]) rfl sc.nd rfl rfl rfl ["night", "many"] ["wishes", "choice"] [0,2] (q_ (vB 1) (by rfl) B.enumerate_) (fun _ _ _ _ _=>j_ rfl (cP (gN' (i:=0) (show (["night", "many", "wishes", "choice"]:List Str).Nodup by decide +kernel)) (cP (gN' (i:=1) (show (["night", "many", "wishes", "choice"]:List Str).Nodup by decide +kernel)) (jx)))) (fun _ _ _ _ _=>mL (cO lq b_lt (eO (bF hheld_at hr (dq (vP 2) (dq (vP 3) (dq (vP 0) dz))))) (vP 1) (cJ _))) (fun _ _ _ _ _=>cW (fY (vP 0))))
  (aV (qW (i:=5) (L:=[]) (fl':=[.A]) rfl sc.nd rfl rfl rfl ["night"] [] [] (N7 (vB 4) (by rfl) B.reversed_) (fun _ _ _ _ _=>gN' (i:=0) (show (["night"]:List Str).Nodup by decide +kernel)) (fun _ _ _ _ _=>f9) (fun _ _ _ _ _=>cW (fY (bL (nD rfl (dq (dN (bV fX jw (vP 0) iP)) (dq (vA 0) (dq (dN (mD)) (dq (dN (xK)) dz)))))))))
  (aX (bO (bU (uH (uK (jE (pR (uK (vB 3) (vB 5)))) (jE (dN (eU (L:=[]) (fl':=[.A,.A,.A]) rfl ["place", "wish"] ["choice"] [2] (q_ (vB 0) (by rfl) B.enumerate_) (fun _ _ _ _ _=>j_ rfl (cP (gN' (i:=0) (show (["place", "wish", "choice"]:List Str).Nodup by decide +kernel)) (cP (gN' (i:=1) (show (["place", "wish", "choice"]:List Str).Nodup by decide +kernel)) (jx)))) (fun _ _ _ _ _=>f9) (fun _ _ _ _ _=>bF hways_of_wish hr (dq (vP 1) (dq (vP 0) (dq (vP 2) dz))))))))))))))
theorem Ac (D:Dg K mg "cheapest" (top 33) ["costs", "ways"]) (B:Bl mg):Has P w K mg base (n + 1) "cheapest" ["costs", "ways"] (spD K iZ):=by
 have sc:FnScope ["costs", "ways", "least", "came", "better", "way", "since", "known"] ["costs", "ways"] (bA (top 33)):=fsc
 exact eV (fl:=[.A,.A,.O,.O,.A,.A,.A,.A]) D sc (by decide) (by decide) fun f cdv A outer s H E hr=>aV (pH (i:=2) rfl sc.nd rfl (by first | exact Or.inl rfl | exact Or.inr rfl) (qY (vB 0) (by rfl) B.list_))
  (aV (pH (i:=3) rfl sc.nd rfl (by first | exact Or.inl rfl | exact Or.inr rfl) (rR (nA (fZ (dq (cW (xK)) dz))) (aW (cX bR iM (by rfl) B.len_ PySem.boot_len (dq (vP 0) dz)))))
  (aV (sA (i:=4) sc.nd (dN (jF)))
  (aV (zf PassesOwn.never (jr (vP 4)) (aV (sA (i:=4) sc.nd (dN (jF)))
  (aX (mF (L:=[]) PassesOwn.never rfl (g8 (vB 1)) (gN' (i:=5) sc.nd) (aV (sA (i:=6) sc.nd (dx (j8 2) (bL (dx (vB 5) iP))))
  (aV (sA (i:=7) sc.nd (dx (j8 2) (bL (dx (vB 5) iP))))
  (aX (gB (lE (mG (CG (vP 6)) (kh (lE (kJ (GR (vP 7)) (kj (cO lq b_lt (aW (bV fX jw (vP 6) (bL (dx (vB 5) iP)))) (vP 7) (cJ _)))))))) (aV (Ay (i:=2) rfl (dN (bV fX jw (vP 6) (bL (dx (vB 5) iP)))) (bL (dx (vB 5) iP)) rfl)
  (aV (Ay (i:=3) rfl (vA 5) (bL (dx (vB 5) iP)) rfl)
  (aX (sA (i:=4) sc.nd (dN (jF)))))) (dh)))))))))
  (aX (bO (nD rfl (dq (tW 2 (by decide)) (dq (tW 3 (by decide)) dz))))))))
theorem pD (D:Dg K mg "places_on_the_way" (top 34) ["came", "start", "goal"]) (B:Bl mg):Has P w K mg base (n + 1) "places_on_the_way" ["came", "start", "goal"] (spD K dU):=by
 have sc:FnScope ["came", "start", "goal", "places", "post", "way"] ["came", "start", "goal"] (bA (top 34)):=fsc
 exact eV (fl:=[.A,.A,.A,.O,.A,.A]) D sc (by decide) (by decide) fun f cdv A outer s H E hr=>aV (pH (i:=3) rfl sc.nd rfl (by first | exact Or.inl rfl | exact Or.inr rfl) (nA (fZ dz)))
  (aV (sA (i:=4) sc.nd (vA 2))
  (aV (zf PassesOwn.never (cO (m_ hr.units) vG (vP 4) (vP 1) (cJ _)) (aV (sA (i:=5) sc.nd (dx (vB 0) (vP 4)))
  (aV (gB (CG (bL (dx (vB 5) iP))) (aX (pI (i:=3) rfl (dx (vB 5) iP) rfl)) (dh))
  (aX (sA (i:=4) sc.nd (dx (vB 5) iP))))))
  (aX (bO (tW 3 (by decide))))))
theorem sO (D:Dg K mg "with_one_more" (top 35) ["wishes", "free", "choice", "place"]) (B:Bl mg) (hall_ways:Has P w K mg base n "all_ways" ["wishes", "free", "choice"] (spD K iY)) (hcheapest:Has P w K mg base n "cheapest" ["costs", "ways"] (spD K iZ)) (hplaces_on_the_way:Has P w K mg base n "places_on_the_way" ["came", "start", "goal"] (spD K dU)):Has P w K mg base (n + 1) "with_one_more" ["wishes", "free", "choice", "place"] (XH.spH K 2 gJ):=by
 have sc:FnScope ["wishes", "free", "choice", "place", "wish", "costs", "found", "back", "changed"] ["wishes", "free", "choice", "place"] (bA (top 35)):=fsc
 exact XH.Oe (j:=2) (fl:=[.A,.A,.L,.A,.A,.O,.A,.A,.A]) D sc (by decide) rfl (by decide) (XO.nF (XO.rC (XO.jP)) (XO.nF (XO.rC (XO.jP)) (XO.nF (XO.rC (XO.G7)) (XO.nF (XO.rC (XO.jP)) (XO.nF (XO.rC (XO.jP)) (XO.nF (XO.Q8 (XH.CW) (XO.Oa)) (XO.nF (XO.rC (XO.jP)) (XH.CW)))))))) (XH.nG (XH.nG (XH.nG (XH.nG (XH.nG (XH.nG (XH.nG (XH.J2)))))))) fun f cdv A outer s H E hr=>XH.jM (XH.rD (sA (i:=4) sc.nd (dx (vB 0) (vP 3))) (XO.jP))
  (XH.jM (XH.rD (pH (i:=5) rfl sc.nd rfl (by first | exact Or.inl rfl | exact Or.inr rfl) (rR (nA (fZ (dq (cW (xK)) dz))) (aW (bV fX jw (aW (cX bR iM (by rfl) B.len_ PySem.boot_len (dq (vP 1) dz))) iP)))) (XO.jP))
  (XH.jM (XH.rD (Ay (i:=5) rfl (dN (mD)) (bL (dx (vB 4) iP)) rfl) (XO.G7))
  (XH.jM (XH.rD (sA (i:=6) sc.nd (o9 (bF hcheapest hr (dq (oM (j8 5)) (dq (eO (bF hall_ways hr (dq (yX (Lq (vB 0) Cv (Cy (vP 3)))) (dq (vP 1) (dq (oM (j8 2)) dz))))) dz))))) (XO.jP))
  (XH.jM (XH.rD (sA (i:=7) sc.nd (dx (jE (dx (vB 6) iP)) (bL (dx (vB 4) iP)))) (XO.jP))
  (XH.jM (XH.Q_ (lE (kJ (GR (vP 7)) (kj (cO FQ Nj (vP 7) (bL (dx (vB 4) iP)) (cJ _))))) (XH.xT (XH.JW rfl rfl)) (XH.JV))
  (XH.jM (XH.rD (sA (i:=8) sc.nd (pR (uK (jE (o9 (bF hplaces_on_the_way hr (dq (bL (dx (vB 6) iP)) (dq (bL (dx (vB 4) iP)) (dq (bL (dx (vB 4) iP)) dz)))))) (jE (pR (xP (dq (vA 3) dz))))))) (XO.jP))
  (XH.xT (XH.Od (eU (L:=[]) (fl':=[.A,.A,.A]) rfl ["one"] ["choice", "changed"] [2,8] (gj (by rfl) B.range_ (nO (dq (aW (bV fX jw (vP 3) iP)) dz))) (fun _ _ _ _ _=>gN' (i:=0) (show (["one", "choice", "changed"]:List Str).Nodup by decide +kernel)) (fun _ _ _ _ _=>mL (cO (m_ hr.units) vG (aW (nC (uM hr.units) G5 (vP 0) (vP 1) (by with_unfolding_all rfl))) (aW (nC (uM hr.units) G5 (vP 0) (vP 2) (by with_unfolding_all rfl))) (cJ _))) (fun _ _ _ _ _=>cW (fY (vP 0))))))))))))
theorem yF (D:Dg K mg "prices_of" (top 36) ["wishes", "free", "choice"]) (B:Bl mg) (hall_ways:Has P w K mg base n "all_ways" ["wishes", "free", "choice"] (spD K iY)) (hcheapest:Has P w K mg base n "cheapest" ["costs", "ways"] (spD K iZ)):Has P w K mg base (n + 1) "prices_of" ["wishes", "free", "choice"] (spD K h_):=by
 have sc:FnScope ["wishes", "free", "choice", "costs", "falls"] ["wishes", "free", "choice"] (bA (top 36)):=fsc
 exact eV (fl:=[.A,.A,.A,.A,.A]) D sc (by decide) (by decide) fun f cdv A outer s H E hr=>aV (sA (i:=3) sc.nd (dx (jE (o9 (bF hcheapest hr (dq (yX (rR (nA (fZ (dq iC dz))) (aW (bV fX jw (aW (cX bR iM (by rfl) B.len_ PySem.boot_len (dq (vP 1) dz))) iP)))) (dq (eO (bF hall_ways hr (dq (vP 0) (dq (vP 1) (dq (vP 2) dz))))) dz))))) iP))
  (aV (qW (i:=4) (L:=[]) (fl':=[.A,.A]) rfl sc.nd rfl rfl rfl ["night"] ["costs"] [3] (gj (by rfl) B.range_ (nO (dq (aW (cX bR iM (by rfl) B.len_ PySem.boot_len (dq (vP 1) dz))) dz))) (fun _ _ _ _ _=>gN' (i:=0) (show (["night", "costs"]:List Str).Nodup by decide +kernel)) (fun _ _ _ _ _=>f9) (fun _ _ _ _ _=>cW (fY (bL (nD rfl (dq (vA 0) (dq (dN (bV pY uI (bL (dx (vB 1) (vP 0))) (bL (dx (vB 1) (aW (bV fX jw (vP 0) iP)))))) dz)))))))
  (aX (bO (bU (eU (L:=[]) (fl':=[.A,.A]) rfl ["night", "price"] [] [] (g8 (vB 4)) (fun _ _ _ _ _=>j_ rfl (cP (gN' (i:=0) (show (["night", "price"]:List Str).Nodup by decide +kernel)) (cP (gN' (i:=1) (show (["night", "price"]:List Str).Nodup by decide +kernel)) (jx)))) (fun _ _ _ _ _=>mL (cO uo Ax (vP 1) iP (cJ _))) (fun _ _ _ _ _=>cW (fY (bL (nD rfl (dq (vA 0) (dq (vA 1) dz)))))))))))
theorem Lf (D:Dg K mg "best" (top 37) ["wishes", "free"]) (B:Bl mg) (hcheck_wishes:Has P w K mg base n "check_wishes" ["wishes", "free"] (spD K cY)) (hworth_of:Has P w K mg base n "worth_of" ["wishes", "choice"] (spD K dJ)) (hwith_one_more:Has P w K mg base n "with_one_more" ["wishes", "free", "choice", "place"] (XH.spH K 2 gJ)) (hprices_of:Has P w K mg base n "prices_of" ["wishes", "free", "choice"] (spD K h_)):Has P w K mg base (n + 1) "best" ["wishes", "free"] (XH.spT K gD):=by
 have sc:FnScope ["wishes", "free", "choice", "place"] ["wishes", "free"] (bA (top 37)):=fsc
 exact XH.J1 (fl:=[.A,.A,.O,.A]) D sc (by decide) (by decide) (XO.nF (XO.rC (XO.CQ)) (XO.nF (XO.rC (XO.jP)) (XO.nF (XO.rC (XO.G8 XH.CT)) (XH.J4)))) (XH.nG (XH.nG (XH.nG (XH.J3)))) fun f cdv A outer s H E hr=>XH.jM (XH.rD (xM (eO (bF hcheck_wishes hr (dq (vP 0) (dq (vP 1) dz))))) (XO.CQ))
  (XH.jM (XH.rD (pH (i:=2) rfl sc.nd rfl (by first | exact Or.inl rfl | exact Or.inr rfl) (nA (fZ dz))) (XO.jP))
  (XH.jM (XH.rD (mF (L:=[]) PassesOwn.never rfl (gj (by rfl) B.range_ (nO (dq (aW (cX bR iM (by rfl) B.len_ PySem.boot_len (dq (vP 0) dz))) dz))) (gN' (i:=3) sc.nd) (aX (XH.JX (i:=2) rfl sc.nd rfl (by first | exact Or.inl rfl | exact Or.inr rfl) hwith_one_more hr (vA 0) (vA 1) (vA 3)))) (XO.G8 XH.CT))
  (XH.xT (XH.J0 (i:=2) rfl (eO (bF hworth_of hr (dq (vP 0) (dq (oM (j8 2)) dz)))) rfl (bF hprices_of hr (dq (vP 0) (dq (vP 1) (dq (oM (j8 2)) dz))))))))
theorem yG (D:Dg K mg "_law_cell" (top 39) ["_law_script", "_law_at"]) (B:Bl mg):Has P w K mg base (n + 1) "_law_cell" ["_law_script", "_law_at"] (spD K iQ):=by
 have sc:FnScope ["_law_script", "_law_at"] ["_law_script", "_law_at"] (bA (top 39)):=fsc
 exact eV (fl:=[.A,.A]) D sc (by decide) (by decide) fun f cdv A outer s H E hr=>aV (gB (cO lq b_lt (vP 1) (aW (cX bR iM (by rfl) B.len_ PySem.boot_len (dq (vP 0) dz))) (cJ _)) (aX (bO (bU (bV dD gZ (bL (dx (vB 0) (vP 1))) iP)))) (dh))
  (aV (gB (cO (lD hr.units) tK (vP 0) (aW (fZ dz)) (cJ _)) (aX (bO (bU (bV fX jw (aW (bV j9 o_ iP (vP 1))) iP)))) (dh))
  (aX (bO (bU (bV fX jw (aW (bV dD gZ (bL (dx (vB 0) (aW (bV dD gZ (aW (bV j9 o_ (vP 1) iP)) (aW (cX bR iM (by rfl) B.len_ PySem.boot_len (dq (vP 0) dz))))))) iP)) (aW (bV j9 o_ iP (vP 1))))))))
theorem yH (D:Dg K mg "_law_part" (top 40) ["_law_script", "_law_at", "_law_k", "_law_many"]) (B:Bl mg) (h_law_cell:Has P w K mg base n "_law_cell" ["_law_script", "_law_at"] (spD K iQ)):Has P w K mg base (n + 1) "_law_part" ["_law_script", "_law_at", "_law_k", "_law_many"] (spD K iR):=by
 have sc:FnScope ["_law_script", "_law_at", "_law_k", "_law_many", "_law_number", "_law_j"] ["_law_script", "_law_at", "_law_k", "_law_many"] (bA (top 40)):=fsc
 exact eV (fl:=[.A,.A,.A,.A,.A,.A]) D sc (by decide) (by decide) fun f cdv A outer s H E hr=>aV (gB (lE (mG (cO lq b_lt (vP 1) (aW (cX bR iM (by rfl) B.len_ PySem.boot_len (dq (vP 0) dz))) (cJ _)) (kh (cO FQ Nj (bL (dx (vB 0) (vP 1))) (aW (bV um zc iP iP)) (cJ _))))) (aV (sA (i:=4) sc.nd (dx (vB 0) (vP 1)))
  (aV (mF (L:=[]) PassesOwn.never rfl (gj (by rfl) B.range_ (nO (dq (vP 2) dz))) (gN' (i:=5) sc.nd) (aX (sA (i:=4) sc.nd (dN (bV Ck Ln (vP 4) iP)))))
  (aX (gB (cO uo Ax (vP 4) iP (cJ _)) (aX (bO (bU (bV dD gZ (aW (bV dD gZ (vP 4) iP)) (vP 3))))) (dh))))) (dh))
  (aV (sA (i:=4) sc.nd (dN (bV dD gZ (aW (bV j9 o_ (aW (bV fX jw (aW (bV fX jw (eO (bF h_law_cell hr (dq (vP 0) (dq (vP 1) dz)))) (aW (bV j9 o_ iP (vP 1))))) iP)) (aW (bV fX jw iP (aW (bV j9 o_ iP (vP 2))))))) iP)))
  (aV (sA (i:=4) sc.nd (dN (bV fX jw (aW (bV dD gZ (aW (bV j9 o_ (vP 4) (vP 4))) iP)) iP)))
  (aX (bO (bU (bV dD gZ (aW (bV Ck Ln (aW (bV dD gZ (aW (bV j9 o_ (vP 4) (vP 4))) iP)) iP)) (vP 3)))))))
theorem Ad (D:Dg K mg "_law_row" (top 41) ["_law_script", "_law_at", "_law_many"]) (B:Bl mg) (h_law_part:Has P w K mg base n "_law_part" ["_law_script", "_law_at", "_law_k", "_law_many"] (spD K iR)):Has P w K mg base (n + 1) "_law_row" ["_law_script", "_law_at", "_law_many"] (spD K dI):=by
 have sc:FnScope ["_law_script", "_law_at", "_law_many"] ["_law_script", "_law_at", "_law_many"] (bA (top 41)):=fsc
 exact eV (fl:=[.A,.A,.A]) D sc (by decide) (by decide) fun f cdv A outer s H E hr=>aX (bO (bU (eU (L:=[]) (fl':=[.A,.A,.A]) rfl ["_law_k"] ["_law_script", "_law_at"] [0,1] (gj (by rfl) B.range_ (nO (dq (vP 2) dz))) (fun _ _ _ _ _=>gN' (i:=0) (show (["_law_k", "_law_script", "_law_at"]:List Str).Nodup by decide +kernel)) (fun _ _ _ _ _=>f9) (fun _ _ _ _ _=>bF h_law_part hr (dq (vP 1) (dq (vP 2) (dq (vP 0) (dq (aW (bV um zc iP iP)) dz))))))))
theorem vK (D:Dg K mg "_law_whole" (top 42) ["_law_thing"]) (B:Bl mg):Has P w K mg base (n + 1) "_law_whole" ["_law_thing"] (spD K cM):=by
 have sc:FnScope ["_law_thing"] ["_law_thing"] (bA (top 42)):=fsc
 exact eV (fl:=[.A]) D sc (by decide) (by decide) fun f cdv A outer s H E hr=>aX (bO (bU (k_ (aW (mH (T := "int") (by decide) (vP 0) (by rfl) B.isinstance_ (by rfl) B.int_ PyProof.Rows.boot_int)) (oE (GC (aW (mH (T := "bool") (by decide) (vP 0) (by rfl) B.isinstance_ (by rfl) B.bool_ PyProof.Rows.boot_bool)))))))
theorem yI (D:Dg K mg "_law_free" (top 43) ["_law_script", "_law_nights"]) (B:Bl mg) (h_law_row:Has P w K mg base n "_law_row" ["_law_script", "_law_at", "_law_many"] (spD K dI)):Has P w K mg base (n + 1) "_law_free" ["_law_script", "_law_nights"] (spD K eZ):=by
 have sc:FnScope ["_law_script", "_law_nights", "_law_xs", "_law_ys", "_law_way", "_law_cut"] ["_law_script", "_law_nights"] (bA (top 43)):=fsc
 exact eV (fl:=[.A,.A,.A,.A,.A,.A]) D sc (by decide) (by decide) fun f cdv A outer s H E hr=>aV (sA (i:=2) sc.nd (o9 (bF h_law_row hr (dq (vP 0) (dq iP (dq iP dz))))))
  (aV (sA (i:=3) sc.nd (o9 (bF h_law_row hr (dq (vP 0) (dq iP (dq (vP 1) dz))))))
  (aV (sA (i:=4) sc.nd (dN (bV dD gZ (bL (dx (vB 2) iP)) iP)))
  (aV (gB (cO (lD hr.units) tK (vP 4) iP (cJ _)) (aX (bO (bU (uH (rR (nA (fZ (dq (cW (bV fX jw iP (aW (bV dD gZ (bL (dx (vB 2) iP)) iP)))) dz))) (vP 1)))))) (dh))
  (aV (gB (cO (lD hr.units) tK (vP 4) iP (cJ _)) (aX (bO (bU (eU (L:=[]) (fl':=[.A,.A]) rfl ["_law_k"] ["_law_ys"] [3] (gj (by rfl) B.range_ (nO (dq (vP 1) dz))) (fun _ _ _ _ _=>gN' (i:=0) (show (["_law_k", "_law_ys"]:List Str).Nodup by decide +kernel)) (fun _ _ _ _ _=>f9) (fun _ _ _ _ _=>cW (bV dD gZ (bL (dx (vB 1) (vP 0))) iP)))))) (dh))
  (aV (gB (cO (lD hr.units) tK (vP 4) iP (cJ _)) (aX (bO (bU (eU (L:=[]) (fl':=[.A,.A]) rfl ["_law_k"] ["_law_ys"] [3] (gj (by rfl) B.range_ (nO (dq (vP 1) dz))) (fun _ _ _ _ _=>gN' (i:=0) (show (["_law_k", "_law_ys"]:List Str).Nodup by decide +kernel)) (fun _ _ _ _ _=>f9) (fun _ _ _ _ _=>cW (fY (bL (dx (jE (dN (fZ (dq iC (dq iC (dq iC (dq iC (dq iC (dq iC dz))))))))) (aW (bV dD gZ (bL (dx (vB 1) (vP 0))) iP)))))))))) (dh))
  (aV (sA (i:=5) sc.nd (dN (bV dD gZ (bL (dx (vB 2) iP)) (aW (bV fX jw (vP 1) iP)))))
  (aX (bO (bU (uH (uK (jE (pR (rR (nA (fZ (dq (cW (bV dD gZ (bL (dx (vB 2) iP)) iP)) dz))) (vP 5)))) (jE (pR (rR (nA (fZ (dq (cW (bV dD gZ (bL (dx (vB 2) iP)) iP)) dz))) (aW (bV pY uI (vP 1) (vP 5)))))))))))))))))
theorem vp (D:Dg K mg "_law_wishes" (top 44) ["_law_script", "_law_nights", "_law_many"]) (B:Bl mg) (h_law_row:Has P w K mg base n "_law_row" ["_law_script", "_law_at", "_law_many"] (spD K dI)):Has P w K mg base (n + 1) "_law_wishes" ["_law_script", "_law_nights", "_law_many"] (spD K dM):=by
 have sc:FnScope ["_law_script", "_law_nights", "_law_many", "_law_wishes_here", "_law_k", "_law_xs", "_law_first", "_law_behind", "_law_some"] ["_law_script", "_law_nights", "_law_many"] (bA (top 44)):=fsc
 exact eV (fl:=[.A,.A,.A,.O,.A,.A,.A,.A,.A]) D sc (by decide) (by decide) fun f cdv A outer s H E hr=>aV (pH (i:=3) rfl sc.nd rfl (by first | exact Or.inl rfl | exact Or.inr rfl) (nA (fZ dz)))
  (aV (mF (L:=[]) PassesOwn.never rfl (gj (by rfl) B.range_ (nO (dq (vP 2) dz))) (gN' (i:=4) sc.nd) (aV (sA (i:=5) sc.nd (o9 (bF h_law_row hr (dq (vP 0) (dq (aW (bV fX jw iP (vP 4))) (dq iP dz))))))
  (aV (sA (i:=6) sc.nd (dN (bV dD gZ (bL (dx (vB 5) iP)) (vP 1))))
  (aV (sA (i:=7) sc.nd (dN (cX (DN rfl) Nq (by rfl) B.min_ PyProof.Rows.boot_min (dq (vP 1) (dq (aW (bV fX jw (aW (bV fX jw (vP 6) iP)) (aW (bV dD gZ (bL (dx (vB 5) iP)) (bL (dx (jE (pR (xP (dq (dN (mD)) (dq (vA 1) dz))))) (aW (bV dD gZ (bL (dx (vB 5) iP)) iP)))))))) dz)))))
  (aV (sA (i:=8) sc.nd (dN (fZ (dq (cW (bV dD gZ (bL (dx (vB 5) iP)) iP)) (dq (cW (bV j9 o_ iP (aW (bV pY uI (vP 7) (vP 6))))) (dq (cW (bV dD gZ (aW (bV fX jw (aW (bV j9 o_ (bL (dx (vB 5) iP)) (aW (bV um zc iP iP)))) (bL (dx (vB 5) iP)))) (aW (bV fX jw (aW (bV um zc iP iP)) iP)))) dz))))))
  (aV (sA (i:=8) sc.nd (pR (uK (vB 8) (jE (dN (fZ (dq (cW (bV um zc iP iP)) (dq (cW (bV fX jw iP (aW (bV dD gZ (bL (dx (vB 5) iP)) iP)))) dz))))))))
  (aX (gB (lE (mG (cO (lD hr.units) tK (aW (bV dD gZ (bL (dx (vB 5) iP)) iP)) iP (cJ _)) (kh (cO (m_ hr.units) vG (oM (j8 3)) (aW (fZ dz)) (cJ _))))) (aX (pI (i:=3) rfl (dx (j8 3) (aW (bV dD gZ (bL (dx (vB 5) iP)) (aW (cX bR iM (by rfl) B.len_ PySem.boot_len (dq (oM (j8 3)) dz)))))) rfl)) (aX (pI (i:=3) rfl (nD rfl (dq (vA 6) (dq (vA 7) (dq (dx (vB 8) (aW (bV dD gZ (bL (dx (vB 5) iP)) iP))) dz)))) rfl))))))))))
  (aX (bO (tW 3 (by decide)))))
theorem vL (D:Dg K mg "_law_holds" (top 45) ["_law_wishes_here", "_law_some", "_law_night"]) (B:Bl mg):Has P w K mg base (n + 1) "_law_holds" ["_law_wishes_here", "_law_some", "_law_night"] (spD K cU):=by
 have sc:FnScope ["_law_wishes_here", "_law_some", "_law_night"] ["_law_wishes_here", "_law_some", "_law_night"] (bA (top 45)):=fsc
 exact eV (fl:=[.A,.A,.A]) D sc (by decide) (by decide) fun f cdv A outer s H E hr=>aX (bO (bU (cX bR iM (by rfl) B.len_ PySem.boot_len (dq (aW (eU (L:=[]) (fl':=[.A,.A,.A]) rfl ["_law_at"] ["_law_night", "_law_wishes_here"] [2,0] (g8 (vB 1)) (fun _ _ _ _ _=>gN' (i:=0) (show (["_law_at", "_law_night", "_law_wishes_here"]:List Str).Nodup by decide +kernel)) (fun _ _ _ _ _=>mL (lE (mG (cO lZ p8 (bL (dx (jE (dx (vB 2) (vP 0))) iP)) (vP 1) (cJ _)) (kh (cO lq b_lt (vP 1) (bL (dx (jE (dx (vB 2) (vP 0))) iP)) (cJ _)))))) (fun _ _ _ _ _=>cW (fY (vP 0))))) dz))))
theorem rK (D:Dg K mg "_law_is_choice" (top 46) ["_law_wishes_here", "_law_free_here", "_law_some"]) (B:Bl mg) (h_law_holds:Has P w K mg base n "_law_holds" ["_law_wishes_here", "_law_some", "_law_night"] (spD K cU)):Has P w K mg base (n + 1) "_law_is_choice" ["_law_wishes_here", "_law_free_here", "_law_some"] (spD K eE):=by
 have sc:FnScope ["_law_wishes_here", "_law_free_here", "_law_some", "_law_k", "_law_night"] ["_law_wishes_here", "_law_free_here", "_law_some"] (bA (top 46)):=fsc
 exact eV (fl:=[.A,.A,.A,.A,.A]) D sc (by decide) (by decide) fun f cdv A outer s H E hr=>aV (mF (L:=[]) PassesOwn.never rfl (gj (by rfl) B.range_ (nO (dq (aW (cX bR iM (by rfl) B.len_ PySem.boot_len (dq (vP 2) dz))) dz))) (gN' (i:=3) sc.nd) (aX (gB (lE (kJ (jt (uL lZ lq p8 b_lt iP (bL (dx (vB 2) (vP 3))) (aW (cX bR iM (by rfl) B.len_ PySem.boot_len (dq (vP 0) dz))))) (kj (lE (mG (cO uo Ax (vP 3) iP (cJ _)) (kh (cO lZ p8 (bL (dx (vB 2) (vP 3))) (bL (dx (vB 2) (aW (bV pY uI (vP 3) iP)))) (cJ _)))))))) (aX (bO (bU (jF)))) (dh))))
  (aV (mF (L:=[]) PassesOwn.never rfl (gj (by rfl) B.range_ (nO (dq (aW (cX bR iM (by rfl) B.len_ PySem.boot_len (dq (vP 1) dz))) dz))) (gN' (i:=4) sc.nd) (aX (gB (cO uo Ax (eO (bF h_law_holds hr (dq (vP 0) (dq (vP 2) (dq (vP 4) dz))))) (bL (dx (vB 1) (vP 4))) (cJ _)) (aX (bO (bU (jF)))) (dh))))
  (aX (bO (bU (jF)))))
theorem yJ (D:Dg K mg "_law_cost" (top 47) ["_law_prices", "_law_first", "_law_behind"]) (B:Bl mg):Has P w K mg base (n + 1) "_law_cost" ["_law_prices", "_law_first", "_law_behind"] (spD K g_):=by
 have sc:FnScope ["_law_prices", "_law_first", "_law_behind"] ["_law_prices", "_law_first", "_law_behind"] (bA (top 47)):=fsc
 exact eV (fl:=[.A,.A,.A]) D sc (by decide) (by decide) fun f cdv A outer s H E hr=>aX (bO (bU (cX (lO rfl) sY (by rfl) B.sum_ PyProof.Rows.boot_sum (dq (aW (eU (L:=[]) (fl':=[.A,.A,.A,.A]) rfl ["_law_night", "_law_price"] ["_law_first", "_law_behind"] [1,2] (g8 (vB 0)) (fun _ _ _ _ _=>j_ rfl (cP (gN' (i:=0) (show (["_law_night", "_law_price", "_law_first", "_law_behind"]:List Str).Nodup by decide +kernel)) (cP (gN' (i:=1) (show (["_law_night", "_law_price", "_law_first", "_law_behind"]:List Str).Nodup by decide +kernel)) (jx)))) (fun _ _ _ _ _=>mL (lE (mG (cO lZ p8 (vP 2) (vP 0) (cJ _)) (kh (cO lq b_lt (vP 0) (vP 3) (cJ _)))))) (fun _ _ _ _ _=>cW (fY (vP 1))))) dz))))
theorem tQ (D:Dg K mg "_law_is_best" (top 48) ["_law_wishes_here", "_law_free_here", "_law_choice", "_law_prices"]) (B:Bl mg) (h_law_holds:Has P w K mg base n "_law_holds" ["_law_wishes_here", "_law_some", "_law_night"] (spD K cU)) (h_law_is_choice:Has P w K mg base n "_law_is_choice" ["_law_wishes_here", "_law_free_here", "_law_some"] (spD K eE)) (h_law_cost:Has P w K mg base n "_law_cost" ["_law_prices", "_law_first", "_law_behind"] (spD K g_)):Has P w K mg base (n + 1) "_law_is_best" ["_law_wishes_here", "_law_free_here", "_law_choice", "_law_prices"] (spD K eX):=by
 have sc:FnScope ["_law_wishes_here", "_law_free_here", "_law_choice", "_law_prices", "_law_k", "_law_night", "_law_price", "_law_at", "_law_surplus"] ["_law_wishes_here", "_law_free_here", "_law_choice", "_law_prices"] (bA (top 48)):=fsc
 exact eV (fl:=[.A,.A,.A,.A,.A,.A,.A,.A,.A]) D sc (by decide) (by decide) fun f cdv A outer s H E hr=>aV (gB (jt (jr (eO (bF h_law_is_choice hr (dq (vP 0) (dq (vP 1) (dq (vP 2) dz))))))) (aX (bO (bU (jF)))) (dh))
  (aV (mF (L:=[]) PassesOwn.never rfl (gj (by rfl) B.range_ (nO (dq (aW (cX bR iM (by rfl) B.len_ PySem.boot_len (dq (vP 3) dz))) dz))) (gN' (i:=4) sc.nd) (aV (Gv (dx (vB 3) (vP 4)) (j_ rfl (cP (gN' (i:=5) sc.nd) (cP (gN' (i:=6) sc.nd) (jx)))))
  (aV (gB (lE (kJ (jt (uL lZ lq p8 b_lt iP (vP 5) (aW (cX bR iM (by rfl) B.len_ PySem.boot_len (dq (vP 1) dz))))) (kJ (cO lq b_lt (vP 6) iP (cJ _)) (kj (lE (mG (cO uo Ax (vP 4) iP (cJ _)) (kh (cO lZ p8 (vP 5) (bL (dx (jE (dx (vB 3) (aW (bV pY uI (vP 4) iP)))) iP)) (cJ _))))))))) (aX (bO (bU (jF)))) (dh))
  (aX (gB (cO (m_ hr.units) vG (eO (bF h_law_holds hr (dq (vP 0) (dq (vP 2) (dq (vP 5) dz))))) (bL (dx (vB 1) (vP 5))) (cJ _)) (aX (bO (bU (jF)))) (dh))))))
  (aV (mF (L:=[]) PassesOwn.never rfl (gj (by rfl) B.range_ (nO (dq (aW (cX bR iM (by rfl) B.len_ PySem.boot_len (dq (vP 0) dz))) dz))) (gN' (i:=7) sc.nd) (aV (sA (i:=8) sc.nd (dN (bV pY uI (bL (dx (jE (dx (vB 0) (vP 7))) iP)) (eO (bF h_law_cost hr (dq (vP 3) (dq (bL (dx (jE (dx (vB 0) (vP 7))) iP)) (dq (bL (dx (jE (dx (vB 0) (vP 7))) iP)) dz))))))))
  (aX (gB (lE (kJ (lE (mG (cO lq b_lt (vP 8) iP (cJ _)) (kh (cO (uM hr.units) G5 (vP 7) (vP 2) (by with_unfolding_all rfl))))) (kj (lE (mG (cO uo Ax (vP 8) iP (cJ _)) (kh (cO (v9 hr.units) CP (vP 7) (vP 2) (by with_unfolding_all rfl)))))))) (aX (bO (bU (jF)))) (dh)))))
  (aX (bO (bU (jF))))))
theorem vM (D:Dg K mg "_law_right" (top 49) ["_law_wishes_here", "_law_free_here", "_law_told"]) (B:Bl mg) (h_law_whole:Has P w K mg base n "_law_whole" ["_law_thing"] (spD K cM)) (h_law_is_best:Has P w K mg base n "_law_is_best" ["_law_wishes_here", "_law_free_here", "_law_choice", "_law_prices"] (spD K eX)):Has P w K mg base (n + 1) "_law_right" ["_law_wishes_here", "_law_free_here", "_law_told"] (spD K cQ):=by
 have sc:FnScope ["_law_wishes_here", "_law_free_here", "_law_told", "_law_worth", "_law_choice", "_law_prices", "_law_one"] ["_law_wishes_here", "_law_free_here", "_law_told"] (bA (top 49)):=fsc
 exact eV (fl:=[.A,.A,.A,.A,.A,.A,.A]) D sc (by decide) (by decide) fun f cdv A outer s H E hr=>aV (gB (lE (kJ (jt (jr (aW (mH (T := "tuple") (by decide) (vP 2) (by rfl) B.isinstance_ (by rfl) B.tuple_ PyProof.Rows.boot_tuple)))) (kJ (cO (m_ hr.units) vG (aW (cX bR iM (by rfl) B.len_ PySem.boot_len (dq (vP 2) dz))) iP (cJ _)) (kj (jt (jr (eO (bF h_law_whole hr (dq (bL (dx (vB 2) iP)) dz))))))))) (aX (bO (bU (jF)))) (dh))
  (aV (Gv (vA 2) (j_ rfl (cP (gN' (i:=3) sc.nd) (cP (gN' (i:=4) sc.nd) (cP (gN' (i:=5) sc.nd) (jx))))))
  (aV (gB (lE (kJ (jt (jr (aW (mH (T := "list") (by decide) (vP 4) (by rfl) B.isinstance_ (by rfl) B.list_ PyProof.Rows.boot_list)))) (kj (jt (jr (aW (mH (T := "list") (by decide) (vP 5) (by rfl) B.isinstance_ (by rfl) B.list_ PyProof.Rows.boot_list))))))) (aX (bO (bU (jF)))) (dh))
  (aV (mF (L:=[]) PassesOwn.never rfl (g8 (vB 5)) (gN' (i:=6) sc.nd) (aX (gB (lE (kJ (jt (jr (aW (mH (T := "tuple") (by decide) (vP 6) (by rfl) B.isinstance_ (by rfl) B.tuple_ PyProof.Rows.boot_tuple)))) (kJ (cO (m_ hr.units) vG (aW (cX bR iM (by rfl) B.len_ PySem.boot_len (dq (vP 6) dz))) iP (cJ _)) (kJ (jt (jr (eO (bF h_law_whole hr (dq (bL (dx (vB 6) iP)) dz))))) (kj (jt (jr (eO (bF h_law_whole hr (dq (bL (dx (vB 6) iP)) dz)))))))))) (aX (bO (bU (jF)))) (dh))))
  (aV (gB (lE (kJ (cO (m_ hr.units) vG (aW (eU (L:=[]) (fl':=[.A]) rfl ["_law_at"] [] [] (g8 (vB 4)) (fun _ _ _ _ _=>gN' (i:=0) (show (["_law_at"]:List Str).Nodup by decide +kernel)) (fun _ _ _ _ _=>mL (jt (jr (eO (bF h_law_whole hr (dq (vP 0) dz)))))) (fun _ _ _ _ _=>cW (fY (vP 0))))) (aW (fZ dz)) (cJ _)) (kj (jt (jr (eO (bF h_law_is_best hr (dq (vP 0) (dq (vP 1) (dq (vP 4) (dq (vP 5) dz))))))))))) (aX (bO (bU (jF)))) (dh))
  (aX (bO (bU (nC (lD hr.units) tK (vP 3) (aW (cX (lO rfl) sY (by rfl) B.sum_ PyProof.Rows.boot_sum (dq (aW (eU (L:=[]) (fl':=[.A,.A]) rfl ["_law_at"] ["_law_wishes_here"] [0] (g8 (vB 4)) (fun _ _ _ _ _=>gN' (i:=0) (show (["_law_at", "_law_wishes_here"]:List Str).Nodup by decide +kernel)) (fun _ _ _ _ _=>f9) (fun _ _ _ _ _=>cW (fY (bL (dx (jE (dx (vB 1) (vP 0))) iP)))))) dz))) (cJ _)))))))))
theorem Qh {f:Addr} {fd:FuncData} (Fn:FunD K "law" (top 50) f fd) (B:Bl mg) (hworth_of:Has P w K mg base n "worth_of" ["wishes", "choice"] (spD K dJ)) (his_choice:Has P w K mg base n "is_choice" ["wishes", "free", "thing"] (spD K fj)) (his_best:Has P w K mg base n "is_best" ["wishes", "free", "choice", "prices"] (spD K jo)) (hbound_by:Has P w K mg base n "bound_by" ["wishes", "free", "prices"] (spD K fB)) (hbest:Has P w K mg base n "best" ["wishes", "free"] (XH.spT K gD)) (h_law_row:Has P w K mg base n "_law_row" ["_law_script", "_law_at", "_law_many"] (spD K dI)) (h_law_free:Has P w K mg base n "_law_free" ["_law_script", "_law_nights"] (spD K eZ)) (h_law_wishes:Has P w K mg base n "_law_wishes" ["_law_script", "_law_nights", "_law_many"] (spD K dM)) (h_law_right:Has P w K mg base n "_law_right" ["_law_wishes_here", "_law_free_here", "_law_told"] (spD K cQ)):FnOk P w K mg base CX0 (n + 1) f fd ["_law_script"] (spD K Io):=by
 have sc:FnScope ["_law_script", "_law_xs", "_law_nights", "_law_many", "_law_free_here", "_law_wishes_here", "_law_handed", "_law_told", "_law_worth", "_law_choice", "_law_prices", "_law_again"] ["_law_script"] (bA (top 50)):=fsc
 exact GP (fl:=[.A,.A,.A,.A,.A,.A,.N,.N,.A,.O,.O,.A]) Fn sc (by decide) (by decide) fun f cdv A outer s H E hr=>aV (sA (i:=1) sc.nd (o9 (bF h_law_row hr (dq (vP 0) (dq iP (dq iP dz))))))
  (aV (sA (i:=2) sc.nd (dN (bV fX jw iP (aW (bV dD gZ (bL (dx (vB 1) iP)) iP)))))
  (aV (sA (i:=3) sc.nd (dN (bV dD gZ (bL (dx (vB 1) iP)) iP)))
  (aV (gB (cO (lD hr.units) tK (aW (bV dD gZ (bL (dx (vB 1) iP)) iP)) iP (cJ _)) (aV (sA (i:=2) sc.nd (dN (mD)))
  (aX (sA (i:=3) sc.nd (dN (mD))))) (dh))
  (aV (gB (cO (lD hr.units) tK (aW (bV dD gZ (bL (dx (vB 1) iP)) iP)) iP (cJ _)) (aV (sA (i:=2) sc.nd (dN (mD)))
  (aX (sA (i:=3) sc.nd (dN (mD))))) (dh))
  (aV (sA (i:=4) sc.nd (o9 (bF h_law_free hr (dq (vP 0) (dq (vP 2) dz)))))
  (aV (sA (i:=5) sc.nd (o9 (bF h_law_wishes hr (dq (vP 0) (dq (vP 2) (dq (vP 3) dz))))))
  (aV (CJ (i:=6) rfl sc.nd rfl (by first | exact Or.inl rfl | exact Or.inr rfl) (JQ (zB (Lr (cW (uH (qY (vB 5) (by rfl) B.list_)))) (zB (Lr (cW (uH (qY (vB 4) (by rfl) B.list_)))) (JN)))))
  (aV (CJ (i:=7) rfl sc.nd rfl (by first | exact Or.inl rfl | exact Or.inr rfl) (XH.uN hbest hr (dq (GZ rfl (tY 6 rfl) iP (fun _ _=>rfl)) (dq (GZ rfl (tY 6 rfl) iP (fun _ _=>rfl)) dz))))
  (aV (gB (lE (kJ (jt (jr (eO (bF h_law_right hr (dq (vP 5) (dq (vP 4) (dq (tY 7 rfl) dz))))))) (kj (cO (m_ hr.units) vG (tY 6 rfl) (yX (xP (dq (vA 5) (dq (vA 4) dz)))) (cJ _))))) (aX (bO (bU (jF)))) (dh))
  (aV (XY.N_ (i:=8) (j:=9) (k:=10) (q:=7) rfl rfl rfl rfl rfl (by decide) sc.nd rfl rfl rfl rfl (by first | exact Or.inl rfl | exact Or.inr rfl) (by first | exact Or.inl rfl | exact Or.inr rfl) (by first | exact Or.inl rfl | exact Or.inr rfl))
  (aV (gB (lE (kJ (cO (m_ hr.units) vG (eO (bF hbound_by hr (dq (vP 5) (dq (vP 4) (dq (oM (j8 10)) dz))))) (vP 8) (cJ _)) (kj (cO (m_ hr.units) vG (eO (bF hworth_of hr (dq (vP 5) (dq (oM (j8 9)) dz)))) (vP 8) (cJ _))))) (aX (bO (bU (jF)))) (dh))
  (aV (gB (lE (kJ (Cz (eO (bF his_best hr (dq (vP 5) (dq (vP 4) (dq (oM (j8 9)) (dq (oM (j8 10)) dz))))))) (kj (Cz (eO (bF his_choice hr (dq (vP 5) (dq (vP 4) (dq (oM (j8 9)) dz))))))))) (aX (bO (bU (jF)))) (dh))
  (aV (pI (i:=9) rfl (dN (mD)) rfl)
  (aV (NT (i:=10) rfl rfl)
  (aV (JR (i:=6) rfl iP rfl (fun _ _=>rfl))
  (aV (sA (i:=11) sc.nd (o9 (Ls (XH.uN hbest hr (dq (yX (qY (vB 5) (by rfl) B.list_)) (dq (yX (qY (vB 4) (by rfl) B.list_)) dz))))))
  (aX (bO (bU (k_ (eO (bF h_law_right hr (dq (vP 5) (dq (vP 4) (dq (vP 11) dz))))) (k_ (aW (nC (lD hr.units) tK (bL (dx (vB 11) iP)) (vP 8) (cJ _))) (oE (nC (lD hr.units) tK (eO (Ls (XH.uN hbest hr (dq (aW (fZ dz)) (dq (aW (fZ dz)) dz))))) (eO (nD rfl (dq iC (dq (cW (fZ dz)) (dq (cW (fZ dz)) dz))))) (cJ _))))))))))))))))))))))))
end
end K53
namespace D3
theorem len0 {p:List PySem.Value→Prop} (h:p []):∀ us,us.length=0→p us:=fun us hl=>by
 cases us with
 | nil=>exact h
 | cons _ _=>cases hl
theorem cB {n:Nat} {p:List PySem.Value→Prop} (h:∀ a us,us.length=n→p (a :: us)):∀ us,us.length=n + 1→p us:=fun us hl=>by
 cases us with
 | nil=>cases hl
 | cons a r=>exact h a r (Nat.succ.inj hl)
end D3
namespace K53
open PySem L2 My D3
structure Txt (K:PySem.W.Frag) (mg:Str→Option Value):Prop where
 d_is_whole:Dg K mg "is_whole" (top 4) ["thing"]
 d_all_whole:Dg K mg "all_whole" (top 5) ["things"]
 d_is_tuple_of:Dg K mg "is_tuple_of" (top 6) ["thing", "many"]
 d_is_pair:Dg K mg "is_pair" (top 7) ["thing"]
 d_is_whole_list:Dg K mg "is_whole_list" (top 8) ["thing"]
 d_is_rising:Dg K mg "is_rising" (top 9) ["numbers"]
 d_nights_of:Dg K mg "nights_of" (top 11) ["stay"]
 d_holds:Dg K mg "holds" (top 12) ["stretch", "night"]
 d_count_at:Dg K mg "count_at" (top 13) ["stretches", "night"]
 d_is_wish_for:Dg K mg "is_wish_for" (top 16) ["wish", "free"]
 d_check_wishes:Dg K mg "check_wishes" (top 17) ["wishes", "free"]
 d_cost:Dg K mg "cost" (top 18) ["prices", "first", "behind"]
 d_worth_of:Dg K mg "worth_of" (top 19) ["wishes", "choice"]
 d_held_at:Dg K mg "held_at" (top 20) ["wishes", "choice", "night"]
 d_fits:Dg K mg "fits" (top 21) ["wishes", "free", "choice"]
 d_is_place_list:Dg K mg "is_place_list" (top 22) ["wishes", "thing"]
 d_is_choice:Dg K mg "is_choice" (top 23) ["wishes", "free", "thing"]
 d_is_price:Dg K mg "is_price" (top 24) ["free", "thing"]
 d_is_price_list:Dg K mg "is_price_list" (top 25) ["free", "thing"]
 d_gain:Dg K mg "gain" (top 26) ["wish", "prices"]
 d_sold_out:Dg K mg "sold_out" (top 27) ["wishes", "free", "choice", "prices"]
 d_is_best:Dg K mg "is_best" (top 28) ["wishes", "free", "choice", "prices"]
 d_bound_by:Dg K mg "bound_by" (top 29) ["wishes", "free", "prices"]
 d_ways_of_wish:Dg K mg "ways_of_wish" (top 31) ["wish", "place", "choice"]
 d_all_ways:Dg K mg "all_ways" (top 32) ["wishes", "free", "choice"]
 d_cheapest:Dg K mg "cheapest" (top 33) ["costs", "ways"]
 d_places_on_the_way:Dg K mg "places_on_the_way" (top 34) ["came", "start", "goal"]
 d_with_one_more:Dg K mg "with_one_more" (top 35) ["wishes", "free", "choice", "place"]
 d_prices_of:Dg K mg "prices_of" (top 36) ["wishes", "free", "choice"]
 d_best:Dg K mg "best" (top 37) ["wishes", "free"]
 d__law_cell:Dg K mg "_law_cell" (top 39) ["_law_script", "_law_at"]
 d__law_part:Dg K mg "_law_part" (top 40) ["_law_script", "_law_at", "_law_k", "_law_many"]
 d__law_row:Dg K mg "_law_row" (top 41) ["_law_script", "_law_at", "_law_many"]
 d__law_whole:Dg K mg "_law_whole" (top 42) ["_law_thing"]
 d__law_free:Dg K mg "_law_free" (top 43) ["_law_script", "_law_nights"]
 d__law_wishes:Dg K mg "_law_wishes" (top 44) ["_law_script", "_law_nights", "_law_many"]
 d__law_holds:Dg K mg "_law_holds" (top 45) ["_law_wishes_here", "_law_some", "_law_night"]
 d__law_is_choice:Dg K mg "_law_is_choice" (top 46) ["_law_wishes_here", "_law_free_here", "_law_some"]
 d__law_cost:Dg K mg "_law_cost" (top 47) ["_law_prices", "_law_first", "_law_behind"]
 d__law_is_best:Dg K mg "_law_is_best" (top 48) ["_law_wishes_here", "_law_free_here", "_law_choice", "_law_prices"]
 d__law_right:Dg K mg "_law_right" (top 49) ["_law_wishes_here", "_law_free_here", "_law_told"]
 d_law:Dl K mg "law" "_law_script" (top 50)
 blt:Bl mg
 c_MOST_WORTH:∃ t,mg "MOST_WORTH" = some (.int 1000000000 t)
theorem Qi {P:Program} {w:World} {K:PySem.W.Frag} {mg:Str→Option Value} {base:Heap} (T:Txt K mg) {f:Addr} {fd:FuncData} (F:FunD K "law" (top 50) f fd):FnOk P w K mg base CX0 65 f fd ["_law_script"] (GQ K):=by
 have h_is_whole:=zX (P:=P) (w:=w) (base:=base) (n:=0) T.d_is_whole T.blt
 have h_is_rising:=yC (P:=P) (w:=w) (base:=base) (n:=0) T.d_is_rising T.blt
 have h_nights_of:=yD (P:=P) (w:=w) (base:=base) (n:=0) T.d_nights_of T.blt
 have h_holds:=IK (P:=P) (w:=w) (base:=base) (n:=0) T.d_holds T.blt
 have h_is_wish_for:=vo (P:=P) (w:=w) (base:=base) (n:=0) T.d_is_wish_for T.blt T.c_MOST_WORTH
 have h_cost:=La (P:=P) (w:=w) (base:=base) (n:=0) T.d_cost T.blt
 have h_worth_of:=zZ (P:=P) (w:=w) (base:=base) (n:=0) T.d_worth_of T.blt
 have h_ways_of_wish:=tO (P:=P) (w:=w) (base:=base) (n:=0) T.d_ways_of_wish T.blt
 have h_cheapest:=Ac (P:=P) (w:=w) (base:=base) (n:=0) T.d_cheapest T.blt
 have h_places_on_the_way:=pD (P:=P) (w:=w) (base:=base) (n:=0) T.d_places_on_the_way T.blt
 have h__law_cell:=yG (P:=P) (w:=w) (base:=base) (n:=0) T.d__law_cell T.blt
 have h__law_whole:=vK (P:=P) (w:=w) (base:=base) (n:=0) T.d__law_whole T.blt
 have h__law_holds:=vL (P:=P) (w:=w) (base:=base) (n:=0) T.d__law_holds T.blt
 have h__law_cost:=yJ (P:=P) (w:=w) (base:=base) (n:=0) T.d__law_cost T.blt
 have h_all_whole:=yx (P:=P) (w:=w) (base:=base) (n:=1) T.d_all_whole T.blt (h_is_whole.mono (by decide))
 have h_count_at:=zY (P:=P) (w:=w) (base:=base) (n:=1) T.d_count_at T.blt (h_holds.mono (by decide))
 have h_check_wishes:=tM (P:=P) (w:=w) (base:=base) (n:=1) T.d_check_wishes T.blt (h_is_wish_for.mono (by decide))
 have h_gain:=Le (P:=P) (w:=w) (base:=base) (n:=1) T.d_gain T.blt (h_cost.mono (by decide))
 have h__law_part:=yH (P:=P) (w:=w) (base:=base) (n:=1) T.d__law_part T.blt (h__law_cell.mono (by decide))
 have h__law_is_choice:=rK (P:=P) (w:=w) (base:=base) (n:=1) T.d__law_is_choice T.blt (h__law_holds.mono (by decide))
 have h_is_tuple_of:=vm (P:=P) (w:=w) (base:=base) (n:=2) T.d_is_tuple_of T.blt (h_all_whole.mono (by decide))
 have h_is_whole_list:=sH (P:=P) (w:=w) (base:=base) (n:=2) T.d_is_whole_list T.blt (h_all_whole.mono (by decide))
 have h_held_at:=BP (P:=P) (w:=w) (base:=base) (n:=2) T.d_held_at T.blt (h_nights_of.mono (by decide)) (h_count_at.mono (by decide))
 have h_bound_by:=Aa (P:=P) (w:=w) (base:=base) (n:=2) T.d_bound_by T.blt (h_check_wishes.mono (by decide)) (h_gain.mono (by decide))
 have h__law_row:=Ad (P:=P) (w:=w) (base:=base) (n:=2) T.d__law_row T.blt (h__law_part.mono (by decide))
 have h__law_is_best:=tQ (P:=P) (w:=w) (base:=base) (n:=2) T.d__law_is_best T.blt (h__law_holds.mono (by decide)) (h__law_is_choice.mono (by decide)) (h__law_cost.mono (by decide))
 have h_is_pair:=BL (P:=P) (w:=w) (base:=base) (n:=3) T.d_is_pair T.blt (h_is_tuple_of.mono (by decide))
 have h_fits:=Ld (P:=P) (w:=w) (base:=base) (n:=3) T.d_fits T.blt (h_held_at.mono (by decide))
 have h_is_place_list:=sI (P:=P) (w:=w) (base:=base) (n:=3) T.d_is_place_list T.blt (h_is_whole_list.mono (by decide)) (h_is_rising.mono (by decide))
 have h_sold_out:=z_ (P:=P) (w:=w) (base:=base) (n:=3) T.d_sold_out T.blt (h_held_at.mono (by decide))
 have h_all_ways:=Ab (P:=P) (w:=w) (base:=base) (n:=3) T.d_all_ways T.blt (h_held_at.mono (by decide)) (h_ways_of_wish.mono (by decide))
 have h__law_free:=yI (P:=P) (w:=w) (base:=base) (n:=3) T.d__law_free T.blt (h__law_row.mono (by decide))
 have h__law_wishes:=vp (P:=P) (w:=w) (base:=base) (n:=3) T.d__law_wishes T.blt (h__law_row.mono (by decide))
 have h__law_right:=vM (P:=P) (w:=w) (base:=base) (n:=3) T.d__law_right T.blt (h__law_whole.mono (by decide)) (h__law_is_best.mono (by decide))
 have h_is_choice:=yE (P:=P) (w:=w) (base:=base) (n:=4) T.d_is_choice T.blt (h_check_wishes.mono (by decide)) (h_fits.mono (by decide)) (h_is_place_list.mono (by decide))
 have h_is_price:=z9 (P:=P) (w:=w) (base:=base) (n:=4) T.d_is_price T.blt (h_is_pair.mono (by decide))
 have h_with_one_more:=sO (P:=P) (w:=w) (base:=base) (n:=4) T.d_with_one_more T.blt (h_all_ways.mono (by decide)) (h_cheapest.mono (by decide)) (h_places_on_the_way.mono (by decide))
 have h_prices_of:=yF (P:=P) (w:=w) (base:=base) (n:=4) T.d_prices_of T.blt (h_all_ways.mono (by decide)) (h_cheapest.mono (by decide))
 have h_is_price_list:=sJ (P:=P) (w:=w) (base:=base) (n:=5) T.d_is_price_list T.blt (h_is_rising.mono (by decide)) (h_is_price.mono (by decide))
 have h_best:=Lf (P:=P) (w:=w) (base:=base) (n:=5) T.d_best T.blt (h_check_wishes.mono (by decide)) (h_worth_of.mono (by decide)) (h_with_one_more.mono (by decide)) (h_prices_of.mono (by decide))
 have h_is_best:=BR (P:=P) (w:=w) (base:=base) (n:=6) T.d_is_best T.blt (h_is_choice.mono (by decide)) (h_is_price_list.mono (by decide)) (h_gain.mono (by decide)) (h_sold_out.mono (by decide))
 exact ((Qh (P:=P) (w:=w) (base:=base) (n:=7) F T.blt (h_worth_of.mono (by decide)) (h_is_choice.mono (by decide)) (h_is_best.mono (by decide)) (h_bound_by.mono (by decide)) (h_best.mono (by decide)) (h__law_row.mono (by decide)) (h__law_free.mono (by decide)) (h__law_wishes.mono (by decide)) (h__law_right.mono (by decide))).mono (by decide)).imp (JL K53.Iz)
end K53
def PySem.W.Fast.tw2429249992320353700:=0
def PySem.W.Fast.tw16916301551643700887:=0
def PySem.W.Fast.tw8713184033079575653:=0
def PySem.W.Fast.tw11620743051725333596:=0
def PySem.W.Fast.tw11693865602376886689:=0
def PySem.W.Fast.tw3878926275691173285:=0
def PySem.W.Fast.tw2521022344606604541:=0
def PySem.W.Fast.tw7357152044109070541:=0
def PySem.W.Fast.tw3527226128516874772:=0
def PySem.W.Fast.tw15879846990753851934:=0
def PySem.W.Fast.tw6309304560170412778:=0
def PySem.W.Fast.tw12024632838343074759:=0
def PySem.W.Fast.tw16594841937911116233:=0
def PySem.W.Fast.tw2909361603996099723:=0
def PySem.W.Fast.tw8769346741451667704:=0
open PySem PySem.W PyProof.Rows
set_option maxRecDepth 100000 in
set_option maxHeartbeats 0 in
theorem PySem.Challenge.cw_nightbook_k53_whole_best_by_its_paper_holds : PySem.Challenge.rw_nightbook_k53_whole_best_by_its_paper.Holds := by
 w_on;o_law;k_head;(case hw=>w_witness2)
 k_fill
 refine L2.Gn (l:=PySem.Challenge.rw_nightbook_k53_whole_best_by_its_paper) (n:=63) (k:=65) (x := "_law_script") (CX:=L2.CX0) (sp:=D3.GQ) rfl (by decide) rfl ⟨rfl,by decide,by decide⟩ (fun w h Y=>PySem.W.kIn_of Y) ?F D3.tabs (fun _ _ _=>⟨(fun _ h=>nomatch (show _ ∈ ([]:List (Addr × Str × Pos)) from h)),(fun _ h=>nomatch (show _ ∈ ([]:List (Addr × Str × Pos)) from h)),(fun _ h=>nomatch (show _ ∈ ([]:List (Addr × Str × Pos)) from h))⟩) (fun _ h=>nomatch (show _ ∈ ([]:List (Addr × Str × Pos)) from h)) ?S ?C
 case F =>
  intro w mg fa h KX G hmg
  have T:K53.Txt (L2.KOf KX) mg:=by
   dsimp only [L2.KOf]
   have d_is_whole:D3.Dg (L2.KOf KX) mg "is_whole" (K53.top 4) ["thing"]:=by
    dsimp only [L2.KOf]
    refine' D3.d_ KX G ?b ?a ?l ?c ?k
    (case a=>k_is);(case l=>k_is);(case c=>k_is);(case k=>k_is)
    (case b=>exact fun _ _ _ _ _ _=>D3.cB fun _=>D3.len0 rfl)
   have d_all_whole:D3.Dg (L2.KOf KX) mg "all_whole" (K53.top 5) ["things"]:=by
    dsimp only [L2.KOf]
    refine' D3.d_ KX G ?b ?a ?l ?c ?k
    (case a=>k_is);(case l=>k_is);(case c=>k_is);(case k=>k_is)
    (case b=>exact fun _ _ _ _ _ _=>D3.cB fun _=>D3.len0 rfl)
   have d_is_tuple_of:D3.Dg (L2.KOf KX) mg "is_tuple_of" (K53.top 6) ["thing", "many"]:=by
    dsimp only [L2.KOf]
    refine' D3.d_ KX G ?b ?a ?l ?c ?k
    (case a=>k_is);(case l=>k_is);(case c=>k_is);(case k=>k_is)
    (case b=>exact fun _ _ _ _ _ _=>D3.cB fun _=>D3.cB fun _=>D3.len0 rfl)
   have d_is_pair:D3.Dg (L2.KOf KX) mg "is_pair" (K53.top 7) ["thing"]:=by
    dsimp only [L2.KOf]
    refine' D3.d_ KX G ?b ?a ?l ?c ?k
    (case a=>k_is);(case l=>k_is);(case c=>k_is);(case k=>k_is)
    (case b=>exact fun _ _ _ _ _ _=>D3.cB fun _=>D3.len0 rfl)
   have d_is_whole_list:D3.Dg (L2.KOf KX) mg "is_whole_list" (K53.top 8) ["thing"]:=by
    dsimp only [L2.KOf]
    refine' D3.d_ KX G ?b ?a ?l ?c ?k
    (case a=>k_is);(case l=>k_is);(case c=>k_is);(case k=>k_is)
    (case b=>exact fun _ _ _ _ _ _=>D3.cB fun _=>D3.len0 rfl)
   have d_is_rising:D3.Dg (L2.KOf KX) mg "is_rising" (K53.top 9) ["numbers"]:=by
    dsimp only [L2.KOf]
    refine' D3.d_ KX G ?b ?a ?l ?c ?k
    (case a=>k_is);(case l=>k_is);(case c=>k_is);(case k=>k_is)
    (case b=>exact fun _ _ _ _ _ _=>D3.cB fun _=>D3.len0 rfl)
   have d_nights_of:D3.Dg (L2.KOf KX) mg "nights_of" (K53.top 11) ["stay"]:=by
    dsimp only [L2.KOf]
    refine' D3.d_ KX G ?b ?a ?l ?c ?k
    (case a=>k_is);(case l=>k_is);(case c=>k_is);(case k=>k_is)
    (case b=>exact fun _ _ _ _ _ _=>D3.cB fun _=>D3.len0 rfl)
   have d_holds:D3.Dg (L2.KOf KX) mg "holds" (K53.top 12) ["stretch", "night"]:=by
    dsimp only [L2.KOf]
    refine' D3.d_ KX G ?b ?a ?l ?c ?k
    (case a=>k_is);(case l=>k_is);(case c=>k_is);(case k=>k_is)
    (case b=>exact fun _ _ _ _ _ _=>D3.cB fun _=>D3.cB fun _=>D3.len0 rfl)
   have d_count_at:D3.Dg (L2.KOf KX) mg "count_at" (K53.top 13) ["stretches", "night"]:=by
    dsimp only [L2.KOf]
    refine' D3.d_ KX G ?b ?a ?l ?c ?k
    (case a=>k_is);(case l=>k_is);(case c=>k_is);(case k=>k_is)
    (case b=>exact fun _ _ _ _ _ _=>D3.cB fun _=>D3.cB fun _=>D3.len0 rfl)
   have d_is_wish_for:D3.Dg (L2.KOf KX) mg "is_wish_for" (K53.top 16) ["wish", "free"]:=by
    dsimp only [L2.KOf]
    refine' D3.d_ KX G ?b ?a ?l ?c ?k
    (case a=>k_is);(case l=>k_is);(case c=>k_is);(case k=>k_is)
    (case b=>exact fun _ _ _ _ _ _=>D3.cB fun _=>D3.cB fun _=>D3.len0 rfl)
   have d_check_wishes:D3.Dg (L2.KOf KX) mg "check_wishes" (K53.top 17) ["wishes", "free"]:=by
    dsimp only [L2.KOf]
    refine' D3.d_ KX G ?b ?a ?l ?c ?k
    (case a=>k_is);(case l=>k_is);(case c=>k_is);(case k=>k_is)
    (case b=>exact fun _ _ _ _ _ _=>D3.cB fun _=>D3.cB fun _=>D3.len0 rfl)
   have d_cost:D3.Dg (L2.KOf KX) mg "cost" (K53.top 18) ["prices", "first", "behind"]:=by
    dsimp only [L2.KOf]
    refine' D3.d_ KX G ?b ?a ?l ?c ?k
    (case a=>k_is);(case l=>k_is);(case c=>k_is);(case k=>k_is)
    (case b=>exact fun _ _ _ _ _ _=>D3.cB fun _=>D3.cB fun _=>D3.cB fun _=>D3.len0 rfl)
   have d_worth_of:D3.Dg (L2.KOf KX) mg "worth_of" (K53.top 19) ["wishes", "choice"]:=by
    dsimp only [L2.KOf]
    refine' D3.d_ KX G ?b ?a ?l ?c ?k
    (case a=>k_is);(case l=>k_is);(case c=>k_is);(case k=>k_is)
    (case b=>exact fun _ _ _ _ _ _=>D3.cB fun _=>D3.cB fun _=>D3.len0 rfl)
   have d_held_at:D3.Dg (L2.KOf KX) mg "held_at" (K53.top 20) ["wishes", "choice", "night"]:=by
    dsimp only [L2.KOf]
    refine' D3.d_ KX G ?b ?a ?l ?c ?k
    (case a=>k_is);(case l=>k_is);(case c=>k_is);(case k=>k_is)
    (case b=>exact fun _ _ _ _ _ _=>D3.cB fun _=>D3.cB fun _=>D3.cB fun _=>D3.len0 rfl)
   have d_fits:D3.Dg (L2.KOf KX) mg "fits" (K53.top 21) ["wishes", "free", "choice"]:=by
    dsimp only [L2.KOf]
    refine' D3.d_ KX G ?b ?a ?l ?c ?k
    (case a=>k_is);(case l=>k_is);(case c=>k_is);(case k=>k_is)
    (case b=>exact fun _ _ _ _ _ _=>D3.cB fun _=>D3.cB fun _=>D3.cB fun _=>D3.len0 rfl)
   have d_is_place_list:D3.Dg (L2.KOf KX) mg "is_place_list" (K53.top 22) ["wishes", "thing"]:=by
    dsimp only [L2.KOf]
    refine' D3.d_ KX G ?b ?a ?l ?c ?k
    (case a=>k_is);(case l=>k_is);(case c=>k_is);(case k=>k_is)
    (case b=>exact fun _ _ _ _ _ _=>D3.cB fun _=>D3.cB fun _=>D3.len0 rfl)
   have d_is_choice:D3.Dg (L2.KOf KX) mg "is_choice" (K53.top 23) ["wishes", "free", "thing"]:=by
    dsimp only [L2.KOf]
    refine' D3.d_ KX G ?b ?a ?l ?c ?k
    (case a=>k_is);(case l=>k_is);(case c=>k_is);(case k=>k_is)
    (case b=>exact fun _ _ _ _ _ _=>D3.cB fun _=>D3.cB fun _=>D3.cB fun _=>D3.len0 rfl)
   have d_is_price:D3.Dg (L2.KOf KX) mg "is_price" (K53.top 24) ["free", "thing"]:=by
    dsimp only [L2.KOf]
    refine' D3.d_ KX G ?b ?a ?l ?c ?k
    (case a=>k_is);(case l=>k_is);(case c=>k_is);(case k=>k_is)
    (case b=>exact fun _ _ _ _ _ _=>D3.cB fun _=>D3.cB fun _=>D3.len0 rfl)
   have d_is_price_list:D3.Dg (L2.KOf KX) mg "is_price_list" (K53.top 25) ["free", "thing"]:=by
    dsimp only [L2.KOf]
    refine' D3.d_ KX G ?b ?a ?l ?c ?k
    (case a=>k_is);(case l=>k_is);(case c=>k_is);(case k=>k_is)
    (case b=>exact fun _ _ _ _ _ _=>D3.cB fun _=>D3.cB fun _=>D3.len0 rfl)
   have d_gain:D3.Dg (L2.KOf KX) mg "gain" (K53.top 26) ["wish", "prices"]:=by
    dsimp only [L2.KOf]
    refine' D3.d_ KX G ?b ?a ?l ?c ?k
    (case a=>k_is);(case l=>k_is);(case c=>k_is);(case k=>k_is)
    (case b=>exact fun _ _ _ _ _ _=>D3.cB fun _=>D3.cB fun _=>D3.len0 rfl)
   have d_sold_out:D3.Dg (L2.KOf KX) mg "sold_out" (K53.top 27) ["wishes", "free", "choice", "prices"]:=by
    dsimp only [L2.KOf]
    refine' D3.d_ KX G ?b ?a ?l ?c ?k
    (case a=>k_is);(case l=>k_is);(case c=>k_is);(case k=>k_is)
    (case b=>exact fun _ _ _ _ _ _=>D3.cB fun _=>D3.cB fun _=>D3.cB fun _=>D3.cB fun _=>D3.len0 rfl)
   have d_is_best:D3.Dg (L2.KOf KX) mg "is_best" (K53.top 28) ["wishes", "free", "choice", "prices"]:=by
    dsimp only [L2.KOf]
    refine' D3.d_ KX G ?b ?a ?l ?c ?k
    (case a=>k_is);(case l=>k_is);(case c=>k_is);(case k=>k_is)
    (case b=>exact fun _ _ _ _ _ _=>D3.cB fun _=>D3.cB fun _=>D3.cB fun _=>D3.cB fun _=>D3.len0 rfl)
   have d_bound_by:D3.Dg (L2.KOf KX) mg "bound_by" (K53.top 29) ["wishes", "free", "prices"]:=by
    dsimp only [L2.KOf]
    refine' D3.d_ KX G ?b ?a ?l ?c ?k
    (case a=>k_is);(case l=>k_is);(case c=>k_is);(case k=>k_is)
    (case b=>exact fun _ _ _ _ _ _=>D3.cB fun _=>D3.cB fun _=>D3.cB fun _=>D3.len0 rfl)
   have d_ways_of_wish:D3.Dg (L2.KOf KX) mg "ways_of_wish" (K53.top 31) ["wish", "place", "choice"]:=by
    dsimp only [L2.KOf]
    refine' D3.d_ KX G ?b ?a ?l ?c ?k
    (case a=>k_is);(case l=>k_is);(case c=>k_is);(case k=>k_is)
    (case b=>exact fun _ _ _ _ _ _=>D3.cB fun _=>D3.cB fun _=>D3.cB fun _=>D3.len0 rfl)
   have d_all_ways:D3.Dg (L2.KOf KX) mg "all_ways" (K53.top 32) ["wishes", "free", "choice"]:=by
    dsimp only [L2.KOf]
    refine' D3.d_ KX G ?b ?a ?l ?c ?k
    (case a=>k_is);(case l=>k_is);(case c=>k_is);(case k=>k_is)
    (case b=>exact fun _ _ _ _ _ _=>D3.cB fun _=>D3.cB fun _=>D3.cB fun _=>D3.len0 rfl)
   have d_cheapest:D3.Dg (L2.KOf KX) mg "cheapest" (K53.top 33) ["costs", "ways"]:=by
    dsimp only [L2.KOf]
    refine' D3.d_ KX G ?b ?a ?l ?c ?k
    (case a=>k_is);(case l=>k_is);(case c=>k_is);(case k=>k_is)
    (case b=>exact fun _ _ _ _ _ _=>D3.cB fun _=>D3.cB fun _=>D3.len0 rfl)
   have d_places_on_the_way:D3.Dg (L2.KOf KX) mg "places_on_the_way" (K53.top 34) ["came", "start", "goal"]:=by
    dsimp only [L2.KOf]
    refine' D3.d_ KX G ?b ?a ?l ?c ?k
    (case a=>k_is);(case l=>k_is);(case c=>k_is);(case k=>k_is)
    (case b=>exact fun _ _ _ _ _ _=>D3.cB fun _=>D3.cB fun _=>D3.cB fun _=>D3.len0 rfl)
   have d_with_one_more:D3.Dg (L2.KOf KX) mg "with_one_more" (K53.top 35) ["wishes", "free", "choice", "place"]:=by
    dsimp only [L2.KOf]
    refine' D3.d_ KX G ?b ?a ?l ?c ?k
    (case a=>k_is);(case l=>k_is);(case c=>k_is);(case k=>k_is)
    (case b=>exact fun _ _ _ _ _ _=>D3.cB fun _=>D3.cB fun _=>D3.cB fun _=>D3.cB fun _=>D3.len0 rfl)
   have d_prices_of:D3.Dg (L2.KOf KX) mg "prices_of" (K53.top 36) ["wishes", "free", "choice"]:=by
    dsimp only [L2.KOf]
    refine' D3.d_ KX G ?b ?a ?l ?c ?k
    (case a=>k_is);(case l=>k_is);(case c=>k_is);(case k=>k_is)
    (case b=>exact fun _ _ _ _ _ _=>D3.cB fun _=>D3.cB fun _=>D3.cB fun _=>D3.len0 rfl)
   have d_best:D3.Dg (L2.KOf KX) mg "best" (K53.top 37) ["wishes", "free"]:=by
    dsimp only [L2.KOf]
    refine' D3.d_ KX G ?b ?a ?l ?c ?k
    (case a=>k_is);(case l=>k_is);(case c=>k_is);(case k=>k_is)
    (case b=>exact fun _ _ _ _ _ _=>D3.cB fun _=>D3.cB fun _=>D3.len0 rfl)
   have d__law_cell:D3.Dg (L2.KOf KX) mg "_law_cell" (K53.top 39) ["_law_script", "_law_at"]:=by
    dsimp only [L2.KOf]
    refine' D3.d_ KX G ?b ?a ?l ?c ?k
    (case a=>k_is);(case l=>k_is);(case c=>k_is);(case k=>k_is)
    (case b=>exact fun _ _ _ _ _ _=>D3.cB fun _=>D3.cB fun _=>D3.len0 rfl)
   have d__law_part:D3.Dg (L2.KOf KX) mg "_law_part" (K53.top 40) ["_law_script", "_law_at", "_law_k", "_law_many"]:=by
    dsimp only [L2.KOf]
    refine' D3.d_ KX G ?b ?a ?l ?c ?k
    (case a=>k_is);(case l=>k_is);(case c=>k_is);(case k=>k_is)
    (case b=>exact fun _ _ _ _ _ _=>D3.cB fun _=>D3.cB fun _=>D3.cB fun _=>D3.cB fun _=>D3.len0 rfl)
   have d__law_row:D3.Dg (L2.KOf KX) mg "_law_row" (K53.top 41) ["_law_script", "_law_at", "_law_many"]:=by
    dsimp only [L2.KOf]
    refine' D3.d_ KX G ?b ?a ?l ?c ?k
    (case a=>k_is);(case l=>k_is);(case c=>k_is);(case k=>k_is)
    (case b=>exact fun _ _ _ _ _ _=>D3.cB fun _=>D3.cB fun _=>D3.cB fun _=>D3.len0 rfl)
   have d__law_whole:D3.Dg (L2.KOf KX) mg "_law_whole" (K53.top 42) ["_law_thing"]:=by
    dsimp only [L2.KOf]
    refine' D3.d_ KX G ?b ?a ?l ?c ?k
    (case a=>k_is);(case l=>k_is);(case c=>k_is);(case k=>k_is)
    (case b=>exact fun _ _ _ _ _ _=>D3.cB fun _=>D3.len0 rfl)
   have d__law_free:D3.Dg (L2.KOf KX) mg "_law_free" (K53.top 43) ["_law_script", "_law_nights"]:=by
    dsimp only [L2.KOf]
    refine' D3.d_ KX G ?b ?a ?l ?c ?k
    (case a=>k_is);(case l=>k_is);(case c=>k_is);(case k=>k_is)
    (case b=>exact fun _ _ _ _ _ _=>D3.cB fun _=>D3.cB fun _=>D3.len0 rfl)
   have d__law_wishes:D3.Dg (L2.KOf KX) mg "_law_wishes" (K53.top 44) ["_law_script", "_law_nights", "_law_many"]:=by
    dsimp only [L2.KOf]
    refine' D3.d_ KX G ?b ?a ?l ?c ?k
    (case a=>k_is);(case l=>k_is);(case c=>k_is);(case k=>k_is)
    (case b=>exact fun _ _ _ _ _ _=>D3.cB fun _=>D3.cB fun _=>D3.cB fun _=>D3.len0 rfl)
   have d__law_holds:D3.Dg (L2.KOf KX) mg "_law_holds" (K53.top 45) ["_law_wishes_here", "_law_some", "_law_night"]:=by
    dsimp only [L2.KOf]
    refine' D3.d_ KX G ?b ?a ?l ?c ?k
    (case a=>k_is);(case l=>k_is);(case c=>k_is);(case k=>k_is)
    (case b=>exact fun _ _ _ _ _ _=>D3.cB fun _=>D3.cB fun _=>D3.cB fun _=>D3.len0 rfl)
   have d__law_is_choice:D3.Dg (L2.KOf KX) mg "_law_is_choice" (K53.top 46) ["_law_wishes_here", "_law_free_here", "_law_some"]:=by
    dsimp only [L2.KOf]
    refine' D3.d_ KX G ?b ?a ?l ?c ?k
    (case a=>k_is);(case l=>k_is);(case c=>k_is);(case k=>k_is)
    (case b=>exact fun _ _ _ _ _ _=>D3.cB fun _=>D3.cB fun _=>D3.cB fun _=>D3.len0 rfl)
   have d__law_cost:D3.Dg (L2.KOf KX) mg "_law_cost" (K53.top 47) ["_law_prices", "_law_first", "_law_behind"]:=by
    dsimp only [L2.KOf]
    refine' D3.d_ KX G ?b ?a ?l ?c ?k
    (case a=>k_is);(case l=>k_is);(case c=>k_is);(case k=>k_is)
    (case b=>exact fun _ _ _ _ _ _=>D3.cB fun _=>D3.cB fun _=>D3.cB fun _=>D3.len0 rfl)
   have d__law_is_best:D3.Dg (L2.KOf KX) mg "_law_is_best" (K53.top 48) ["_law_wishes_here", "_law_free_here", "_law_choice", "_law_prices"]:=by
    dsimp only [L2.KOf]
    refine' D3.d_ KX G ?b ?a ?l ?c ?k
    (case a=>k_is);(case l=>k_is);(case c=>k_is);(case k=>k_is)
    (case b=>exact fun _ _ _ _ _ _=>D3.cB fun _=>D3.cB fun _=>D3.cB fun _=>D3.cB fun _=>D3.len0 rfl)
   have d__law_right:D3.Dg (L2.KOf KX) mg "_law_right" (K53.top 49) ["_law_wishes_here", "_law_free_here", "_law_told"]:=by
    dsimp only [L2.KOf]
    refine' D3.d_ KX G ?b ?a ?l ?c ?k
    (case a=>k_is);(case l=>k_is);(case c=>k_is);(case k=>k_is)
    (case b=>exact fun _ _ _ _ _ _=>D3.cB fun _=>D3.cB fun _=>D3.cB fun _=>D3.len0 rfl)
   have d_law:D3.Dl (L2.KOf KX) mg "law" "_law_script" (K53.top 50):=by
    dsimp only [L2.KOf]
    refine' D3.Q0 KX G ?b ?a ?l ?c ?k
    (case a=>k_is);(case l=>k_is);(case c=>k_is);(case k=>k_is)
    (case b=>exact fun _ _ _ _ _ _ u=>rfl)
   have iM:mg "len" = none:=by
    refine' PySem.W.mg_none_of KX G ?z
    (case z=>k_is)
   have b_range:mg "range" = none:=by
    refine' PySem.W.mg_none_of KX G ?z
    (case z=>k_is)
   have b_abs:mg "abs" = none:=by
    refine' PySem.W.mg_none_of KX G ?z
    (case z=>k_is)
   have b_isinstance:mg "isinstance" = none:=by
    refine' PySem.W.mg_none_of KX G ?z
    (case z=>k_is)
   have b_int:mg "int" = none:=by
    refine' PySem.W.mg_none_of KX G ?z
    (case z=>k_is)
   have b_bool:mg "bool" = none:=by
    refine' PySem.W.mg_none_of KX G ?z
    (case z=>k_is)
   have b_tuple:mg "tuple" = none:=by
    refine' PySem.W.mg_none_of KX G ?z
    (case z=>k_is)
   have b_list:mg "list" = none:=by
    refine' PySem.W.mg_none_of KX G ?z
    (case z=>k_is)
   have b_str:mg "str" = none:=by
    refine' PySem.W.mg_none_of KX G ?z
    (case z=>k_is)
   have b_max:mg "max" = none:=by
    refine' PySem.W.mg_none_of KX G ?z
    (case z=>k_is)
   have b_min:mg "min" = none:=by
    refine' PySem.W.mg_none_of KX G ?z
    (case z=>k_is)
   have b_sorted:mg "sorted" = none:=by
    refine' PySem.W.mg_none_of KX G ?z
    (case z=>k_is)
   have sY:mg "sum" = none:=by
    refine' PySem.W.mg_none_of KX G ?z
    (case z=>k_is)
   have b_reversed:mg "reversed" = none:=by
    refine' PySem.W.mg_none_of KX G ?z
    (case z=>k_is)
   have b_enumerate:mg "enumerate" = none:=by
    refine' PySem.W.mg_none_of KX G ?z
    (case z=>k_is)
   have b_zip:mg "zip" = none:=by
    refine' PySem.W.mg_none_of KX G ?z
    (case z=>k_is)
   have b_set:mg "set" = none:=by
    refine' PySem.W.mg_none_of KX G ?z
    (case z=>k_is)
   have b_any:mg "any" = none:=by
    refine' PySem.W.mg_none_of KX G ?z
    (case z=>k_is)
   have sZ:mg "all" = none:=by
    refine' PySem.W.mg_none_of KX G ?z
    (case z=>k_is)
   have b_dict:mg "dict" = none:=by
    refine' PySem.W.mg_none_of KX G ?z
    (case z=>k_is)
   have c_MOST_WORTH:∃ t,mg "MOST_WORTH" = some (.int 1000000000 t):=by
    refine' ⟨?t_MOST_WORTH,PySem.W.mg_of KX G ?z⟩
    (case z=>rfl)
   exact ⟨d_is_whole,d_all_whole,d_is_tuple_of,d_is_pair,d_is_whole_list,d_is_rising,d_nights_of,d_holds,d_count_at,d_is_wish_for,d_check_wishes,d_cost,d_worth_of,d_held_at,d_fits,d_is_place_list,d_is_choice,d_is_price,d_is_price_list,d_gain,d_sold_out,d_is_best,d_bound_by,d_ways_of_wish,d_all_ways,d_cheapest,d_places_on_the_way,d_with_one_more,d_prices_of,d_best,d__law_cell,d__law_part,d__law_row,d__law_whole,d__law_free,d__law_wishes,d__law_holds,d__law_is_choice,d__law_cost,d__law_is_best,d__law_right,d_law,⟨iM,b_range,b_abs,b_isinstance,b_int,b_bool,b_tuple,b_list,b_str,b_max,b_min,b_sorted,sY,b_reversed,b_enumerate,b_zip,b_set,b_any,sZ,b_dict⟩,c_MOST_WORTH⟩
  obtain ⟨f,fd,F,b,m⟩:=T.d_law.ex
  have e0:=hmg.symm.trans m
  cases e0
  exact ⟨fd,b,fun base kb nb=>K53.Qi T F⟩
 case S=>exact fun K H a ns hl hO hS=>⟨a,ns,hO,rfl,hS,hl,fun _=>rfl⟩
 case C=>exact fun _ _ _ _ z=>z
