import PyProof.Rows.All
import Wide.All
import OpenK.AllK
import Wide.FinOn
import Lean
import PyProof.EqAt
import PyProof.EqKinds
import PyProof.TupleCall
import PyProof.EqLayable
import PyProof.NsDelKeeps
import KE.KIsAll
import PyProof.ExcAttrAll.ValueError
import PyProof.ExcInit
import PyProof.ExcClass2
import PyProof.InstStore
import PyProof.RaisesMany
import PyProof.RulesTry
import PyProof.ExcBaseAll.ValueError
import PyProof.InstStoreFacts
import PyProof.RulesAs
import KE.KSortTup
import PyProof.AttrMissHeap
import KE.KDictOf
import KE.KDictSum
import PyProof.Rows.SortWalk
import PyProof.NeKinds
import PyProof.DictWalks
import KE.KMinBuiltin
import PyProof.Rows.CountFlat
import PyProof.CallStr
import Wide.Seal
import KE.KLam
import KE.KNestM
import PySem.Challenge.RW_nightbook_k32_stays_refused
set_option Elab.async false
set_option linter.all false
set_option maxRecDepth 100000
set_option maxHeartbeats 4000000
set_option exponentiation.threshold 40000
open List renaming mem_cons_of_mem→aF,mem_cons_self→aG,replicate→aK,length_map→aL,range→aN,mem_cons→aO,mem_singleton→aQ,forall_mem_cons→aR,getElem?_set_ne→aV,mem_append_right→aX,size_toArray→aZ,getElem?_eq_getElem→bf,getElem?_map→bx,getElem?_eq_none→bD,mem_append_left→bF,map_cons→bH,length_append→bK,mem_append→bM,getD_eq_getElem?_getD→bR,length_set→bU,length_replicate→bW,length_cons→bZ,filterMap_cons→cg,getElem?_set_self→cj,mem_range→cA,replicate_succ→cQ,getElem?_range→cR,mem_map→cT,nodup_cons→cU,mem_filter→dg,lookup_cons→dh,getElem?_replicate→dB,getElem?_append_right→dF,getElem?_eq_some_iff→dO,getElem?_append_left→dR,length_range→dW,contains_cons→eG,append_nil→eV,pairwise_cons→eZ,all_eq_true→fj,flatten_cons→fP,ext_getElem?→fQ,find?_cons→fX,getElem_mem→gq,mem_filterMap→gw,map_map→gG,toArray→gH,length_nil→iH,any_cons→iQ,mem_of_getElem?→iY,getElem?_mapIdx→iZ,drop_eq_getElem_cons→ji,mem_or_eq_of_mem_set→jj,map_congr_left→jl,map_append→jw,find?_eq_none→jz,drop_eq_nil_of_le→jJ,take_append_drop→jQ,mem_iff_getElem→j9,of_mem_zip→kI,nil_append→kJ,forall_mem_nil→kZ,getElem?_drop→lW,range'→mJ,filter_cons_of_pos→m5,filter_cons_of_neg→m6,length_singleton→oG,length_filter_le→oH,length→oK,getElem?_of_mem→oM,nodup_nil→oO,pairwise_append→oR,getElem_set_ne→pN,append_assoc→qz,map_nil→qH,getElem?_set→qQ,map_id'→rA,lookup→tG,foldl→ux
open Nat renaming reduceLeDiff→ak,reduceEqDiff→ao,reduceAdd→aq,reduceLT→au,le_refl→bG,ne_of_lt→bL,lt_of_lt_of_le→bQ,le_trans→bV,not_lt→eO,zero_le→fG,le_of_lt→h_,lt_irrefl→iM,lt_trans→lg,lt_or_ge→lq,zero_add→lu,le_succ→mH,ne_of_gt→nO,not_lt_zero→ou,lt_of_le_of_lt→qb,le_of_eq→qJ
open Int renaming reduceEq→aA,reduceLT→aB,reduceLE→aC,emod_lt_of_pos→ig,emod_nonneg→jx,le_refl→j_,sub_zero→qW,toNat_natCast→rm
open Option renaming bind_some→aH,some→cX,isSome_iff_exists→dZ,map_some→fV,isSome_map→q_,elim→tH
open Bool renaming and_eq_true→aU,or_eq_true→fW,false_ne_true→gA,or_true→jf,false_and→lU,true_and→mV,not_true→pR,eq_false_iff→qY
open Array renaming getElem?_eq_some_iff→cL,getD_eq_getD_getElem?→fZ,perm_iff_toList_perm→lX,mem_toList_iff→oJ,length_toList→pL,find?_toList→pZ
theorem dTr {p:Prop} [Decidable p] (h:p):decide p=true:=decide_eq_true h
theorem dFa {p:Prop} [Decidable p] (h:¬ p):decide p=false:=decide_eq_false h
theorem lMp {α β:Type} {f:α→β} {l:List α}:(l.map f).length=l.length:=aL f

namespace L2
open PySem PySem.Spec PyProof.Rows
abbrev Key:=Sum Int Str
def oA:Key→Value→Bool
 | .inl k,v=>Value.isInt k v
 | .inr x,v=>Value.isStrOf x v
def TX (w:World):Key→Int
 | .inl k=>hashInt k
 | .inr x=>hashStr w x
theorem dX:∀ {k:Key} {v:Value},oA k v=true→(∃ i t,k=Sum.inl i∧v=Value.int i t)∨(∃ x t,k=Sum.inr x∧v=Value.str x t)
 | .inl i,v,h=>by
  obtain ⟨t,e⟩:=Value.isInt_shape (k:=i) (v:=v) h
  exact .inl ⟨i,t,rfl,e⟩
 | .inr x,v,h=>by
  obtain ⟨t,e⟩:=Value.isStrOf_shape (x:=x) (v:=v) h
  exact .inr ⟨x,t,rfl,e⟩
theorem Er (i:Int) (t:Tok):oA (.inl i) (.int i t)=true:=by simp [oA,Value.isInt]
theorem Es (x:Str) (t:Tok):oA (.inr x) (.str x t)=true:=by simp [oA,Value.isStrOf]
theorem P0 (a b:Int):decide ((Sum.inl a:Key)=Sum.inl b)=(a == b):=by
 by_cases e:a=b
 ·subst e;simp
 ·have h:¬ (Sum.inl a:Key)=Sum.inl b:=fun q=>e (Sum.inl.inj q)
  rw [dFa h]
  exact (beq_eq_false_iff_ne.mpr e).symm
theorem P_ (a b:Str):decide ((Sum.inr a:Key)=Sum.inr b)=decide (a=b):=by
 by_cases e:a=b
 ·subst e;simp
 ·have h:¬ (Sum.inr a:Key)=Sum.inr b:=fun q=>e (Sum.inr.inj q)
  rw [dFa h,dFa e]
theorem Qa (a:Int) (b:Str):decide ((Sum.inl a:Key)=Sum.inr b)=false:=dFa (fun q=>nomatch q)
theorem Qc (a:Str) (b:Int):decide ((Sum.inr a:Key)=Sum.inl b)=false:=dFa (fun q=>nomatch q)
def dD (prog:Program) (w:World):PySem.KeyKind prog w Key where
 is:=oA
 hash:=TX w
 inj:=fun v a b ha hb=>by
  rcases dX ha with ⟨i,t,rfl,rfl⟩ | ⟨x,t,rfl,rfl⟩
  ·rcases dX hb with ⟨j,u,rfl,e⟩ | ⟨y,u,rfl,e⟩
   ·injection e with e1 _;rw [e1]
   ·exact nomatch e
  ·rcases dX hb with ⟨j,u,rfl,e⟩ | ⟨y,u,rfl,e⟩
   ·exact nomatch e
   ·injection e with e1 _;rw [e1]
 byValue:=fun k v h=>by
  rcases dX h with ⟨i,t,rfl,rfl⟩ | ⟨x,t,rfl,rfl⟩ <;> rfl
 pyHash:=fun hv h=>by
  rcases dX hv with ⟨i,t,rfl,rfl⟩ | ⟨x,t,rfl,rfl⟩
  ·exact wpAny_pyHash_int h
  ·exact wpAny_pyHash_str h
 eqBool:=fun hu hv h=>by
  rcases dX hu with ⟨i,t,rfl,rfl⟩ | ⟨x,t,rfl,rfl⟩
  ·rcases dX hv with ⟨j,u,rfl,rfl⟩ | ⟨y,u,rfl,rfl⟩
   ·rw [P0] at h;exact wpAny_eqBool_int h
   ·rw [Qa] at h;exact SeqAt.EqAt.int_str i t y u _ _ _ _ h
  ·rcases dX hv with ⟨j,u,rfl,rfl⟩ | ⟨y,u,rfl,rfl⟩
   ·rw [Qc] at h;exact SeqAt.EqAt.str_int x t j u _ _ _ _ h
   ·rw [P_] at h;exact wpAny_eqBool_str h
 «strs»:=fun k x t v h=>by
  rcases dX h with ⟨i,u,rfl,e⟩ | ⟨y,u,rfl,e⟩
  ·exact nomatch e
  ·injection e with e1 _
   subst e1
   cases v <;> rfl
theorem zm (prog:Program) (w:World) (i:Int) (t:Tok):(dD prog w).is (.inl i) (.int i t)=true:=Er i t
theorem zp (prog:Program) (w:World) (x:Str) (t:Tok):(dD prog w).is (.inr x) (.str x t)=true:=Es x t
end L2
namespace L2
open PySem PySem.Spec PyProof.Rows
inductive V where
 | non | bl (b:Bool) | int (i:Int) | str (x:Str) | byt (b:Array UInt8) | flt (b:UInt64) | ref (a:Addr) | ty (n:String)
 deriving DecidableEq
def RelV:V→Value→Prop
 | .non,u=>u=Value.none
 | .bl b,u=>u=Value.bool b
 | .int i,u=>∃ t,u=Value.int i t
 | .str x,u=>∃ t,u=Value.str x t
 | .byt b,u=>∃ t,u=Value.bytes b t
 | .flt b,u=>∃ t,u=Value.float b t
 | .ref a,u=>u=Value.ref a
 | .ty n,u=>u=Value.type n
abbrev Vals:List V→List Value→Prop:=Paired RelV
theorem Vals.length {xs:List V} {us:List Value} (r:Vals xs us):xs.length=us.length:=Paired.length r
theorem Vals.get:∀ {xs:List V} {us:List Value} {i:Nat} {x:V},Vals xs us→xs[i]? = some x→∃ u,us[i]? = some u∧RelV x u
 | _,_,_,_,.nil,e=>by simp at e
 | _,_,0,_,.cons r _,e=>by simp at e;subst e;exact ⟨_,rfl,r⟩
 | _,_,i + 1,x,.cons _ t,e=>by
  obtain ⟨u,h1,h2⟩:=Vals.get (i:=i) (x:=x) t (by simpa using e)
  exact ⟨u,by simpa using h1,h2⟩
theorem Vals.set {x:V} {u:Value} (r:RelV x u):∀ {xs:List V} {us:List Value} (i:Nat),Vals xs us→Vals (xs.set i x) (us.set i u)
 | _,_,_,.nil=>.nil
 | _,_,0,.cons _ t=>.cons r t
 | _,_,i + 1,.cons q t=>.cons q (Vals.set r i t)
theorem Vals.append:∀ {xs ys:List V} {us ws:List Value},Vals xs us→Vals ys ws→Vals (xs++ys) (us++ws)
 | _,_,_,_,.nil,s=>s
 | _,_,_,_,.cons r t,s=>.cons r (Vals.append t s)
theorem Vals.take:∀ {xs:List V} {us:List Value} (n:Nat),Vals xs us→Vals (xs.take n) (us.take n)
 | _,_,0,_=>.nil
 | _,_,_ + 1,.nil=>.nil
 | _,_,n + 1,.cons r t=>.cons r (Vals.take n t)
theorem Vals.drop:∀ {xs:List V} {us:List Value} (n:Nat),Vals xs us→Vals (xs.drop n) (us.drop n)
 | _,_,0,r=>r
 | _,_,_ + 1,.nil=>.nil
 | _,_,n + 1,.cons _ t=>Vals.drop n t
def xR:Option V→Option Value→Prop
 | some v,some u=>RelV v u
 | none,none=>True
 | _,_=>False
def KV {κ:Type}:List (κ × V)→List (κ × Value)→Prop:=Paired fun (p:κ × V) (q:κ × Value)=>p.1=q.1∧RelV p.2 q.2
def kV:Key→V
 | .inl i=>.int i
 | .inr x=>.str x
inductive HO where
 /-- a list -/
 | lst (xs:List V)
 /-- a tuple (never changes) -/
 | tup (xs:List V)
 /-- a dict whose keys are ints and texts;one whose keys are tuples of ints and texts (the empty one is both) -/
 | dK (kvs:List (Key × V)) | dT (kvs:List (List Key × V))
 /-- a set of ints: its members,its size -/
 | set (S:Int→Bool) (n:Nat)
 /-- an instance of the class at C,its dict at dx,its attributes -/
 | ins (C dx:Addr) (fs:List (Str × V))
 /-- the dict of the instance at x -/
 | own (x:Addr)
 /-- the dict of an exception -/
 | xd (fs:List (Str × V))
 /-- a bound method,f of x -/
 | met (f x:Addr)
 /-- a range object lo,lo + 1,.. below hi -/
 | rng (lo hi:Int)
 /-- a thing that is known to the object (the script;a dict while a loop walks it): read,never written while it is so -/
 | frz (o:Obj) (u:HO)
 /-- a code object's table -/
 | tbl (q:Str) (p:Pos)
 /-- any other thing,by what is true of its one object (a def of one's own: SetO a S n:=HO.ext fun h=>..) -/
 | ext (φ:Heap→Prop)
abbrev Hp:=Addr→Option HO
def upd (H:Hp) (a:Addr) (o:HO):Hp:=fun b=>if b=a then some o else H b
theorem d7 {H:Hp} {a:Addr} {o:HO}:upd H a o a=some o:=by unfold upd;rw [if_pos rfl]
theorem cM {H:Hp} {a b:Addr} {o:HO} (h:b ≠ a):upd H a o b=H b:=by unfold upd;rw [if_neg h]
theorem Dh {H:Hp} {a b:Addr} {o u:HO} (h:H a=some o) (h':H b=some u) (d:o ≠ u):a ≠ b:=by
 intro e;subst e;rw [h] at h';exact d (cX.inj h')
theorem i_ {H:Hp} {a b:Addr} {o:HO} (h:H a=some o) (h':H b=none):a ≠ b:=by
 intro e;subst e;rw [h] at h';cases h'
section
variable (P:Program) (w:World)
def gB (H:Hp) (h:Heap) (a:Addr):HO→Prop
 | .lst xs=>xs.length ≤ sizeLine∧∃ (its:List Value) (n:Nat),Vals xs its∧h.get? a=some { cls:=.type "list", data:=.seq its.toArray n }
 | .tup xs=>xs.length ≤ sizeLine∧∃ its:List Value,Vals xs its∧IsTup h a its.toArray
 | .dK kvs=>kvs.length ≤ sizeLine∧(a == sysModules)=false∧∃ vs,KV kvs vs∧h.DictOf (dD P w) a vs
 | .dT kvs=>kvs.length ≤ sizeLine∧(a == sysModules)=false∧∃ xs:List (List Key × Addr × Value),
  Paired (fun (p:List Key × V) (q:List Key × Addr × Value)=>p.1=q.1∧H q.2.1=some (.tup (p.1.map kV))∧RelV p.2 q.2.2) kvs xs ∧
  ∃ o es ep,h.get? a=some o∧o.ExactDict∧o.data = .dict es ep∧es.toList=xs.map (entryOfKey (tupleKind (dD P w)))∧(xs.map (·.1)).Nodup
 | .set S n=>h.SetOf (intKind P w) a S n
 | .ins C dx fs=>H dx=some (.own a)∧fs.length ≤ 1000∧dx ≠ a∧h.get? a=some (PySem.W.instObj C dx) ∧
  ∃ mA,h.Ns1 dx mA∧(∀ f,xR (fs.lookup f) (mA f))∧PySem.Within mA (fs.map (·.1))
 | .own _=>∃ o,h.get? a=some o
 | .xd fs=>∃ mA,h.Ns1 a mA∧∀ f,xR (fs.lookup f) (mA f)
 | .rng lo hi=>∃ t u v,h.get? a=some { cls:=.type "range", data:=.fields #[.int lo t,.int hi u,.int 1 v] }
 | .frz o u=>h.get? a=some o∧gB H h a u
 | .tbl q p=>∃ ps,h.get? a=some { cls:=.none,data:=.fields ps }∧(ps = #[]∨∃ c',ps = #[rawInt p.line,rawInt p.col,.ref c']∧H c'=some (.own a)∧h.CodeRec (.ref c') q)
 | .met f x=>h.get? a=some (PySem.W.methodObj (.ref f) (.ref x))
 | .ext φ=>φ h∧(∃ o,h.get? a=some o)∧∀ h1 h2:Heap,φ h1→(∀ o,h1.get? a=some o→h2.get? a=some o)→φ h2
def HOk (H:Hp) (h:Heap):Prop:=∀ a o,H a=some o→gB P w H h a o
end
section
variable {P:Program} {w:World} {H H':Hp} {h h':Heap} {a:Addr} {o:HO}
theorem gB.lt (x:gB P w H h a o):a < h.objs.size:=by
 cases o with
 | lst xs=>obtain ⟨_,_,_,_,e⟩:=x;exact Heap.lt_size e
 | tup xs=>obtain ⟨_,_,_,p⟩:=x;exact p.lt
 | dK kvs=>obtain ⟨_,_,_,_,o,_,_,e,_⟩:=x;exact Heap.lt_size e
 | dT kvs=>obtain ⟨_,_,_,_,o,_,_,e,_⟩:=x;exact Heap.lt_size e
 | set S n=>obtain ⟨o,_,_,_,e,_⟩:=x;exact Heap.lt_size e
 | ins C dx fs=>obtain ⟨_,_,_,e,_⟩:=x;exact Heap.lt_size e
 | own y=>obtain ⟨_,e⟩:=x;exact Heap.lt_size e
 | xd fs=>obtain ⟨_,⟨_,_,_,e,_⟩,_⟩:=x;exact Heap.lt_size e
 | rng lo hi=>obtain ⟨_,_,_,e⟩:=x;exact Heap.lt_size e
 | frz ob u=>obtain ⟨e,_⟩:=x;exact Heap.lt_size e
 | tbl q p=>obtain ⟨_,e,_⟩:=x;exact Heap.lt_size e
 | met f y=>exact Heap.lt_size (show h.get? a=some _ from x)
 | ext φ=>obtain ⟨_,⟨_,e⟩,_⟩:=x;exact Heap.lt_size e
theorem Paired.mapP {α β:Type} {F G:α→β→Prop}:∀ {l₁:List α} {l₂:List β},Paired F l₁ l₂→(∀ a b,F a b→G a b)→Paired G l₁ l₂
 | _,_,.nil,_=>.nil
 | _,_,.cons r t,f=>.cons (f _ _ r) (Paired.mapP t f)
theorem gB.stay (x:gB P w H h a o) (k:∀ b u,(b=a∨H b=some (.own a))→h.get? b=some u→h'.get? b=some u)
 (ho:∀ b,H b=some (.own a)→H' b=some (.own a)) (ht:∀ b xs,H b=some (.tup xs)→H' b=some (.tup xs)):gB P w H' h' a o:=by
 induction o with
 | lst xs=>obtain ⟨z,its,n,r,e⟩:=x;exact ⟨z,its,n,r,k _ _ (.inl rfl) e⟩
 | tup xs=>obtain ⟨z,its,r,ob,e,c⟩:=x;exact ⟨z,its,r,ob,k _ _ (.inl rfl) e,c⟩
 | dK kvs=>obtain ⟨z,y,vs,r,ob,es,ep,e,c⟩:=x;exact ⟨z,y,vs,r,ob,es,ep,k _ _ (.inl rfl) e,c⟩
 | dT kvs =>
  obtain ⟨z,y,xs,r,ob,es,ep,e,c⟩:=x
  exact ⟨z,y,xs,Paired.mapP r fun p q z=>⟨z.1,ht _ _ z.2.1,z.2.2⟩,ob,es,ep,k _ _ (.inl rfl) e,c⟩
 | set S n=>obtain ⟨ob,es,ep,t,e,c⟩:=x;exact ⟨ob,es,ep,t,k _ _ (.inl rfl) e,c⟩
 | ins C dx fs =>
  obtain ⟨d,z,ne,e,mA,⟨od,es,ep,e2,c⟩,r⟩:=x
  exact ⟨ho _ d,z,ne,k _ _ (.inl rfl) e,mA,⟨od,es,ep,k _ _ (.inr d) e2,c⟩,r⟩
 | own y=>obtain ⟨ob,e⟩:=x;exact ⟨ob,k _ _ (.inl rfl) e⟩
 | xd fs=>obtain ⟨mA,⟨od,es,ep,e,c⟩,r⟩:=x;exact ⟨mA,⟨od,es,ep,k _ _ (.inl rfl) e,c⟩,r⟩
 | rng lo hi=>obtain ⟨t,u,v,e⟩:=x;exact ⟨t,u,v,k _ _ (.inl rfl) e⟩
 | frz ob u ih=>obtain ⟨e,q⟩:=x;exact ⟨k _ _ (.inl rfl) e,ih q⟩
 | tbl q p =>
  obtain ⟨ps,e,z⟩:=x
  refine ⟨ps,k a _ (.inl rfl) e,?_⟩
  rcases z with z | ⟨c',z1,z2,z3⟩
  ·exact .inl z
  ·obtain ⟨c,oc,vs,tq,hc,hoc,hdc,hq⟩:=z3
   have hc':c'=c:=by injection hc
   exact .inr ⟨c',z1,ho _ z2,c,oc,vs,tq,hc,k _ _ (.inr (hc' ▸ z2)) hoc,hdc,hq⟩
 | met f y =>
  have e:h.get? a=some (PySem.W.methodObj (.ref f) (.ref y)):=x
  show h'.get? a=some (PySem.W.methodObj (.ref f) (.ref y))
  exact k a _ (.inl rfl) e
 | ext φ=>obtain ⟨p,⟨o,e⟩,st⟩:=x;exact ⟨st _ _ p fun o q=>k _ _ (.inl rfl) q,⟨o,k _ _ (.inl rfl) e⟩,st⟩
theorem HOk.lt (x:HOk P w H h) (e:H a=some o):a < h.objs.size:=(x a o e).lt
theorem HOk.fresh (x:HOk P w H h) (e:h.objs.size ≤ a):H a=none:=by
 cases q:H a with
 | none=>rfl
 | some u=>exact absurd (bQ (x.lt q) e) (iM _)
theorem HOk.kept (x:HOk P w H h) (k:∀ b u,h.get? b=some u→h'.get? b=some u):HOk P w H h':=fun a o e =>
 (x a o e).stay (fun b u _ q=>k b u q) (fun _ q=>q) fun _ _ q=>q
theorem HOk.laid (x:HOk P w H h) (k:∀ b u,h.get? b=some u→h'.get? b=some u) (hp:h.objs.size ≤ a) (new:gB P w (upd H a o) h' a o):HOk P w (upd H a o) h':=fun b u e=>by
 have hn:=x.fresh hp
 by_cases hb:b=a
 ·subst hb;rw [d7] at e;cases e;exact new
 ·rw [cM hb] at e
  exact (x b u e).stay (fun c v _ q=>k c v q) (fun c q=>by rw [cM (i_ q hn)];exact q) fun c xs q=>by rw [cM (i_ q hn)];exact q
end
def Rd (H:Hp) (a:Addr) (u:HO):Prop:=H a=some u∨∃ o,H a=some (.frz o u)
theorem Rd.ok {P:Program} {w:World} {H:Hp} {h:Heap} {a:Addr} {u:HO} (r:Rd H a u) (x:HOk P w H h):gB P w H h a u:=by
 rcases r with r | ⟨o,r⟩
 ·exact x a u r
 ·obtain ⟨_,q⟩:=x a _ r
  exact q
def Mut:Option HO→Prop
 | some (.lst _)=>True
 | some (.dK _)=>True
 | some (.dT _)=>True
 | some (.set _ _)=>True
 | some (.ins _ _ _)=>True
 | some (.ext _)=>True
 | _=>False
section
variable {P:Program} {w:World} {H:Hp} {h h':Heap} {x e:Addr} {o':HO}
theorem HOk.write (ok:HOk P w H h) (mu:Mut (H x)) (he:e=x∨H e=some (.own x)) (k:∀ b u,b ≠ e→h.get? b=some u→h'.get? b=some u) (heo:∃ u,h'.get? e=some u)
 (new:gB P w (upd H x o') h' x o'):HOk P w (upd H x o') h':=fun b u q=>by
 have nown:∀ c y,H c=some (.own y)→c ≠ x:=fun c y r z=>by subst z;rw [r] at mu;exact mu
 have ntup:∀ c xs,H c=some (.tup xs)→c ≠ x:=fun c xs r z=>by subst z;rw [r] at mu;exact mu
 by_cases hb:b=x
 ·subst hb;rw [d7] at q;cases q;exact new
 ·rw [cM hb] at q
  by_cases hbe:b=e
  ·have q':H b=some (.own x):=by
    rcases he with z | z
    ·exact absurd (hbe.trans z) hb
    ·rw [hbe];exact z
   rw [q] at q';cases q'
   obtain ⟨v,hv⟩:=heo
   exact ⟨v,by rw [hbe];exact hv⟩
  ·refine (ok b u q).stay (fun c v hc r=>k c v ?_ r) (fun c r=>by rw [cM (nown c b r)];exact r) fun c xs r=>by rw [cM (ntup c xs r)];exact r
   rcases hc with rfl | hc
   ·exact hbe
   ·rintro rfl
    rcases he with z | z
    ·exact nown c b hc z
    ·rw [hc] at z;cases z;exact hb rfl
end
structure Un (fs ex:List Addr) (H H':Hp) (h h':Heap):Prop where
 keep:∀ b o,h.get? b=some o→H b=none→b ∉ fs→b ∉ ex→h'.get? b=some o
 slot:∀ b o,h.get? b=some o→H b=none→b ∈ fs→b ∉ ex→∃ sl,h'.get? b=some { o with slots:=sl }
 free:∀ b o,h.get? b=some o→H b=none→b ∉ ex→H' b=none
 there:∀ b o,h.get? b=some o→b ∉ ex→∃ o',h'.get? b=some o'
 tups:∀ b xs,H b=some (.tup xs)→H' b=some (.tup xs)
 frzs:∀ b o u,H b=some (.frz o u)→H' b=some (.frz o u)
 tbls:∀ b q p,H b=some (.tbl q p)→H' b=some (.tbl q p)
section
variable {fs fs' ex ex':List Addr} {H H1 H2:Hp} {h h1 h2 h':Heap} {a x e:Addr} {o:HO}
theorem Un.any (u:Un fs ex H H1 h h1) {b:Addr} {ob:Obj} (q:h.get? b=some ob) (n:H b=none) (hx:b ∉ ex):∃ sl,h1.get? b=some { ob with slots:=sl }:=by
 by_cases hb:b ∈ fs
 ·exact u.slot b ob q n hb hx
 ·exact ⟨ob.slots,u.keep b ob q n hb hx⟩
theorem Un.kept (k:∀ b u,h.get? b=some u→h'.get? b=some u):Un fs ex H H h h' :=
 ⟨fun b ob q _ _ _=>k b ob q,fun b ob q _ _ _=>⟨ob.slots,k b ob q⟩,fun _ _ _ n _=>n,fun b ob q _=>⟨ob,k b ob q⟩,fun _ _ q=>q,fun _ _ _ q=>q,fun _ _ _ q=>q⟩
theorem Un.refl:Un fs ex H H h h:=Un.kept fun _ _ q=>q
theorem Un.laid (k:∀ b u,h.get? b=some u→h'.get? b=some u) (hp:h.objs.size ≤ a) (hn:H a=none):Un fs ex H (upd H a o) h h' where
 keep:=fun b u q _ _ _=>k b u q
 slot:=fun b u q _ _ _=>⟨u.slots,k b u q⟩
 free:=fun b u q n _=>by rw [cM (bL (bQ (Heap.lt_size q) hp))];exact n
 there:=fun b u q _=>⟨u,k b u q⟩
 tups:=fun b xs q=>by rw [cM (i_ q hn)];exact q
 frzs:=fun b u xs q=>by rw [cM (i_ q hn)];exact q
 tbls:=fun b q p e=>by rw [cM (i_ e hn)];exact e
theorem Un.write (mu:Mut (H x)) (he:e=x∨H e=some (.own x)) (k:∀ b u,b ≠ e→h.get? b=some u→h'.get? b=some u) (heo:∃ u,h'.get? e=some u):Un fs ex H (upd H x o) h h':=by
 have hx:∀ b,H b=none→b ≠ x:=fun b n z=>by subst z;rw [n] at mu;exact mu
 have hb:∀ b,H b=none→b ≠ e:=fun b n z=>by
  subst z
  rcases he with r | r
  ·exact hx b n r
  ·rw [n] at r;cases r
 have hm:∀ b u,H b=some u→¬ Mut (some u)→b ≠ x:=fun b u q nm z=>by subst z;rw [q] at mu;exact nm mu
 refine ⟨fun b u q n _ _=>k b u (hb b n) q,fun b u q n _ _=>⟨u.slots,k b u (hb b n) q⟩,fun b u q n _=>by rw [cM (hx b n)];exact n,fun b u q _=>?_,
  fun b xs q=>by rw [cM (hm b _ q fun z=>z)];exact q,fun b u xs q=>by rw [cM (hm b _ q fun z=>z)];exact q,fun b q p e=>by rw [cM (hm b _ e fun z=>z)];exact e⟩
 by_cases hbe:b=e
 ·subst hbe;exact heo
 ·exact ⟨u,k b u hbe q⟩
end
def trk (h:Heap) (H:Hp):List Addr:=(aN h.objs.size).filter fun a=>(H a).isSome
def xT (h:Heap) (H:Hp):Heap:=PySem.W.hideAll h (trk h H)
theorem Et (h:Heap) (H:Hp):(xT h H).objs.size=h.objs.size:=PySem.W.hideAll_size _ _
theorem G4 {h:Heap} {H:Hp} {b:Addr} {o:Obj} (e:h.get? b=some o) (n:H b=none):(xT h H).get? b=some o :=
 PySem.W.hideAll_get _ e fun hm=>by
  have q:(H b).isSome=true:=(dg.mp hm).2
  rw [n] at q;simp at q
theorem Ky {h:Heap} {H:Hp} {b:Addr} {o:Obj} (e:(xT h H).get? b=some o):h.get? b=some o∧H b=none:=by
 have e':h.get? b=some o:=PySem.W.of_hideAll (trk h H) e
 refine ⟨e',?_⟩
 cases q:H b with
 | none=>rfl
 | some x =>
  have hm:b ∈ trk h H:=dg.mpr ⟨cA.mpr (Heap.lt_size e'),by simp [q]⟩
  have z:(xT h H).get? b=none:=PySem.W.hideAll_none (trk h H) hm
  rw [z] at e;cases e
def mK (g h:Heap) (L:Addr):List (Addr × Obj):=(aN h.objs.size).filterMap fun a=>if a=L∨(g.get? a).isSome=true then none else (h.get? a).map fun o=>(a,o)
theorem zq {g h:Heap} {L a:Addr} {o:Obj} (h1:a ≠ L) (h2:g.get? a=none) (h3:h.get? a=some o):(a,o) ∈ mK g h L :=
 gw.mpr ⟨a,cA.mpr (Heap.lt_size h3),by simp [h1,h2,h3]⟩
theorem uy {g h:Heap} {L:Addr} {p:Addr × Obj} (hp:p ∈ mK g h L):p.1 ≠ L∧g.get? p.1=none∧h.get? p.1=some p.2:=by
 obtain ⟨b,_,e⟩:=gw.mp hp
 split at e
 ·cases e
 ·rename_i hn
  cases q:h.get? b with
  | none=>rw [q] at e;simp at e
  | some u =>
   rw [q] at e
   simp only [fV,cX.injEq] at e
   subst e
   refine ⟨fun z=>hn (.inl z),?_,q⟩
   show g.get? b=none
   cases r:g.get? b with
   | none=>rfl
   | some v=>exact (hn (.inr (by simp [r]))).elim
theorem zu {g h:Heap} {L:Addr}:News g L h (mK g h L):=fun p hp=>let ⟨a,b,c⟩:=uy hp;⟨c,a,b⟩
end L2
namespace L2
open PySem PySem.Spec PyProof.Rows
structure Mod (K:PySem.W.Frag) (mg:Str→Option Value) (base:Heap):Prop where
 kin:K.In base
 glob:base.Ns mainGlobals mg
 blt:∃ mb,base.Ns builtinsNs mb∧∀ x:Str,x ≠ "__name__" → mb x=bootBuiltins x
 nolimit:base.NoLimit
 bm:∃ bm ob,mg "__builtins__" = some (.ref bm)∧bm ≠ builtinsNs∧base.get? bm=some ob∧ob.cls = .type "module" ∧ ob.dict=some builtinsNs∧ob.data = .plain
structure Cx where
 prog:Program
 w:World
 K:PySem.W.Frag
 mg:Str→Option Value
 base:Heap
 A:Around
 N:List Str
 s₀:Shared
 H₀:Hp
 env:Env
 outer:List Env
 stack:List Env
 ex:List Addr
 fn:Str→Bool
 calm:Bool
 pn:List (Addr × Obj)
 xe:Value→Shared→Prop
def frs (l:List Env):List Addr:=l.filterMap (·.frame)
abbrev Cx.fs (X:Cx):List Addr:=frs X.outer
def Vis (sc:Scope) (x:Str):Prop:=sc.names.lookup x=some .local∨sc.names.lookup x=some .cell∨sc.names.lookup x=some .free
def Loc (sc:Scope) (x:Str):Prop:=sc.names.lookup x=some .local∨sc.names.lookup x=some .cell
def Look (env:Env) (h:Heap) (m:Str→Option Value) (x:Str) (u:Value):Prop :=
 (env.kindOf x=some .local∧m x=some u)∨((env.kindOf x=some .cell∨env.kindOf x=some .free)∧∃ c,env.cells.lookup x=some c∧h.IsCell c (some u))
structure Cx.Ok (X:Cx):Prop where
 mod:Mod X.K X.mg X.base
 kind:X.env.scope.kind = .function
 glob:X.env.globals=mainGlobals
 blt:X.env.builtins=builtinsNs
 above:X.s₀.heap.objs.size ≤ X.env.locals
 inj:∀ x y c,X.env.cells.lookup x=some c→X.env.cells.lookup y=some c→x=y
 has:∀ x,(X.env.kindOf x=some .cell∨X.env.kindOf x=some .free)→∃ c,X.env.cells.lookup x=some c
 cab:∀ x c,X.fn x=true→X.env.cells.lookup x=some c→X.s₀.heap.objs.size ≤ c
 hd:X.calm=true→X.A.handled=none
 frames:X.A.frames=some X.stack
 stk:X.stack=X.outer∨(X.stack=X.env :: X.outer∧X.env.frame=some X.env.locals)
 exf:∀ b ∈ X.ex,b ≠ X.env.locals∧∀ x c,X.env.cells.lookup x=some c→c ≠ b
 bs:∀ b o,X.base.get? b=some o→X.s₀.heap.get? b=some o∧X.H₀ b=none
 bsz:X.base.objs.size ≤ X.s₀.heap.objs.size
 noex:∀ b o,X.base.get? b=some o→b ∉ X.ex
 exfs:∀ b ∈ X.ex,b ∉ X.fs
 funs:X.s₀.heap.FunFrames X.base X.outer
 frf:∀ b ∈ X.fs,X.H₀ b=none
structure Inv (X:Cx) (pins:List (Addr × Obj)) (σ:List (Option V)) (H:Hp) (s:Shared):Prop where
 ok:X.Ok
 os:s.os=X.s₀.os
 bare:AllBare s.gens
 base:Un X.fs X.ex X.H₀ H X.s₀.heap s.heap
 loc:∃ m,s.heap.Ns X.env.locals m∧∀ (i:Nat) (x:Str) (v:V),X.N[i]? = some x→σ[i]? = some (some v)→Vis X.env.scope x→∃ u,RelV v u∧Look X.env s.heap m x u
 cell:∀ x c,X.env.cells.lookup x=some c→∃ v,s.heap.IsCell c v
 free:H X.env.locals=none
 freeC:∀ x c,X.env.cells.lookup x=some c→H c=none
 pin:∀ p ∈ X.pn++pins,s.heap.get? p.1=some p.2∧H p.1=none∧p.1 ≠ X.env.locals∧p.1 ∉ X.fs∧∀ v,p.2.data ≠ .cell v
 hok:HOk X.prog X.w H s.heap
 len:σ.length=X.N.length
section
variable {X:Cx} {pins:List (Addr × Obj)} {σ:List (Option V)} {H H':Hp} {s:Shared} {h':Heap}
theorem Cx.Ok.nofr (ok:X.Ok) {b:Addr} {o:Obj} (e:X.base.get? b=some o):b ∉ X.fs:=fun hb=>by
 have:=(ok.funs.mem hb).1
 rw [e] at this;cases this
theorem Inv.bs (I:Inv X pins σ H s):∀ b o,X.base.get? b=some o→s.heap.get? b=some o∧H b=none:=fun b o e =>
 ⟨I.base.keep b o (I.ok.bs b o e).1 (I.ok.bs b o e).2 (I.ok.nofr e) (I.ok.noex b o e),I.base.free b o (I.ok.bs b o e).1 (I.ok.bs b o e).2 (I.ok.noex b o e)⟩
theorem Inv.bk (I:Inv X pins σ H s):∀ b o,X.base.get? b=some o→s.heap.get? b=some o:=fun b o e=>(I.bs b o e).1
theorem Inv.mod (I:Inv X pins σ H s):Mod X.K X.mg X.base:=I.ok.mod
theorem Inv.kIn (I:Inv X pins σ H s):X.K.In s.heap:=I.ok.mod.kin.keeps I.bk
theorem Inv.lt (I:Inv X pins σ H s):X.env.locals < s.heap.objs.size:=let ⟨_,hn,_⟩:=I.loc;hn.lt
theorem Inv.sz (I:Inv X pins σ H s):X.s₀.heap.objs.size ≤ s.heap.objs.size:=bV I.ok.above (h_ I.lt)
theorem Inv.nofs (I:Inv X pins σ H s) {a:Addr} (h:s.heap.objs.size ≤ a):a ∉ X.fs:=fun hb=>by
 obtain ⟨_,o,ho,_⟩:=I.ok.funs.mem hb
 exact absurd (bQ (Heap.lt_size ho) (bV I.sz h)) (iM _)
theorem Inv.cne (I:Inv X pins σ H s):∀ x c,X.env.cells.lookup x=some c→c ≠ X.env.locals:=fun x c e z=>by
 obtain ⟨v,o,ho,hd⟩:=I.cell x c e
 obtain ⟨m,⟨o',es,ep,ho',hd',_⟩,_⟩:=I.loc
 rw [z,ho'] at ho;cases ho;rw [hd'] at hd;cases hd
theorem Inv.funs (I:Inv X pins σ H s):s.heap.FunFrames X.base X.outer:=by
 have all:∀ (l:List Env),(∀ b ∈ frs l,b ∈ X.fs)→X.s₀.heap.FunFrames X.base l→s.heap.FunFrames X.base l:=by
  intro l
  induction l with
  | nil=>intro _ _;trivial
  | cons env r ih =>
   intro hs hl
   obtain ⟨hk,⟨L,o,hf,hn,ho,hd⟩,hr⟩:=hl
   have hL:L ∈ X.fs:=hs L (by unfold frs;rw [cg,hf];exact aG)
   obtain ⟨sl,e⟩:=I.base.slot L o ho (I.ok.frf L hL) hL fun z=>I.ok.exfs L z hL
   exact ⟨hk,⟨L,_,hf,hn,e,hd⟩,ih (fun b hb=>hs b (by unfold frs;rw [cg,hf];exact aF _ hb)) hr⟩
 exact all X.outer (fun _ hb=>hb) I.ok.funs
theorem Inv.stack (I:Inv X pins σ H s):s.heap.FunFrames X.base X.stack:=by
 rcases I.ok.stk with e | ⟨e,hf⟩
 ·rw [e];exact I.funs
 ·rw [e]
  obtain ⟨m,hn,_⟩:=I.loc
  refine .cons (by rw [I.ok.kind];decide) hf hn ?_ I.funs
  exact Heap.get?_none_of_le (bV I.ok.bsz I.ok.above)
theorem Inv.stkSub (I:Inv X pins σ H s):∀ b ∈ frs X.stack,b ∈ X.env.locals :: X.fs:=fun b hb=>by
 rcases I.ok.stk with e | ⟨e,hf⟩
 ·rw [e] at hb;exact aF _ hb
 ·rw [e] at hb
  unfold frs at hb
  rw [cg,hf] at hb
  exact hb
theorem Inv.stkFree (I:Inv X pins σ H s):∀ b ∈ frs X.stack,H b=none:=fun b hb=>by
 rcases aO.mp (I.stkSub b hb) with e | hb
 ·rw [e];exact I.free
 ·obtain ⟨_,o,ho,_⟩:=I.ok.funs.mem hb
  exact I.base.free b o ho (I.ok.frf b hb) fun z=>I.ok.exfs b z hb
theorem Inv.step {g':Array GenState} {t':Nat} {d':Drawn} {ch:List Addr} (I:Inv X pins σ H s)
 (hch:∀ b ∈ ch,(b ∈ X.ex∨X.s₀.heap.objs.size ≤ b)∧b ≠ X.env.locals∧(∀ x c,X.env.cells.lookup x=some c→c ≠ b)∧∀ p ∈ X.pn++pins,p.1 ≠ b)
 (keep:∀ b o,b ≠ X.env.locals→b ∉ X.fs→b ∉ ch→s.heap.get? b=some o→H b=none→h'.get? b=some o)
 (slot:∀ b o,b ≠ X.env.locals→b ∈ X.fs→b ∉ ch→s.heap.get? b=some o→H b=none→∃ sl,h'.get? b=some { o with slots:=sl }) (free:∀ b o,b ∉ ch→s.heap.get? b=some o→H b=none→H' b=none)
 (there:∀ b o,b ∉ ch→s.heap.get? b=some o→∃ o',h'.get? b=some o')
 (tups:∀ b xs,H b=some (.tup xs)→H' b=some (.tup xs)) (frzs:∀ b o u,H b=some (.frz o u)→H' b=some (.frz o u)) (tbls:∀ b q p,H b=some (.tbl q p)→H' b=some (.tbl q p))
 (ns:∀ m,s.heap.Ns X.env.locals m→h'.Ns X.env.locals m) (hok:HOk X.prog X.w H' h') (hg:AllBare g') :
 Inv X pins σ H' { s with heap:=h',gens:=g',drawn:=d',toks:=t' }:=by
 have neL:∀ b o,X.s₀.heap.get? b=some o→b ≠ X.env.locals:=fun b o e=>bL (bQ (Heap.lt_size e) I.ok.above)
 have neC:∀ b o,X.s₀.heap.get? b=some o→b ∉ X.ex→b ∉ ch:=fun b o e hx hb=>by
  rcases (hch b hb).1 with z | z
  ·exact hx z
  ·exact absurd (bQ (Heap.lt_size e) z) (iM _)
 have cellK:∀ x c,X.env.cells.lookup x=some c→∀ v,s.heap.IsCell c v→h'.IsCell c v:=fun x c e v ⟨o,ho,hd⟩=>by
  have nch:c ∉ ch:=fun z=>(hch c z).2.2.1 x c e rfl
  by_cases hc:c ∈ X.fs
  ·obtain ⟨sl,q⟩:=slot c o (I.cne x c e) hc nch ho (I.freeC x c e)
   exact ⟨_,q,hd⟩
  ·exact ⟨o,keep c o (I.cne x c e) hc nch ho (I.freeC x c e),hd⟩
 refine ⟨I.ok,I.os,hg,⟨fun b o e n hb hx=>?_,fun b o e n hb hx=>?_,fun b o e n hx=>?_,fun b o e hx=>?_,fun b xs e=>tups b xs (I.base.tups b xs e),fun b o xs e=>frzs b o xs (I.base.frzs b o xs e),fun b q p e=>tbls b q p (I.base.tbls b q p e)⟩,?_,fun x c e=>?_,?_,fun x c e=>?_,fun p hp=>?_,hok,I.len⟩
 ·exact keep b o (neL b o e) hb (neC b o e hx) (I.base.keep b o e n hb hx) (I.base.free b o e n hx)
 ·obtain ⟨sl,e1⟩:=I.base.slot b o e n hb hx
  obtain ⟨sl',e2⟩:=slot b _ (neL b o e) hb (neC b o e hx) e1 (I.base.free b o e n hx)
  exact ⟨sl',e2⟩
 ·obtain ⟨o',e1⟩:=I.base.there b o e hx
  exact free b o' (neC b o e hx) e1 (I.base.free b o e n hx)
 ·obtain ⟨o',e1⟩:=I.base.there b o e hx
  exact there b o' (neC b o e hx) e1
 ·obtain ⟨m,hn,hl⟩:=I.loc
  refine ⟨m,ns m hn,fun i x v e1 e2 e3=>?_⟩
  obtain ⟨u,r,l⟩:=hl i x v e1 e2 e3
  refine ⟨u,r,?_⟩
  rcases l with l | ⟨k,c,e,z⟩
  ·exact .inl l
  ·exact .inr ⟨k,c,e,cellK x c e _ z⟩
 ·obtain ⟨v,z⟩:=I.cell x c e
  exact ⟨v,cellK x c e v z⟩
 ·obtain ⟨m,⟨o,_,_,ho,_⟩,_⟩:=I.loc
  exact free _ o (fun z=>(hch _ z).2.1 rfl) ho I.free
 ·obtain ⟨v,o,ho,hd⟩:=I.cell x c e
  exact free c o (fun z=>(hch c z).2.2.1 x c e rfl) ho (I.freeC x c e)
 ·obtain ⟨e,n,ne,nf,d⟩:=I.pin p hp
  have nch:p.1 ∉ ch:=fun z=>(hch p.1 z).2.2.2 p hp rfl
  exact ⟨keep p.1 p.2 ne nf nch e n,free p.1 p.2 nch e n,ne,nf,d⟩
theorem Inv.un {t':Nat} (I:Inv X pins σ H s) (u:Un X.fs [] H H' s.heap h') (hok:HOk X.prog X.w H' h'):Inv X pins σ H' { s with heap:=h',toks:=t' }:=by
 obtain ⟨m,⟨o,es,ep,ho,r⟩,_⟩:=id I.loc
 obtain ⟨sl,hL⟩:=u.any ho I.free (by simp)
 exact I.step (g':=s.gens) (d':=s.drawn) (ch:=[]) (fun _ z=>nomatch z) (fun b o _ hb _ e n=>u.keep b o e n hb (by simp)) (fun b o _ hb _ e n=>u.slot b o e n hb (by simp)) (fun b o _ e n=>u.free b o e n (by simp)) (fun b o _ e=>u.there b o e (by simp)) u.tups u.frzs u.tbls (fun m' hm=>by
  obtain ⟨o',es',ep',ho',r'⟩:=hm
  rw [ho] at ho';cases ho'
  exact ⟨_,es',ep',hL,r'⟩) hok I.bare
theorem Inv.call {g':Array GenState} {t':Nat} {d':Drawn} {ch:List Addr} (I:Inv X pins σ H s) (u:Un (frs X.stack) ch H H' s.heap h') (hok:HOk X.prog X.w H' h') (hg:AllBare g')
 (hch:∀ b ∈ ch,(b ∈ X.ex∨X.s₀.heap.objs.size ≤ b)∧b ≠ X.env.locals∧(∀ x c,X.env.cells.lookup x=some c→c ≠ b)∧∀ p ∈ X.pn++pins,p.1 ≠ b) :
 Inv X pins σ H' { s with heap:=h',gens:=g',drawn:=d',toks:=t' }:=by
 obtain ⟨m,⟨o,es,ep,ho,r⟩,_⟩:=id I.loc
 obtain ⟨sl,hL⟩:=u.any ho I.free fun z=>(hch _ z).2.1 rfl
 exact I.step (ch:=ch) hch (fun b o hL hb hc e n=>u.keep b o e n (fun z=>(aO.mp (I.stkSub b z)).elim hL hb) hc) (fun b o _ _ hc e n=>u.any e n hc) (fun b o hc e n=>u.free b o e n hc) (fun b o hc e=>u.there b o e hc) u.tups u.frzs u.tbls (fun m' hm=>by
  obtain ⟨o',es',ep',ho',r'⟩:=hm
  rw [ho] at ho';cases ho'
  exact ⟨_,es',ep',hL,r'⟩) hok hg
theorem Inv.turned {t':Nat} {it:Addr} (I:Inv X pins σ H s) (k:∀ b o,b ≠ it→s.heap.get? b=some o→h'.get? b=some o) (hn:H it=none) (hL:it ≠ X.env.locals)
 (h1:it ∈ X.ex∨X.s₀.heap.objs.size ≤ it) (h2:∀ x c,X.env.cells.lookup x=some c→c ≠ it) (h3:∀ p ∈ X.pn++pins,p.1 ≠ it):Inv X pins σ H { s with heap:=h',toks:=t' }:=by
 have nit:∀ b u,H b=some u→b ≠ it:=fun b u e z=>by rw [z,hn] at e;cases e
 refine I.step (g':=s.gens) (d':=s.drawn) (ch:=[it]) (fun b hb=>?_) (fun b o _ _ hc e _=>k b o (fun z=>hc (by simp [z])) e) (fun b o _ _ hc e _=>⟨o.slots,k b o (fun z=>hc (by simp [z])) e⟩) (fun _ _ _ _ n=>n)
  (fun b o hc e=>⟨o,k b o (fun z=>hc (by simp [z])) e⟩) (fun _ _ e=>e) (fun _ _ _ e=>e) (fun _ _ _ e=>e) (fun m hm=>?_) (fun b u e=>?_) I.bare
 ·have e:b=it:=by simpa using hb
  subst e
  exact ⟨h1,hL,h2,h3⟩
 ·obtain ⟨o,es,ep,ho,r⟩:=hm
  exact ⟨o,es,ep,k _ o (Ne.symm hL) ho,r⟩
 ·refine (I.hok b u e).stay (fun c v hc q=>k c v ?_ q) (fun _ q=>q) fun _ _ q=>q
  rcases hc with z | z
  ·rw [z];exact nit b u e
  ·exact nit c _ z
theorem Inv.tok (I:Inv X pins σ H s) (t:Nat):Inv X pins σ H { s with toks:=t }:=I.un (h':=s.heap) (t':=t) Un.refl I.hok
theorem Inv.kept {t':Nat} (I:Inv X pins σ H s) (k:∀ b u,s.heap.get? b=some u→h'.get? b=some u):Inv X pins σ H { s with heap:=h',toks:=t' }:=I.un (Un.kept k) (I.hok.kept k)
theorem Inv.laid {a:Addr} {o:HO} {t':Nat} (I:Inv X pins σ H s) (k:∀ b u,s.heap.get? b=some u→h'.get? b=some u) (hp:s.heap.objs.size ≤ a) (new:gB X.prog X.w (upd H a o) h' a o) :
 Inv X pins σ (upd H a o) { s with heap:=h',toks:=t' }:=I.un (Un.laid k hp (I.hok.fresh hp)) (I.hok.laid k hp new)
theorem Inv.write {x e:Addr} {o:HO} {t':Nat} (I:Inv X pins σ H s) (mu:Mut (H x)) (he:e=x∨H e=some (.own x)) (k:∀ b u,b ≠ e→s.heap.get? b=some u→h'.get? b=some u) (heo:∃ u,h'.get? e=some u)
 (new:gB X.prog X.w (upd H x o) h' x o):Inv X pins σ (upd H x o) { s with heap:=h',toks:=t' }:=I.un (Un.write mu he k heo) (I.hok.write mu he k heo new)
theorem Inv.pins_of {pins':List (Addr × Obj)} (I:Inv X pins σ H s) (h:∀ p ∈ pins',s.heap.get? p.1=some p.2∧H p.1=none∧p.1 ≠ X.env.locals∧p.1 ∉ X.fs∧∀ v,p.2.data ≠ .cell v):Inv X pins' σ H s :=
 ⟨I.ok,I.os,I.bare,I.base,I.loc,I.cell,I.free,I.freeC,fun p hp=>(bM.mp hp).elim (fun z=>I.pin p (bF _ z)) (h p),I.hok,I.len⟩
theorem uz {N:List Str} (hN:N.Nodup) {i j:Nat} {x:Str} (a:N[i]? = some x) (b:N[j]? = some x):i=j:=by
 obtain ⟨h1,e1⟩:=dO.mp a
 obtain ⟨h2,e2⟩:=dO.mp b
 exact (List.getElem_inj hN).mp (e1.trans e2.symm)
theorem wu {M:Model} {A:Around} {E:Value→Shared→Prop} {i:Nat} {x:Str} {v:V} {u:Value} {Q:Unit→Shared→Prop} (I:Inv X pins σ H s) (hN:X.N.Nodup) (hi:X.N[i]? = some x) (hx:Loc X.env.scope x) (r:RelV v u)
 (h:∀ s',Inv X pins (σ.set i (some v)) H s'→(∃ a,Heap.SameBut a s.heap s'.heap∧(a=X.env.locals∨X.env.cells.lookup x=some a))→Q () s') (hf:X.fn x=true∨X.env.scope.names.lookup x=some .local:=by first | exact .inl rfl | exact .inr rfl | assumption):wpAny M A (storeName X.env x u) Q E s:=by
 obtain ⟨m,hn,hl⟩:=id I.loc
 have hcls:(X.env.scope.kind == .class || (X.env.scope.kind == .module && X.env.locals != X.env.globals))=false:=by rw [I.ok.kind];rfl
 have hiσ:i < σ.length:=by rw [I.len];exact (dO.mp hi).1
 have cne:=I.cne
 have tracked:∀ {a:Addr} {h':Heap},(∃ o,s.heap.get? a=some o∧H a=none)→Heap.SameBut a s.heap h'→HOk X.prog X.w H h':=fun {a h'} ha hs b ob e=>by
  obtain ⟨_,_,hfree⟩:=ha
  refine (I.hok b ob e).stay (fun c w' hc q=>(hs.2 c ?_).trans q) (fun _ q=>q) fun _ _ q=>q
  rintro rfl
  rcases hc with rfl | hc
  ·rw [hfree] at e;cases e
  ·rw [hfree] at hc;cases hc
 rcases hx with hk | hk
 ·refine wpAny_storeName_local hk hn (fun h' hn' hs=>?_) hcls
  obtain ⟨oL,_,_,hoL,_⟩:=id hn
  refine h _ ⟨I.ok,I.os,I.bare,⟨fun b o e n hb hx=>?_,fun b o e n hb hx=>?_,I.base.free,fun b o e hx=>?_,I.base.tups,I.base.frzs,I.base.tbls⟩,⟨_,hn',fun j y v' e1 e2 e3=>?_⟩,fun y c e=>?_,I.free,I.freeC,fun p hp=>?_,tracked ⟨oL,hoL,I.free⟩ hs,by simpa using I.len⟩ ⟨_,hs,.inl rfl⟩
  ·exact (hs.2 b (bL (bQ (Heap.lt_size e) I.ok.above))).trans (I.base.keep b o e n hb hx)
  ·obtain ⟨sl,e1⟩:=I.base.slot b o e n hb hx
   exact ⟨sl,(hs.2 b (bL (bQ (Heap.lt_size e) I.ok.above))).trans e1⟩
  ·obtain ⟨o',e1⟩:=I.base.there b o e hx
   exact ⟨o',(hs.2 b (bL (bQ (Heap.lt_size e) I.ok.above))).trans e1⟩
  ·by_cases hj:j=i
   ·subst hj
    rw [hi] at e1;cases e1
    rw [cj hiσ] at e2
    cases e2
    exact ⟨u,r,.inl ⟨hk,by simp⟩⟩
   ·rw [aV (Ne.symm hj)] at e2
    obtain ⟨u',r',q⟩:=hl j y v' e1 e2 e3
    refine ⟨u',r',?_⟩
    rcases q with ⟨k,e⟩ | ⟨k,c,e,z⟩
    ·refine .inl ⟨k,?_⟩
     have:y ≠ x:=fun e=>hj (uz hN e1 (e ▸ hi))
     simp [this,e]
    ·exact .inr ⟨k,c,e,z.sameBut hs (cne y c e)⟩
  ·obtain ⟨w',z⟩:=I.cell y c e
   exact ⟨w',z.sameBut hs (cne y c e)⟩
  ·obtain ⟨e,n,ne,nf,d⟩:=I.pin p hp
   exact ⟨(hs.2 p.1 ne).trans e,n,ne,nf,d⟩
 ·have hfn:X.fn x=true:=by
   rcases hf with z | z
   ·exact z
   ·rw [z] at hk;cases hk
  obtain ⟨c,hc⟩:=I.ok.has x (.inl hk)
  obtain ⟨w',z⟩:=I.cell x c hc
  refine wpAny_storeName_cell I.ok.kind hk hc z (fun h' hc' hs=>?_)
  obtain ⟨oc,hoc,hocd⟩:=id z
  refine h { s with heap:=h' } ⟨I.ok,I.os,I.bare,⟨fun b o e n hb hx=>?_,fun b o e n hb hx=>?_,I.base.free,fun b o e hx=>?_,I.base.tups,I.base.frzs,I.base.tbls⟩,⟨m,hn.sameBut hs (Ne.symm (cne x c hc)),fun j y v' e1 e2 e3=>?_⟩,fun y c' e=>?_,I.free,I.freeC,fun p hp=>?_,tracked ⟨oc,hoc,I.freeC x c hc⟩ hs,by simpa using I.len⟩ ⟨c,hs,.inr hc⟩
  ·exact (hs.2 b (bL (bQ (Heap.lt_size e) (I.ok.cab x c hfn hc)))).trans (I.base.keep b o e n hb hx)
  ·obtain ⟨sl,e1⟩:=I.base.slot b o e n hb hx
   exact ⟨sl,(hs.2 b (bL (bQ (Heap.lt_size e) (I.ok.cab x c hfn hc)))).trans e1⟩
  ·obtain ⟨o',e1⟩:=I.base.there b o e hx
   exact ⟨o',(hs.2 b (bL (bQ (Heap.lt_size e) (I.ok.cab x c hfn hc)))).trans e1⟩
  ·by_cases hj:j=i
   ·subst hj
    rw [hi] at e1;cases e1
    rw [cj hiσ] at e2
    cases e2
    exact ⟨u,r,.inr ⟨.inl hk,c,hc,hc'⟩⟩
   ·rw [aV (Ne.symm hj)] at e2
    obtain ⟨u',r',q⟩:=hl j y v' e1 e2 e3
    refine ⟨u',r',?_⟩
    rcases q with q | ⟨k,c',e,z'⟩
    ·exact .inl q
    ·refine .inr ⟨k,c',e,z'.sameBut hs ?_⟩
     rintro rfl
     exact hj (uz hN e1 (I.ok.inj _ _ _ e hc ▸ hi))
  ·by_cases hcc:c'=c
   ·subst hcc;exact ⟨_,hc'⟩
   ·obtain ⟨w2,z2⟩:=I.cell y c' e
    exact ⟨w2,z2.sameBut hs hcc⟩
  ·obtain ⟨e,n,ne,nf,d⟩:=I.pin p hp
   refine ⟨(hs.2 p.1 ?_).trans e,n,ne,nf,d⟩
   intro q
   rw [q,hoc] at e
   have q':oc=p.2:=cX.inj e
   exact d w' (by rw [← q'];exact hocd)
theorem uD {M:Model} {A:Around} {E:Value→Shared→Prop} {i:Nat} {x:Str} {v:V} {u:Value} {Q:Unit→Shared→Prop} (I:Inv X pins σ H s) (hN:X.N.Nodup) (hi:X.N[i]? = some x) (hx:Loc X.env.scope x) (r:RelV v u)
 (h:∀ s',Inv X pins (σ.set i (some v)) H s'→Q () s') (hf:X.fn x=true∨X.env.scope.names.lookup x=some .local:=by first | exact .inl rfl | exact .inr rfl | assumption):wpAny M A (storeName X.env x u) Q E s :=
 wu I hN hi hx r (fun s' I' _=>h s' I') hf
theorem Inv.call' {s':Shared} {ch:List Addr} (I:Inv X pins σ H s) (ho:s'.os=s.os) (u:Un (frs X.stack) ch H H' s.heap s'.heap) (hok:HOk X.prog X.w H' s'.heap) (hg:AllBare s'.gens)
 (hch:∀ b ∈ ch,(b ∈ X.ex∨X.s₀.heap.objs.size ≤ b)∧b ≠ X.env.locals∧(∀ x c,X.env.cells.lookup x=some c→c ≠ b)∧∀ p ∈ X.pn++pins,p.1 ≠ b):Inv X pins σ H' s':=by
 obtain ⟨h',g',d',t',o'⟩:=s'
 have e:o'=s.os:=ho
 subst e
 exact I.call (g':=g') (t':=t') (d':=d') u hok hg hch
end
abbrev XK:=Value→Option Addr→Hp→Prop
abbrev St:=List (Option V)
abbrev VK:=V→Hp→Prop
abbrev TE:=St→Hp→VK→Prop
abbrev TT:=St→Hp→(Bool→Hp→Prop)→Prop
abbrev TA:=St→Hp→(List V→Hp→Prop)→Prop
structure Ends where
 nx:St→Hp→Prop
 rt:VK
 bk:St→Hp→Prop:=fun _ _=>False
 ct:St→Hp→Prop:=fun _ _=>False
abbrev TS:=Ends→St→Hp→Prop
def EP (X:Cx) (pins:List (Addr × Obj)) (σ:St) (Q:VK) (u:Value) (s':Shared):Prop:=∃ v H',Inv X pins σ H' s'∧RelV v u∧Q v H'
def TP (X:Cx) (pins:List (Addr × Obj)) (σ:St) (Q:Bool→Hp→Prop) (b:Bool) (s':Shared):Prop:=∃ H',Inv X pins σ H' s'∧Q b H'
def AP (X:Cx) (pins:List (Addr × Obj)) (σ:St) (Q:List V→Hp→Prop) (us:List Value) (s':Shared):Prop:=∃ vs H',Inv X pins σ H' s'∧Vals vs us∧Q vs H'
def SP (X:Cx) (pins:List (Addr × Obj)) (D:Ends) (f:Flow) (s':Shared):Prop :=
 match f with
 | .next=>∃ σ' H',Inv X pins σ' H' s'∧D.nx σ' H'
 | .brk=>∃ σ' H',Inv X pins σ' H' s'∧D.bk σ' H'
 | .cont=>∃ σ' H',Inv X pins σ' H' s'∧D.ct σ' H'
 | .ret u=>∃ v σ' H',Inv X pins σ' H' s'∧RelV v u∧D.rt v H'
def PE (X:Cx) (e:Expr) (t:TE):Prop :=
 ∀ (pins:List (Addr × Obj)) (s:Shared) (σ:St) (H:Hp) (Q:VK),Inv X pins σ H s→t σ H Q→wpAny (model X.prog X.w) X.A (eval e X.env) (EP X pins σ Q) X.xe s
def PT (X:Cx) (e:Expr) (t:TT):Prop :=
 ∀ (pins:List (Addr × Obj)) (s:Shared) (σ:St) (H:Hp) (Q:Bool→Hp→Prop),Inv X pins σ H s→t σ H Q→wpAny (model X.prog X.w) X.A (isTrue e X.env (eval e X.env)) (TP X pins σ Q) X.xe s
def PW (X:Cx) (e:Expr) (t:TT):Prop :=
 ∀ (whole:Sem Value) (pins:List (Addr × Obj)) (s:Shared) (σ:St) (H:Hp) (Q:Bool→Hp→Prop),Inv X pins σ H s→t σ H Q→wpAny (model X.prog X.w) X.A (isTrue e X.env whole) (TP X pins σ Q) X.xe s
theorem PW.pt {X:Cx} {e:Expr} {t:TT} (h:PW X e t):PT X e t:=h _
def PA (X:Cx) (es:List Expr) (t:TA):Prop :=
 ∀ (pos:Pos) (pins:List (Addr × Obj)) (s:Shared) (σ:St) (H:Hp) (Q:List V→Hp→Prop),Inv X pins σ H s→t σ H Q→wpAny (model X.prog X.w) X.A (spliced (backTo pos (starEach es X.env))) (AP X pins σ Q) X.xe s
def PS (X:Cx) (st:Stmt) (t:TS):Prop :=
 ∀ (pins:List (Addr × Obj)) (s:Shared) (σ:St) (H:Hp) (D:Ends),Inv X pins σ H s→t D σ H→wpAny (model X.prog X.w) X.A (exec st X.env) (SP X pins D) X.xe s
def PSs (X:Cx) (st:List Stmt) (t:TS):Prop :=
 ∀ (pins:List (Addr × Obj)) (s:Shared) (σ:St) (H:Hp) (D:Ends),Inv X pins σ H s→t D σ H→wpAny (model X.prog X.w) X.A (execs st X.env) (SP X pins D) X.xe s
theorem thn {α:Type} {t:Sem α} {Q Q':α→Shared→Prop} {M:Model} {A:Around} {E:Value→Shared→Prop} {s:Shared} (h:wpAny M A t Q E s) (hQ:∀ a s,Q a s→Q' a s):wpAny M A t Q' E s:=wpAny_mono h hQ fun _ _ x=>x
end L2
namespace L2
open PySem PySem.Spec PyProof.Rows
section
variable {X:Cx}
def Wl (i:Nat):TE:=fun σ H Q=>∃ v,σ[i]? = some (some v)∧Q v H
def tC (v:V):TE:=fun _ H Q=>Q v H
theorem lY {i:Nat} {x:Str} {pos:Pos} (hN:X.N[i]? = some x) (hv:Vis X.env.scope x) (hd:(x == ("__debug__" : Str))=false:=by decide) (hcd:(x == ("__classdict__" : Str))=false:=by decide):PE X (.Name x pos) (Wl i):=by
 intro pins s σ H Q I h
 obtain ⟨v,e,h⟩:=h
 obtain ⟨m,hn,hl⟩:=I.loc
 obtain ⟨u,r,l⟩:=hl i x v hN e hv
 have fin:EP X pins σ Q u s:=⟨v,H,I,r,h⟩
 rcases l with ⟨hk,hm⟩ | ⟨hk,c,hc,hcell⟩
 ·exact wpAny_Name (wpAny_loadName_local I.ok.kind hk hn hm fin) hd
 ·rcases hk with hk | hk
  ·exact wpAny_Name (wpAny_loadName_cell I.ok.kind hk hc hcell fin) hd
  ·exact wpAny_Name (wpAny_loadName_free I.ok.kind hk hc hcell fin hcd) hd
theorem Qd {i j pos}:PE X (.Constant (.int i) j pos) (tC (.int i)):=fun _ _ _ H _ I h=>wpAny_Constant_int ⟨.int i,H,I.tok _,⟨_,rfl⟩,h⟩
theorem Ox {b j pos}:PE X (.Constant (.bool b) j pos) (tC (.bl b)):=fun _ _ _ H _ I h=>Constant_bool ⟨.bl b,H,I,rfl,h⟩
theorem Qe {j pos}:PE X (.Constant .none j pos) (tC .non):=fun _ _ _ H _ I h=>Constant_none ⟨.non,H,I,rfl,h⟩
theorem Qf {x j pos}:PE X (.Constant (.str x) j pos) (tC (.str x)):=fun _ _ _ H _ I h=>Calls.Constant_str ⟨.str x,H,I.tok _,⟨_,rfl⟩,h⟩
def Gl (X:Cx) (x:Str):Prop:=X.env.kindOf x=some .globalImplicit
theorem rB {E:Value→Shared→Prop} {pins:List (Addr × Obj)} {s:Shared} {σ:St} {H:Hp} {x:Str} {u:Value} {pos:Pos} {Q:Value→Shared→Prop} (I:Inv X pins σ H s) (hg:Gl X x) (hm:X.mg x=some u) (h:Q u s)
 (hd:(x == ("__debug__" : Str))=false:=by decide):wpAny (model X.prog X.w) X.A (eval (.Name x pos) X.env) Q E s :=
 Calls.Name_function_global I.ok.kind hg (Calls.loadGlobal_global (by rw [I.ok.glob];exact I.mod.glob.keeps I.bk) hm h) hd
theorem sG {E:Value→Shared→Prop} {pins:List (Addr × Obj)} {s:Shared} {σ:St} {H:Hp} {x:Str} {u:Value} {pos:Pos} {Q:Value→Shared→Prop} (I:Inv X pins σ H s) (hg:Gl X x) (hm:X.mg x=none) (hv:bootBuiltins x=some u) (h:Q u s)
 (hn:x ≠ "__name__" := by decide) (hd:(x == ("__debug__" : Str))=false:=by decide):wpAny (model X.prog X.w) X.A (eval (.Name x pos) X.env) Q E s:=by
 obtain ⟨mb,h1,h2⟩:=I.mod.blt
 exact Calls.Name_function_global I.ok.kind hg (Calls.loadGlobal_builtin (by rw [I.ok.glob];exact I.mod.glob.keeps I.bk) hm (by rw [I.ok.blt];exact h1.keeps I.bk) ((h2 x hn).trans hv) h) hd
theorem Di {x:Str} {v:V} {u:Value} {pos:Pos} (hg:Gl X x) (hm:X.mg x=some u) (r:RelV v u) (hd:(x == ("__debug__" : Str))=false:=by decide):PE X (.Name x pos) (tC v) :=
 fun _ _ _ H _ I h=>rB I hg hm ⟨v,H,I,r,h⟩ hd
theorem Dj {x:Str} {v:V} {u:Value} {pos:Pos} (hg:Gl X x) (hm:X.mg x=none) (hv:bootBuiltins x=some u) (r:RelV v u) (hn:x ≠ "__name__" := by decide) (hd:(x == ("__debug__" : Str))=false:=by decide):PE X (.Name x pos) (tC v) :=
 fun _ _ _ H _ I h=>sG I hg hm hv ⟨v,H,I,r,h⟩ hn hd
variable {a b:Expr} {ta tb:TE} {pos:Pos}
def PC (X:Cx) (op:CmpOp) (a b:Expr) (t:TE):Prop :=
 ∀ (pins:List (Addr × Obj)) (s:Shared) (σ:St) (H:Hp) (Q:VK),Inv X pins σ H s→t σ H Q →
  wpAny (model X.prog X.w) X.A (eval a X.env) (fun v s₁=>wpAny (model X.prog X.w) X.A (eval b X.env) (fun u s₂=>wpAny (model X.prog X.w) X.A (compareOp op v u) (EP X pins σ Q) X.xe s₂) X.xe s₁) X.xe s
theorem zx (b:Expr) {op:CmpOp} (h:op ≠ .In) (h2:op ≠ .NotIn):behindInMarks op b=false:=by
 have e1:(op == CmpOp.In)=false:=by cases op <;> first | rfl | exact absurd rfl h
 have e2:(op == CmpOp.NotIn)=false:=by cases op <;> first | rfl | exact absurd rfl h2
 cases b <;> simp [behindInMarks,e1,e2]
def Wm (ta:TE):TE:=fun σ H Q=>ta σ H fun x H1=>Q (.bl (decide (x = .non))) H1
def TY (ta:TE):TE:=fun σ H Q=>ta σ H fun x H1=>Q (.bl (!decide (x = .non))) H1
theorem RelV.none_iff {x:V} {v:Value} (r:RelV x v):(v == Value.none)=decide (x = .non):=by
 cases x with
 | non=>cases r;rfl
 | bl _=>cases r;rfl
 | int _=>obtain ⟨t,rfl⟩:=r;rfl
 | str _=>obtain ⟨t,rfl⟩:=r;rfl
 | byt _=>obtain ⟨t,rfl⟩:=r;rfl
 | flt _=>obtain ⟨t,rfl⟩:=r;rfl
 | ref _=>cases r;rfl
 | ty _=>cases r;rfl
theorem Qg {j pos'} (ha:PE X a ta):PC X .Is a (.Constant .none j pos') (Wm ta):=by
 intro pins s σ H Q I h
 refine thn (ha pins s σ H _ I h) fun v s1 ⟨x,H1,I1,r1,q1⟩=>?_
 exact Constant_none (is_none_gen ⟨.bl _,H1,I1,by rw [r1.none_iff];rfl,q1⟩)
theorem Dk {j pos'} (ha:PE X a ta):PC X .IsNot a (.Constant .none j pos') (TY ta):=by
 intro pins s σ H Q I h
 refine thn (ha pins s σ H _ I h) fun v s1 ⟨x,H1,I1,r1,q1⟩=>?_
 exact Constant_none (isnot_none_gen ⟨.bl _,H1,I1,by rw [r1.none_iff];rfl,q1⟩)
def tB (t:TE):TT:=fun σ H Q=>t σ H fun x H1=>∃ c,x = .bl c∧Q c H1
theorem Qh {op:CmpOp} {t:TE} (h:PC X op a b t) (h1:behindInMarks op b=false:=by first | exact zx _ (by decide) (by decide) | rfl):PE X (.Compare a [op] [b] pos) t:=fun pins s σ H Q I hw=>wpAny_Compare1 (h pins s σ H Q I hw) h1
theorem G5 {op:CmpOp} {t:TE} (h:PC X op a b t) (h1:behindInMarks op b=false:=by first | exact zx _ (by decide) (by decide) | rfl):PT X (.Compare a [op] [b] pos) (tB t):=by
 intro pins s σ H Q I hw
 refine wpAny_isTrue_Compare1 (thn (h pins s σ H _ I hw) fun v s1 h1=>thn h1 fun u s2 h2=>thn h2 fun c s3 ⟨x,H1,I1,r1,q1⟩=>?_) h1
 obtain ⟨d,rfl,q⟩:=q1
 cases r1
 exact wpAny_truthy_bool ⟨H1,I1,q⟩
theorem G6 {e:Expr} {t:TE} (h:PE X e t) (he:∀ whole,isTrue e X.env whole=(do let v ← whole;standAt e.pos;holding [v] (truthy v)):=by intro _;rfl):PT X e (tB t):=by
 intro pins s σ H Q I hw
 refine isTrue_plain (thn (h pins s σ H _ I hw) fun v s1 ⟨x,H1,I1,r1,q1⟩=>?_) (he _)
 obtain ⟨d,rfl,q⟩:=q1
 cases r1
 exact wpAny_truthy_bool ⟨H1,I1,q⟩
variable {tA tB':TT} {rest:List Expr}
def mW (t u:TT):TT:=fun σ H Q=>t σ H fun c H1=>if c=true then u σ H1 Q else Q false H1
def tOr (t u:TT):TT:=fun σ H Q=>t σ H fun c H1=>if c=true then Q true H1 else u σ H1 Q
def dG (t:TT):TT:=fun σ H Q=>t σ H fun c H1=>Q (!c) H1
theorem Kz (ha:PT X a tA):PW X (.BoolOp .And [a] pos) tA:=by
 intro wh pins s σ H Q I h
 refine isTrue_and (thn (ha pins s σ H Q I h) fun c s1 e=>?_)
 cases c with
 | true=>exact isTrue_and_nil e
 | false=>exact e
theorem G7 (ha:PT X a tA):PW X (.BoolOp .Or [a] pos) tA:=by
 intro wh pins s σ H Q I h
 refine isTrue_or (thn (ha pins s σ H Q I h) fun c s1 e=>?_)
 cases c with
 | false=>exact isTrue_or_nil e
 | true=>exact e
theorem Qi (ha:PT X a tA) (hb:PW X (.BoolOp .And (b :: rest) pos) tB'):PW X (.BoolOp .And (a :: b :: rest) pos) (mW tA tB'):=by
 intro wh pins s σ H Q I h
 refine isTrue_and (thn (ha pins s σ H _ I h) fun c s1 ⟨H1,I1,q1⟩=>?_)
 cases c with
 | true=>exact hb wh pins s1 σ H1 Q I1 q1
 | false=>exact ⟨H1,I1,q1⟩
theorem Oz (ha:PT X a tA) (hb:PW X (.BoolOp .Or (b :: rest) pos) tB'):PW X (.BoolOp .Or (a :: b :: rest) pos) (tOr tA tB'):=by
 intro wh pins s σ H Q I h
 refine isTrue_or (thn (ha pins s σ H _ I h) fun c s1 ⟨H1,I1,q1⟩=>?_)
 cases c with
 | true=>exact ⟨H1,I1,q1⟩
 | false=>exact hb wh pins s1 σ H1 Q I1 q1
theorem G8 (ha:PT X a tA):PT X (.UnaryOp .Not a pos) (dG tA):=by
 intro pins s σ H Q I h
 exact isTrue_not (ha pins s σ H (fun c H1=>Q (!c) H1) I h)
def T3 (ta tb:TE):TE:=fun σ H Q=>ta σ H fun x H1=>∃ c,x = .bl c∧if c=true then tb σ H1 Q else Q (.bl false) H1
def T4 (ta:TE):TE:=fun σ H Q=>ta σ H fun x H1=>∃ c,x = .bl c∧Q (.bl (!c)) H1
theorem Qj {op} {t:TE} (h:PE X a t):PE X (.BoolOp op [a] pos) t:=fun pins s σ H Q I hw=>BoolOp_one (h pins s σ H Q I hw)
theorem Qk (ha:PE X a ta) (hb:PE X (.BoolOp .And (b :: rest) pos) tb):PE X (.BoolOp .And (a :: b :: rest) pos) (T3 ta tb):=by
 intro pins s σ H Q I h
 refine BoolOp_and (thn (ha pins s σ H _ I h) fun v s1 ⟨x,H1,I1,r1,q1⟩=>?_)
 obtain ⟨c,rfl,q1⟩:=q1
 cases r1
 refine wpAny_truthy_bool ?_
 cases c with
 | true=>exact hb pins s1 σ H1 Q I1 q1
 | false=>exact ⟨.bl false,H1,I1,rfl,q1⟩
theorem Ql (ha:PE X a ta):PE X (.UnaryOp .Not a pos) (T4 ta):=by
 intro pins s σ H Q I h
 refine UnaryOp_ (thn (ha pins s σ H _ I h) fun v s1 ⟨x,H1,I1,r1,q1⟩=>?_)
 obtain ⟨c,rfl,q1⟩:=q1
 cases r1
 exact not_of (wpAny_truthy_bool ⟨.bl (!c),H1,I1,rfl,q1⟩)
end
end L2
namespace L2
open PySem PySem.Spec PyProof.Rows
def SqL (K:PySem.W.Frag) (H:Hp) (a:Addr) (xs:List V):Prop :=
 Rd H a (.lst xs) ∨
  ∃ (o:Obj) (its:Array Value) (n:Nat),K.lookup a=some o∧o.cls = .type "list" ∧ o.dict=none∧o.data = .seq its n∧its.size ≤ sizeLine∧Vals xs its.toList
def SqT (K:PySem.W.Frag) (H:Hp) (a:Addr) (xs:List V):Prop :=
 Rd H a (.tup xs) ∨
  ∃ (o:Obj) (its:Array Value) (n:Nat),K.lookup a=some o∧o.cls = .type "tuple" ∧ o.data = .seq its n∧its.size ≤ sizeLine∧Vals xs its.toList
def Wn:Value→Option V
 | .none=>some .non
 | .bool b=>some (.bl b)
 | .int i _=>some (.int i)
 | .str x _=>some (.str x)
 | .bytes b _=>some (.byt b)
 | .float b _=>some (.flt b)
 | .ref a=>some (.ref a)
 | .type n=>some (.ty n)
 | _=>none
theorem RelV.abs {x:V} {u:Value} (r:RelV x u):Wn u=some x:=by
 cases x with
 | non=>cases r;rfl
 | bl _=>cases r;rfl
 | int _=>obtain ⟨t,rfl⟩:=r;rfl
 | str _=>obtain ⟨t,rfl⟩:=r;rfl
 | byt _=>obtain ⟨t,rfl⟩:=r;rfl
 | flt _=>obtain ⟨t,rfl⟩:=r;rfl
 | ref _=>cases r;rfl
 | ty _=>cases r;rfl
theorem RelV.inj {x y:V} {u:Value} (r:RelV x u) (q:RelV y u):x=y:=cX.inj (r.abs.symm.trans q.abs)
theorem Vals.inj:∀ {xs ys:List V} {us:List Value},Vals xs us→Vals ys us→xs=ys
 | _,_,_,.nil,.nil=>rfl
 | _,_,_,.cons r t,.cons r' t'=>by rw [r.inj r',Vals.inj t t']
section
variable {X:Cx} {pins:List (Addr × Obj)} {σ:St} {H:Hp} {s:Shared} {a:Addr} {xs ys:List V}
theorem SqL.of {K:PySem.W.Frag} (h:H a=some (.lst xs)):SqL K H a xs:=.inl (.inl h)
theorem Inv.list (I:Inv X pins σ H s) (h:SqL X.K H a xs):∃ its:List Value,Vals xs its∧PlainL s.heap a its.toArray∧xs.length ≤ sizeLine:=by
 rcases h with h | ⟨o,its,n,hk,hc,hd,hs,hz,r⟩
 ·obtain ⟨z,its,n,r,e⟩:=h.ok I.hok
  exact ⟨its,r,⟨_,n,e,rfl,rfl,rfl⟩,z⟩
 ·refine ⟨its.toList,r,⟨o,n,I.kIn a o hk,hc,hd,by simpa using hs⟩,?_⟩
  have e:=r.length
  simp only [pL] at e
  omega
theorem Inv.tuple (I:Inv X pins σ H s) (h:SqT X.K H a xs):∃ its:List Value,Vals xs its∧IsTup s.heap a its.toArray∧xs.length ≤ sizeLine:=by
 rcases h with h | ⟨o,its,n,hk,hc,hs,hz,r⟩
 ·obtain ⟨z,its,r,p⟩:=h.ok I.hok
  exact ⟨its,r,p,z⟩
 ·refine ⟨its.toList,r,⟨o,I.kIn a o hk,hc,n,by simpa using hs⟩,?_⟩
  have e:=r.length
  simp only [pL] at e
  omega
theorem Inv.list_inj (I:Inv X pins σ H s) (h:SqL X.K H a xs) (h':SqL X.K H a ys):xs=ys:=by
 obtain ⟨its,r,⟨o,n,e,_,_,d⟩,_⟩:=I.list h
 obtain ⟨its',r',⟨o',n',e',_,_,d'⟩,_⟩:=I.list h'
 rw [e] at e';cases e'
 rw [d] at d'
 injection d' with d1 _
 have:its=its':=by simpa using congrArg Array.toList d1
 subst this
 exact r.inj r'
theorem Inv.tuple_inj (I:Inv X pins σ H s) (h:SqT X.K H a xs) (h':SqT X.K H a ys):xs=ys:=by
 obtain ⟨its,r,⟨o,e,_,n,d⟩,_⟩:=I.tuple h
 obtain ⟨its',r',⟨o',e',_,n',d'⟩,_⟩:=I.tuple h'
 rw [e] at e';cases e'
 rw [d] at d'
 injection d' with d1 _
 have:its=its':=by simpa using congrArg Array.toList d1
 subst this
 exact r.inj r'
end
abbrev Cx.wish (X:Cx) (E:Value→Shared→Prop):Cx:={ X with xe:=E }
abbrev Cx.nox (X:Cx):Cx:=X.wish fun _ _=>False
theorem Cx.Ok.wish {X:Cx} (ok:X.Ok) (E:Value→Shared→Prop):(X.wish E).Ok :=
 ⟨ok.mod,ok.kind,ok.glob,ok.blt,ok.above,ok.inj,ok.has,ok.cab,ok.hd,ok.frames,ok.stk,ok.exf,ok.bs,ok.bsz,ok.noex,ok.exfs,ok.funs,ok.frf⟩
theorem Cx.Ok.unwish {X:Cx} {E:Value→Shared→Prop} (ok:(X.wish E).Ok):X.Ok :=
 ⟨ok.mod,ok.kind,ok.glob,ok.blt,ok.above,ok.inj,ok.has,ok.cab,ok.hd,ok.frames,ok.stk,ok.exf,ok.bs,ok.bsz,ok.noex,ok.exfs,ok.funs,ok.frf⟩
section
variable {X:Cx} {pins:List (Addr × Obj)} {σ:St} {H:Hp} {s:Shared} {E:Value→Shared→Prop}
theorem Inv.wish (I:Inv X pins σ H s) (E:Value→Shared→Prop):Inv (X.wish E) pins σ H s:=⟨I.ok.wish E,I.os,I.bare,I.base,I.loc,I.cell,I.free,I.freeC,I.pin,I.hok,I.len⟩
theorem Inv.unwish (I:Inv (X.wish E) pins σ H s):Inv X pins σ H s:=⟨I.ok.unwish,I.os,I.bare,I.base,I.loc,I.cell,I.free,I.freeC,I.pin,I.hok,I.len⟩
theorem SP.unwish {D:Ends} {f:Flow} {s':Shared} (h:SP (X.wish E) pins D f s'):SP X pins D f s':=by
 cases f with
 | next=>obtain ⟨σ',H',I,q⟩:=h;exact ⟨σ',H',I.unwish,q⟩
 | brk=>obtain ⟨σ',H',I,q⟩:=h;exact ⟨σ',H',I.unwish,q⟩
 | cont=>obtain ⟨σ',H',I,q⟩:=h;exact ⟨σ',H',I.unwish,q⟩
 | ret u=>obtain ⟨v,σ',H',I,r,q⟩:=h;exact ⟨v,σ',H',I.unwish,r,q⟩
theorem PE.nox {e:Expr} {t:TE} (h:PE X.nox e t):PE X e t:=fun pins s σ H Q I hw =>
 wpAny_mono (h pins s σ H Q (I.wish _) hw) (fun _ _ ⟨v,H',I',r,q⟩=>⟨v,H',I'.unwish,r,q⟩) fun _ _ z=>False.elim z
theorem PT.nox {e:Expr} {t:TT} (h:PT X.nox e t):PT X e t:=fun pins s σ H Q I hw =>
 wpAny_mono (h pins s σ H Q (I.wish _) hw) (fun _ _ ⟨H',I',q⟩=>⟨H',I'.unwish,q⟩) fun _ _ z=>False.elim z
theorem PSs.nox {st:List Stmt} {t:TS} (h:PSs X.nox st t):PSs X st t:=fun pins s σ H D I hw =>
 wpAny_mono (h pins s σ H D (I.wish _) hw) (fun _ _ q=>q.unwish) fun _ _ z=>False.elim z
end
section
variable {X:Cx} {st:Stmt} {rest:List Stmt} {t u:TS} {e:Expr} {te:TE} {pos:Pos}
def T5:TS:=fun D σ H=>D.nx σ H
def Wo (t u:TS):TS:=fun D σ H=>t { D with nx:=u D } σ H
theorem Dm:PSs X [] T5:=fun _ _ σ H _ I h=>wpAny_execs_nil ⟨σ,H,I,h⟩
theorem uE (h1:PS X st t) (h2:PSs X rest u):PSs X (st :: rest) (Wo t u):=by
 intro pins s σ H D I h
 refine wpAny_execs_cons (thn (h1 pins s σ H { D with nx:=u D } I h) fun f s1 q=>?_)
 cases f with
 | next =>
  obtain ⟨σ',H',I',q⟩:=q
  exact h2 pins s1 σ' H' D I' q
 | ret v=>exact q
 | brk=>exact q
 | cont=>exact q
theorem xU (h1:PS X st t):PSs X [st] t:=by
 intro pins s σ H D I h
 refine wpAny_execs_cons (thn (h1 pins s σ H D I h) fun f s1 q=>?_)
 cases f with
 | next=>exact wpAny_execs_nil q
 | ret v=>exact q
 | brk=>exact q
 | cont=>exact q
theorem Inv.quiet {pins:List (Addr × Obj)} {σ:St} {H:Hp} {s:Shared} (I:Inv X pins σ H s):interactive X.env=false:=by simp [interactive,I.ok.kind]
def T6 (te:TE):TS:=fun D σ H=>te σ H fun _ H1=>D.nx σ H1
theorem Dp (he:PE X e te) (hs:swapsWith e none pos.line X.env=pure false:=by rfl):PS X (.Expr e pos) (T6 te):=by
 intro pins s σ H D I h
 exact wpAny_Expr_any (thn (he pins s σ H _ I h) fun v s1 ⟨x,H1,I1,r1,q1⟩=>⟨σ,H1,I1,q1⟩) I.quiet hs
def Wq (te:TE):TS:=fun D σ H=>te σ H D.rt
theorem Ao (he:PE X e te):PS X (.Return (some e) pos) (Wq te):=by
 intro pins s σ H D I h
 exact wpAny_Return_some (thn (he pins s σ H _ I h) fun v s1 ⟨x,H1,I1,r1,q1⟩=>⟨x,σ,H1,I1,r1,q1⟩)
def Wr (c:TT) (t u:TS):TS:=fun D σ H=>c σ H fun b H1=>if b=true then t D σ H1 else u D σ H1
theorem G9 {c:Expr} {a b:List Stmt} {tc:TT} (hc:PT X c tc) (ha:PSs X a t) (hb:PSs X b u):PS X (.If c a b pos) (Wr tc t u):=by
 intro pins s σ H D I h
 refine wpAny_If (thn (hc pins s σ H _ I h) fun d s1 ⟨H1,I1,q1⟩=>?_)
 cases d with
 | true=>exact ha pins s1 σ H1 D I1 q1
 | false=>exact hb pins s1 σ H1 D I1 q1
end
abbrev TG:=V→St→Hp→(St→Hp→Prop)→Prop
abbrev TGs:=List V→St→Hp→(St→Hp→Prop)→Prop
def PG (X:Cx) (target:Expr) (t:TG):Prop :=
 ∀ (pins:List (Addr × Obj)) (s:Shared) (σ:St) (H:Hp) (v:V) (u:Value) (Q:St→Hp→Prop),Inv X pins σ H s→RelV v u→t v σ H Q →
  wpAny (model X.prog X.w) X.A (assign target X.env u) (fun _ s'=>∃ σ' H',Inv X pins σ' H' s'∧Q σ' H') X.xe s
def PGs (X:Cx) (ts:List Expr) (t:TGs):Prop :=
 ∀ (pins:List (Addr × Obj)) (s:Shared) (σ:St) (H:Hp) (vs:List V) (us:List Value) (Q:St→Hp→Prop),Inv X pins σ H s→Vals vs us→t vs σ H Q →
  wpAny (model X.prog X.w) X.A (assignInOrder ((assignEach ts X.env).map (·.2)) us) (fun _ s'=>∃ σ' H',Inv X pins σ' H' s'∧Q σ' H') X.xe s
abbrev Qm:=V→V→V→Hp→(Hp→Prop)→Prop
def Qn (X:Cx) (t:Qm):Prop :=
 ∀ (pins:List (Addr × Obj)) (s:Shared) (σ:St) (H:Hp) (o i v:V) (ov iv u:Value) (Q:Hp→Prop),Inv X pins σ H s→RelV o ov→RelV i iv→RelV v u→t o i v H Q →
  wpAny (model X.prog X.w) X.A (setItem ov iv u) (fun _ s'=>∃ H',Inv X pins σ H' s'∧Q H') X.xe s
section
variable {X:Cx} {pos:Pos}
def G_ (i:Nat):TG:=fun v σ H Q=>Q (σ.set i (some v)) H
theorem KC {i:Nat} {x:Str} (hN:X.N.Nodup) (hi:X.N[i]? = some x) (hx:Loc X.env.scope x) (hf:X.fn x=true∨X.env.scope.names.lookup x=some .local:=by first | exact .inl rfl | exact .inr rfl | assumption):PG X (.Name x pos) (G_ i):=by
 intro pins s σ H v u Q I r h
 exact wpAny_assign_Name (uD I hN hi hx r (fun s' I'=>⟨_,H,I',h⟩) hf)
def Ws:TGs:=fun vs σ H Q=>vs=[]∧Q σ H
def T7 (t:TG) (u:TGs):TGs:=fun vs σ H Q=>∃ v r,vs=v :: r∧t v σ H fun σ' H'=>u r σ' H' Q
theorem KD:PGs X [] Ws:=by
 intro pins s σ H vs us Q I r h
 obtain ⟨e,h⟩:=h
 subst e
 cases r
 exact assignInOrder_nil ⟨σ,H,I,h⟩
theorem Hf {e:Expr} {es:List Expr} {t:TG} {u:TGs} (h1:PG X e t) (h2:PGs X es u)
 (hs:(assignEach (e :: es) X.env).map (·.2)=assign e X.env :: (assignEach es X.env).map (·.2):=by rfl):PGs X (e :: es) (T7 t u):=by
 intro pins s σ H vs us Q I r h
 obtain ⟨v,vr,e1,h⟩:=h
 subst e1
 cases r with
 | cons r rr =>
  rw [hs]
  refine assignInOrder_cons (thn (h1 pins s σ H _ _ _ I r h) fun _ s1 ⟨σ1,H1,I1,q1⟩=>?_)
  exact h2 pins s1 σ1 H1 _ _ Q I1 rr q1
def Wt (K:PySem.W.Frag) (n:Nat) (t:TGs):TG:=fun v σ H Q=>∃ a xs,v = .ref a∧SqT K H a xs∧xs.length=n∧t xs σ H Q
theorem Qo {es:List Expr} {k:Nat} {t:TGs} {n:Nat} (hc:X.calm=true) (h:PGs X es t)
 (hn:(assignEach es X.env).length=n:=by rfl) (hst:(assignEach es X.env).findIdx? (·.1)=none:=by rfl):PG X (.Tuple es k pos) (Wt X.K n t):=by
 intro pins s σ H v u Q I r hw
 obtain ⟨a,xs,e1,hq,hl,hw⟩:=hw
 subst e1
 cases r
 obtain ⟨its,rv,ht,hz⟩:=I.tuple hq
 refine assign_Tuple_tuple (I.ok.hd hc) ht (by simp [hn,← hl,rv.length]) hst fun h' hx=>?_
 have I1:Inv X pins σ H { s with heap:=h' }:=I.kept (t':=s.toks) fun b o e=>hx b o (bL (Heap.lt_size e)) e
 exact h pins _ σ H xs _ Q I1 (by simpa using rv) hw
def xV (to ti:TE) (t:Qm):TG:=fun v σ H Q=>to σ H fun o H1=>ti σ H1 fun i H2=>t o i v H2 fun H3=>Q σ H3
theorem Hg {o i:Expr} {to ti:TE} {t:Qm} (ho:PE X o to) (hi:PE X i ti) (hs:Qn X t)
 (ha:∀ v,assign (.Subscript o i pos) X.env v=(do
  let ov ← holding [v] (eval o X.env)
  let iv ← holding [v,ov] (eval i X.env)
  standAt pos
  holding [v,ov,iv] (setItem ov iv v)
  release [v,ov,iv] []):=by intro _;rfl):PG X (.Subscript o i pos) (xV to ti t):=by
 intro pins s σ H v u Q I r h
 rw [ha]
 refine wpAny_bind (wpAny_holding (thn (ho pins s σ H _ I h) fun ov s1 ⟨x,H1,I1,r1,q1⟩=>?_))
 refine wpAny_bind (wpAny_holding (thn (hi pins s1 σ H1 _ I1 q1) fun iv s2 ⟨y,H2,I2,r2,q2⟩=>?_))
 refine wpAny_bind (wpAny_standAt (wpAny_bind (wpAny_holding (thn (hs pins s2 σ H2 x y v ov iv u _ I2 r1 r2 r q2) fun _ s3 ⟨H3,I3,q3⟩=>?_))))
 exact wpAny_release ⟨σ,H3,I3,q3⟩
def Qq (te:TE) (g:TG):TS:=fun D σ H=>te σ H fun x H1=>g x σ H1 D.nx
theorem Aq {tg e:Expr} {te:TE} {g:TG} (he:PE X e te) (hg:PG X tg g) (hs:swapsWithSole [tg] e pos.line X.env=pure false:=by rfl) (hw:swappedStores [tg] e X.env=pure none:=by rfl)
 (h1:(assignEach [tg] X.env).map (·.2)=[assign tg X.env]:=by rfl):PS X (.Assign [tg] e pos) (Qq te g):=by
 intro pins s σ H D I h
 refine wpAny_Assign_stores (thn (he pins s σ H _ I h) fun v s1 ⟨x,H1,I1,r1,q1⟩=>?_) hs hw
 rw [h1]
 exact thn (hg pins s1 σ H1 x v _ I1 r1 q1) fun _ s2 q=>q
theorem uF {i:Nat} {x:Str} {e:Expr} {te:TE} {pos':Pos} (hN:X.N.Nodup) (hi:X.N[i]? = some x) (hx:Loc X.env.scope x) (he:PE X e te) (hs:swapsWith e (some (.Name x pos')) pos.line X.env=pure false:=by rfl) (hf:X.fn x=true∨X.env.scope.names.lookup x=some .local:=by first | exact .inl rfl | exact .inr rfl | assumption) :
 PS X (.Assign [.Name x pos'] e pos) (Qq te (G_ i)):=by
 intro pins s σ H D I h
 refine wpAny_Assign_Name (thn (he pins s σ H _ I h) fun v s1 ⟨y,H1,I1,r1,q1⟩=>?_) hs
 exact uD I1 hN hi hx r1 (fun s2 I2=>⟨_,H1,I2,q1⟩) hf
end
section
variable {X:Cx} {pos:Pos}
end
structure It where
 go:Nat→Hp→Prop
 yld:Nat→Hp→V→Hp→Prop
 stop:Nat→Hp→Prop
def sH (X:Cx) (pins:List (Addr × Obj)) (H:Hp) (b:Addr):Prop :=
 H b=none∧b ≠ X.env.locals∧b ∉ X.fs∧(b ∈ X.ex∨X.s₀.heap.objs.size ≤ b)∧(∀ x c,X.env.cells.lookup x=some c→c ≠ b)∧∀ p ∈ X.pn++pins,p.1 ≠ b
theorem Inv.fpOk {X:Cx} {pins:List (Addr × Obj)} {σ:St} {H H':Hp} {s:Shared} {b:Addr} (I:Inv X pins σ H s) (hb:s.heap.objs.size ≤ b) (hn:H' b=none):sH X pins H' b:=by
 refine ⟨hn,nO (bQ I.lt hb),I.nofs hb,.inr (bV I.sz hb),fun x c e z=>?_,fun p hp z=>?_⟩
 ·obtain ⟨v,q⟩:=I.cell x c e
  exact absurd (bQ q.lt (by rw [z];exact hb)) (iM _)
 ·exact absurd (bQ (Heap.lt_size (I.pin p hp).1) (by rw [z];exact hb)) (iM _)
structure Turn (P:Program) (w:World) (K:PySem.W.Frag) (tg:Expr) (J:It) (fp:List Addr) (it:Addr) (tn:Nat→Heap→Prop):Prop where
 mem:it ∈ fp
 obj:∀ i h,tn i h→∀ b ∈ fp,∃ o,h.get? b=some o∧∀ v,o.data ≠ .cell v
 keep:∀ i h h',tn i h→(∀ b ∈ fp,∀ o,h.get? b=some o→h'.get? b=some o)→tn i h'
 item:∀ (X:Cx),X.prog=P→X.w=w→X.K=K→X.calm=true→∀ (i:Nat) (pins:List (Addr × Obj)) (s:Shared) (σ:St) (H:Hp) (E:Value→Shared→Prop),Inv X pins σ H s→(∀ b ∈ fp,sH X pins H b)→tn i s.heap→J.go i H →
  wpAny (model P w) X.A (pyNext (.ref it)) (fun r s1=>∃ u,r=some u ∧
   wpAny (model P w) X.A (letOwnedTupleGo tg (.ref it) u) (fun _ s2=>∃ x H',Inv X pins σ H' s2∧RelV x u∧J.yld i H x H'∧tn (i + 1) s2.heap∧∀ b ∈ fp,H' b=none) E s1) E s
 done:∀ (X:Cx),X.prog=P→X.w=w→X.K=K→X.calm=true→∀ (i:Nat) (pins:List (Addr × Obj)) (s:Shared) (σ:St) (H:Hp) (E:Value→Shared→Prop),Inv X pins σ H s→(∀ b ∈ fp,sH X pins H b)→tn i s.heap→J.stop i H →
  wpAny (model P w) X.A (pyNext (.ref it)) (fun r s1=>r=none∧Inv X pins σ H s1) E s
 self:∀ (A:Around) (i:Nat) (s:Shared) (Q:Value→Shared→Prop) (E:Value→Shared→Prop),tn i s.heap→Q (.ref it) s→wpAny (model P w) A (pyIter (.ref it)) Q E s
abbrev TI:=St→Hp→(It→Hp→Prop)→Prop
def PIE (X:Cx) (pins:List (Addr × Obj)) (σ:St) (tg:Expr) (R:It→Hp→Prop) (itv:Value) (s2:Shared):Prop :=
 ∃ (it:Addr) (fp:List Addr) (tn:Nat→Heap→Prop) (J:It) (H':Hp),itv = .ref it∧Inv X pins σ H' s2∧Turn X.prog X.w X.K tg J fp it tn∧tn 0 s2.heap∧(∀ b ∈ fp,sH X pins H' b)∧R J H'
def PI (X:Cx) (tg iter:Expr) (wi:TI):Prop :=
 ∀ (pins:List (Addr × Obj)) (s:Shared) (σ:St) (H:Hp) (R:It→Hp→Prop),Inv X pins σ H s→wi σ H R →
  wpAny (model X.prog X.w) X.A (eval iter X.env) (fun v s1=>wpAny (model X.prog X.w) X.A (pyIter v) (PIE X pins σ tg R) X.xe s1) X.xe s
theorem Hh {M:Model} {A:Around} {E:Value→Shared→Prop} {s:Shared} {tg:Expr} {it:Addr} {u:Value} {o:Obj} {n:String} {vs:Array Value} {Q:Unit→Shared→Prop} (ho:s.heap.get? it=some o) (hc:o.cls = .type n) (hd:o.data = .fields vs)
 (hn:["enumerate", "zip", "dict_itemiterator", "dict_reverseitemiterator", "odict_iterator", "itertools.zip_longest", "itertools.pairwise"].contains n=false) (hQ:Q () s):wpAny M A (letOwnedTupleGo tg (.ref it) u) Q E s:=by
 unfold letOwnedTupleGo
 cases tg <;> first
  | exact wpAny_pure hQ
  | (cases u <;> first
   | exact wpAny_pure hQ
   | (refine wpAny_bind (wpAny_load ho ?_)
      rw [hc,hd]
      show wpAny M A (if (["enumerate", "zip", "dict_itemiterator", "dict_reverseitemiterator", "odict_iterator", "itertools.zip_longest", "itertools.pairwise"].contains n && vs[0]? == some (rawInt _))=true then _ else _) Q E s
      rw [if_neg (by intro h;rw [hn,lU] at h;cases h)]
      exact wpAny_pure hQ))
def Itl (K:PySem.W.Frag) (a:Addr):It :=
 ⟨fun i H=>∃ xs x,SqL K H a xs∧xs[i]? = some x,fun i H x H'=>H'=H∧∀ xs,SqL K H a xs→xs[i]? = some x,fun i H=>∃ xs,SqL K H a xs∧xs.length ≤ i⟩
def Itt (K:PySem.W.Frag) (a:Addr):It :=
 ⟨fun i H=>∃ xs x,SqT K H a xs∧xs[i]? = some x,fun i H x H'=>H'=H∧∀ xs,SqT K H a xs→xs[i]? = some x,fun i H=>∃ xs,SqT K H a xs∧xs.length ≤ i⟩
def Itr (lo:Int) (n:Nat):It:=⟨fun i _=>i < n,fun i H x H'=>H'=H∧x = .int (lo + i),fun i _=>n ≤ i⟩
theorem Eu {P:Program} {w:World} {K:PySem.W.Frag} {tg:Expr} (a it:Addr):Turn P w K tg (Itl K a) [it] it (fun i h=>h.IsListIter it a i) where
 mem:=by simp
 obj:=fun i h st b hb=>by
  have e:b=it:=by simpa using hb
  subst e
  obtain ⟨o,e,c,d⟩:=st
  exact ⟨o,e,fun v z=>by rw [d] at z;cases z⟩
 keep:=fun i h h' st k=>st.at fun o e=>k it (by simp) o e
 item:=by
  intro X hP hw hK hc i pins s σ H E I hf st hg
  subst hP hw hK
  obtain ⟨xs,x,hq,hx⟩:=hg
  obtain ⟨its,rv,p,hz⟩:=I.list hq
  obtain ⟨u,hu,ru⟩:=rv.get hx
  obtain ⟨f0,f1,f2,f3,f4,f5⟩:=hf it (by simp)
  refine wpAny_pyNext_list_item st p.isList (x:=u) (by simpa using hu) fun h' st' sb=>?_
  have I1:Inv X pins σ H { s with heap:=h' }:=I.turned (t':=s.toks) (fun b o hb e=>(sb.2 b hb).trans e) f0 f1 f3 f4 f5
  obtain ⟨o,e,c,d⟩:=id st'
  exact ⟨u,rfl,Hh (s:={ s with heap:=h' }) e c d (by decide) ⟨x,H,I1,ru,⟨rfl,fun ys hy=>by rw [I.list_inj hy hq];exact hx⟩,st',fun b hb=>(hf b hb).1⟩⟩
 done:=by
  intro X hP hw hK hc i pins s σ H E I hf st hg
  subst hP hw hK
  obtain ⟨xs,hq,hx⟩:=hg
  obtain ⟨its,rv,p,hz⟩:=I.list hq
  obtain ⟨f0,f1,f2,f3,f4,f5⟩:=hf it (by simp)
  have hl:=rv.length
  exact wpAny_pyNext_list_end (I.ok.hd hc) st p.isList (by simp;omega) fun h' eb=>⟨rfl,I.turned (t':=s.toks) (fun b o hb e=>eb b o hb e) f0 f1 f3 f4 f5⟩
 self:=fun _ _ _ _ _ st h=>wpAny_pyIter_listiter st h
theorem Ar {P:Program} {w:World} {K:PySem.W.Frag} {tg:Expr} (a it:Addr):Turn P w K tg (Itt K a) [it] it (fun i h=>h.IsTupleIter it a i) where
 mem:=by simp
 obj:=fun i h st b hb=>by
  have e:b=it:=by simpa using hb
  subst e
  obtain ⟨o,e,c,d⟩:=st
  exact ⟨o,e,fun v z=>by rw [d] at z;cases z⟩
 keep:=fun i h h' st k=>st.at fun o e=>k it (by simp) o e
 item:=by
  intro X hP hw hK hc i pins s σ H E I hf st hg
  subst hP hw hK
  obtain ⟨xs,x,hq,hx⟩:=hg
  obtain ⟨its,rv,p,hz⟩:=I.tuple hq
  obtain ⟨u,hu,ru⟩:=rv.get hx
  obtain ⟨f0,f1,f2,f3,f4,f5⟩:=hf it (by simp)
  refine wpAny_pyNext_tuple_item st (show s.heap.IsTuple a its.toArray from p) (x:=u) (by simpa using hu) fun h' st' sb=>?_
  have I1:Inv X pins σ H { s with heap:=h' }:=I.turned (t':=s.toks) (fun b o hb e=>(sb.2 b hb).trans e) f0 f1 f3 f4 f5
  obtain ⟨o,e,c,d⟩:=id st'
  exact ⟨u,rfl,Hh (s:={ s with heap:=h' }) e c d (by decide) ⟨x,H,I1,ru,⟨rfl,fun ys hy=>by rw [I.tuple_inj hy hq];exact hx⟩,st',fun b hb=>(hf b hb).1⟩⟩
 done:=by
  intro X hP hw hK hc i pins s σ H E I hf st hg
  subst hP hw hK
  obtain ⟨xs,hq,hx⟩:=hg
  obtain ⟨its,rv,p,hz⟩:=I.tuple hq
  obtain ⟨f0,f1,f2,f3,f4,f5⟩:=hf it (by simp)
  have hl:=rv.length
  exact wpAny_pyNext_tuple_end (I.ok.hd hc) st (show s.heap.IsTuple a its.toArray from p) (by simp;omega) fun h' eb=>⟨rfl,I.turned (t':=s.toks) (fun b o hb e=>eb b o hb e) f0 f1 f3 f4 f5⟩
 self:=fun _ _ _ _ _ st h=>wpAny_pyIter_tupleiter st h
theorem Av {P:Program} {w:World} {K:PySem.W.Frag} {tg:Expr} (it:Addr) (lo:Int) (n:Nat):Turn P w K tg (Itr lo n) [it] it (fun i h=>IsRangeIter h it (lo + (i:Nat) * 1) ((n:Int) - (i:Nat)) 1) where
 mem:=by simp
 obj:=fun i h st b hb=>by
  have e:b=it:=by simpa using hb
  subst e
  exact ⟨_,st,fun v z=>by
   have z':Data.fields _=Data.cell v:=z
   cases z'⟩
 keep:=fun i h h' st k=>k it (by simp) _ st
 item:=by
  intro X hP hw hK hc i pins s σ H E I hf st hg
  subst hP hw hK
  obtain ⟨f0,f1,f2,f3,f4,f5⟩:=hf it (by simp)
  have W:=Walks.range (prog:=X.prog) (w:=X.w) (I.ok.hd hc) it lo 1 n
  refine W.item i s _ _ hg st fun v h' tk hv st' kk=>?_
  obtain ⟨t,rfl⟩:=hv
  have I1:Inv X pins σ H { s with heap:=h',toks:=tk }:=I.turned (fun b o hb e=>kk b o (by simpa using hb) e) f0 f1 f3 f4 f5
  refine ⟨_,rfl,Hh (s:={ s with heap:=h',toks:=tk }) (n := "range_iterator") st' rfl rfl (by decide) ⟨.int (lo + i),H,I1,⟨t,?_⟩,⟨rfl,rfl⟩,st',fun b hb=>(hf b hb).1⟩⟩
  rw [Int.mul_one]
 done:=by
  intro X hP hw hK hc i pins s σ H E I hf st hg
  subst hP hw hK
  obtain ⟨f0,f1,f2,f3,f4,f5⟩:=hf it (by simp)
  exact wpAny_pyNext_range_end (I.ok.hd hc) st (by have:n ≤ i:=hg;omega) fun h' eb=>⟨rfl,I.turned (t':=s.toks) (fun b o hb e=>eb b o hb e) f0 f1 f3 f4 f5⟩
 self:=fun _ _ _ _ _ st h=>wpAny_pyIter_rangeiter st h
end L2
namespace L2
open PySem PySem.Spec PyProof.Rows
section
variable {X:Cx} {tg:Expr}
def T8 (K:PySem.W.Frag) (tl:TE):TI:=fun σ H R=>tl σ H fun x H1=>∃ a,x = .ref a∧(∃ xs,SqL K H1 a xs)∧R (Itl K a) H1
def Wu (K:PySem.W.Frag) (tl:TE):TI:=fun σ H R=>tl σ H fun x H1=>∃ a,x = .ref a∧(∃ xs,SqT K H1 a xs)∧R (Itt K a) H1
theorem Dq {l:Expr} {tl:TE} (hl:PE X l tl):PI X tg l (T8 X.K tl):=by
 intro pins s σ H R I h
 refine thn (hl pins s σ H _ I h) fun v s1 ⟨x,H1,I1,r1,q1⟩=>?_
 obtain ⟨a,e,⟨xs,hq⟩,q⟩:=q1
 subst e
 cases r1
 obtain ⟨its,rv,p,hz⟩:=I1.list hq
 refine wpAny_pyIter_list p.isList ?_
 refine ⟨s1.heap.objs.size,[s1.heap.objs.size],_,_,H1,rfl,I1.kept (t':=s1.toks) fun b o e=>Heap.get?_push_of_some _ e,Eu a _,⟨_,Heap.get?_push_size _ rfl,rfl,rfl⟩,fun b hb=>?_,q⟩
 have e:b=s1.heap.objs.size:=by simpa using hb
 subst e
 exact I1.fpOk (bG _) (I1.hok.fresh (bG _))
theorem Qs {l:Expr} {tl:TE} (hl:PE X l tl):PI X tg l (Wu X.K tl):=by
 intro pins s σ H R I h
 refine thn (hl pins s σ H _ I h) fun v s1 ⟨x,H1,I1,r1,q1⟩=>?_
 obtain ⟨a,e,⟨xs,hq⟩,q⟩:=q1
 subst e
 cases r1
 obtain ⟨its,rv,p,hz⟩:=I1.tuple hq
 refine wpAny_pyIter_tuple (show s1.heap.IsTuple a its.toArray from p) ?_
 refine ⟨s1.heap.objs.size,[s1.heap.objs.size],_,_,H1,rfl,I1.kept (t':=s1.toks) fun b o e=>Heap.get?_push_of_some _ e,Ar a _,⟨_,Heap.get?_push_size _ rfl,rfl,rfl⟩,fun b hb=>?_,q⟩
 have e:b=s1.heap.objs.size:=by simpa using hb
 subst e
 exact I1.fpOk (bG _) (I1.hok.fresh (bG _))
theorem Hi {pins:List (Addr × Obj)} {σ:St} {H:Hp} {s:Shared} {R:It→Hp→Prop} {E:Value→Shared→Prop} {lo hi:Int} {t u v:Tok} {tk:Nat} (I:Inv X pins σ H s) (h1 : -(2 ^ 62) ≤ lo) (h2:lo < 2 ^ 62) (h3 : -(2 ^ 62) ≤ hi) (h4:hi < 2 ^ 62)
 (q:R (Itr lo (hi - lo).toNat) H):wpAny (model X.prog X.w) X.A (pyIter (.ref s.heap.objs.size)) (PIE X pins σ tg R) E { s with heap:=s.heap.push { cls:=.type "range", data:=.fields #[.int lo t,.int hi u,.int 1 v] },toks:=tk }:=by
 refine wpAny_pyIter_range (IsRange.new ..) (small_one h1 h2 h3 h4) ?_
 have I1:Inv X pins σ H { s with heap:=s.heap.push { cls:=.type "range", data:=.fields #[.int lo t,.int hi u,.int 1 v] },toks:=tk }:=I.kept fun b o e=>Heap.get?_push_of_some _ e
 refine ⟨(s.heap.push { cls:=.type "range", data:=.fields #[.int lo t,.int hi u,.int 1 v] }).objs.size,[(s.heap.push { cls:=.type "range", data:=.fields #[.int lo t,.int hi u,.int 1 v] }).objs.size],_,_,H,rfl,
  I1.kept (t':=tk) fun b o e=>Heap.get?_push_of_some _ e,Av _ lo (hi - lo).toNat,?_,fun b hb=>?_,q⟩
 ·have e1:lo + ((0:Nat):Int) * 1=lo:=by simp
  have e2:(((hi - lo).toNat:Nat):Int) - ((0:Nat):Int)=Builtin.Range.rangeSize lo hi 1:=by rw [rangeSize_one];split <;> omega
  show IsRangeIter _ _ (lo + ((0:Nat):Int) * 1) ((((hi - lo).toNat:Nat):Int) - ((0:Nat):Int)) 1
  rw [e1,e2]
  exact Heap.get?_push_size _ rfl
 ·have e:b=(s.heap.push { cls:=.type "range", data:=.fields #[.int lo t,.int hi u,.int 1 v] }).objs.size:=by simpa using hb
  subst e
  exact I1.fpOk (bG _) (I1.hok.fresh (bG _))
def T9 (ta:TA):TI:=fun σ H R=>ta σ H fun vs H1=>∃ j:Int,vs=[.int j]∧-(2 ^ 62) ≤ j∧j < 2 ^ 62∧R (Itr 0 j.toNat) H1
theorem Ew {a:Expr} {ta:TA} {p pos:Pos} (hg:Gl X "range") (hm:X.mg "range" = none) (ha:PA X [a] ta) (hs:starEach [a] X.env=[(false,eval a X.env)]:=by rfl):PI X tg (.Call (.Name "range" p) [a] [] pos) (T9 ta):=by
 intro pins s σ H R I h
 refine Call_ (sG I hg hm boot_range (PyProof.Rows.callWith_type1 (thn (ha pos pins s σ H _ I h) fun us s1 ⟨vs,H1,I1,r1,q1⟩=>?_) hs rfl))
 obtain ⟨j,e,q1,q2,q⟩:=q1
 subst e
 cases r1 with
 | cons r rr =>
  cases rr
  obtain ⟨t,rfl⟩:=r
  exact call_range_1 (Hi I1 (by omega) (by omega) q1 q2 (by simpa using q))
def Wv (wi:TI) (g:TG) (tb:TS):TS:=fun D σ H=>wi σ H fun J H1=>∃ W:Nat→Nat→St→Hp→Prop,(∃ m,W 0 m σ H1)∧∀ i m σ H,W i m σ H →
 (J.stop i H∧D.nx σ H)∨(J.go i H∧∃ N:St→Hp→Prop,(∀ σ' H',N σ' H'→∃ m',m' < m∧W (i + 1) m' σ' H')∧∀ x H',J.yld i H x H'→g x σ H' fun σ2 H2=>tb { D with nx:=N,ct:=N,bk:=D.nx } σ2 H2)
def uG (fp:List Addr) (h:Heap):List (Addr × Obj):=fp.filterMap fun b=>(h.get? b).map fun o=>(b,o)
theorem nQ {fp:List Addr} {h:Heap} {b:Addr} {o:Obj} (hb:b ∈ fp) (e:h.get? b=some o):(b,o) ∈ uG fp h:=gw.mpr ⟨b,hb,by rw [e];rfl⟩
theorem Ey {fp:List Addr} {h:Heap} {p:Addr × Obj} (hp:p ∈ uG fp h):p.1 ∈ fp∧h.get? p.1=some p.2:=by
 obtain ⟨b,hb,e⟩:=gw.mp hp
 cases q:h.get? b with
 | none=>rw [q] at e;cases e
 | some o =>
  rw [q] at e
  have e':(b,o)=p:=cX.inj e
  subst e'
  exact ⟨hb,q⟩
theorem Inv.pinned {pins:List (Addr × Obj)} {σ:St} {H:Hp} {s:Shared} {fp:List Addr} (I:Inv X pins σ H s) (hf:∀ b ∈ fp,sH X pins H b) (ho:∀ b ∈ fp,∃ o,s.heap.get? b=some o∧∀ v,o.data ≠ .cell v):Inv X (pins++uG fp s.heap) σ H s :=
 I.pins_of fun p hp=>(bM.mp hp).elim (fun z=>I.pin p (aX _ z)) fun z=>by
  obtain ⟨hb,e⟩:=Ey z
  obtain ⟨f0,f1,f2,_⟩:=hf p.1 hb
  obtain ⟨o,e',d⟩:=ho p.1 hb
  rw [e] at e';cases e'
  exact ⟨e,f0,f1,f2,d⟩
theorem Inv.unpinned {pins pl:List (Addr × Obj)} {σ:St} {H:Hp} {s:Shared} (I:Inv X (pins++pl) σ H s):Inv X pins σ H s:=I.pins_of fun p hp=>I.pin p (aX _ (bF _ hp))
theorem Hj {iter:Expr} {body:List Stmt} {wi:TI} {g:TG} {tb:TS} {pos:Pos} (hp:PassesOwn (model X.prog X.w) X.A X.env X.xe) (hc:X.calm=true) (hi:PI X tg iter wi) (hg:PG X tg g) (hb:PSs X body tb)
 (hs:∀ x,foldedSetIterable iter X.env x=pure x:=by intro _;rfl):PS X (.For tg iter body [] pos) (Wv wi g tb):=by
 intro pins s σ H D I h
 refine wpAny_For (thn (hi pins s σ H _ I h) fun v s1 h1=>thn h1 fun itv s2 h2=>?_) hs
 obtain ⟨it,fp,tn,J,H2,e,I2,T,st2,f2,W,⟨m0,w0⟩,turn⟩:=h2
 subst e
 have stat:∀ {H':Hp},(∀ b ∈ fp,H' b=none)→∀ b ∈ fp,sH X pins H' b:=fun hn b hb=>⟨hn b hb,(f2 b hb).2⟩
 refine codeAny_forLoop_any (fun n s'=>∃ i σ' H',Inv X pins σ' H' s'∧tn i s'.heap∧(∀ b ∈ fp,H' b=none)∧W i n σ' H') ?_ m0 ⟨0,σ,H2,I2,st2,fun b hb=>(f2 b hb).1,w0⟩
 rintro n s3 ⟨i,σ3,H3,I3,st3,fr3,w3⟩
 rcases turn i n σ3 H3 w3 with ⟨stop,qn⟩ | ⟨go,N,hN,step⟩
 ·refine wpAny_passesOwn hp (thn (T.done X rfl rfl rfl hc i pins s3 σ3 H3 X.xe I3 (stat fr3) st3 stop) fun r s4 ⟨hr,I4⟩=>?_)
  subst hr
  exact wpAny_execs_nil ⟨σ3,H3,I4,qn⟩
 ·refine wpAny_passesOwn hp (thn (T.item X rfl rfl rfl hc i pins s3 σ3 H3 X.xe I3 (stat fr3) st3 go) fun r s4 ⟨u,hr,h4⟩=>?_)
  subst hr
  refine wpAny_passesOwn hp (thn h4 fun _ s5 ⟨x,H5,I5,r5,y5,st5,fr5⟩=>?_)
  have I5':=I5.pinned (stat fr5) (T.obj _ _ st5)
  refine wpAny_passesOwn hp (thn (hg _ s5 σ3 H5 x u _ I5' r5 (step x H5 y5)) fun _ s6 ⟨σ6,H6,I6,q6⟩=>?_)
  refine wpAny_passesOwn hp (thn (hb _ s6 σ6 H6 _ I6 q6) fun f s7 q7=>?_)
  have again:∀ {σ7:St} {H7:Hp},Inv X (pins++uG fp s5.heap) σ7 H7 s7→N σ7 H7→∃ m,m < n∧∃ i σ' H',Inv X pins σ' H' s7∧tn i s7.heap∧(∀ b ∈ fp,H' b=none)∧W i m σ' H':=fun {σ7 H7} I7 n7=>by
   obtain ⟨m',hm,w7⟩:=hN σ7 H7 n7
   refine ⟨m',hm,i + 1,σ7,H7,I7.unpinned,T.keep _ _ _ st5 fun b hb o e=>(I7.pin (b,o) (aX _ (aX _ (nQ hb e)))).1,fun b hb=>?_,w7⟩
   obtain ⟨o,e,d⟩:=T.obj _ _ st5 b hb
   exact (I7.pin (b,o) (aX _ (aX _ (nQ hb e)))).2.1
  cases f with
  | next=>obtain ⟨σ7,H7,I7,n7⟩:=q7;exact again I7 n7
  | cont=>obtain ⟨σ7,H7,I7,n7⟩:=q7;exact again I7 n7
  | brk=>obtain ⟨σ7,H7,I7,q7⟩:=q7;exact ⟨σ7,H7,I7.unpinned,q7⟩
  | ret v=>obtain ⟨x7,σ7,H7,I7,r7,q7⟩:=q7;exact ⟨x7,σ7,H7,I7.unpinned,r7,q7⟩
end
end L2
namespace L2
open PySem PySem.Spec PyProof.Rows
abbrev R2:=V→V→Hp→VK→Prop
def OpR (X:Cx) (f:Value→Value→Sem Value) (r:R2):Prop :=
 ∀ (pins:List (Addr × Obj)) (s:Shared) (σ:St) (H:Hp) (x y:V) (v u:Value) (Q:VK),Inv X pins σ H s→RelV x v→RelV y u→r x y H Q →
  wpAny (model X.prog X.w) X.A (f v u) (EP X pins σ Q) X.xe s
def UnR (X:Cx) (f:Value→Sem Value) (r:V→Hp→VK→Prop):Prop :=
 ∀ (pins:List (Addr × Obj)) (s:Shared) (σ:St) (H:Hp) (x:V) (v:Value) (Q:VK),Inv X pins σ H s→RelV x v→r x H Q →
  wpAny (model X.prog X.w) X.A (f v) (EP X pins σ Q) X.xe s
def mL (X:Cx) (f:Value) (r:List V→Hp→VK→Prop):Prop :=
 ∀ (pins:List (Addr × Obj)) (s:Shared) (σ:St) (H:Hp) (xs:List V) (us:List Value) (Q:VK),Inv X pins σ H s→Vals xs us→r xs H Q →
  wpAny (model X.prog X.w) X.A (call f us) (EP X pins σ Q) X.xe s
def tOp (r:R2) (ta tb:TE):TE:=fun σ H Q=>ta σ H fun x H1=>tb σ H1 fun y H2=>r x y H2 Q
def tUn (r:V→Hp→VK→Prop) (ta:TE):TE:=fun σ H Q=>ta σ H fun x H1=>r x H1 Q
def rI (C:Int→Int→Prop) (g:Int→Int→V):R2:=fun x y H Q=>∃ i j,x = .int i∧y = .int j∧C i j∧Q (g i j) H
def rI0 (g:Int→Int→V):R2:=fun x y H Q=>∃ i j,x = .int i∧y = .int j∧Q (g i j) H
def rU (g:Int→V):V→Hp→VK→Prop:=fun x H Q=>∃ i,x = .int i∧Q (g i) H
section
variable {X:Cx} {a b c:Expr} {ta tb tc:TE} {pos:Pos}
theorem Qt (ha:PE X a ta) (hb:PE X b tb) {pins:List (Addr × Obj)} {s:Shared} {σ:St} {H:Hp} {R:V→V→Hp→Prop} (I:Inv X pins σ H s)
 (h:ta σ H fun x H1=>tb σ H1 fun y H2=>R x y H2) {Q:Value→Shared→Prop} {f:Value→Value→Sem Value}
 (hf:∀ v u s2 x y H2,Inv X pins σ H2 s2→RelV x v→RelV y u→R x y H2→wpAny (model X.prog X.w) X.A (f v u) Q X.xe s2) :
 wpAny (model X.prog X.w) X.A (eval a X.env) (fun v s₁=>wpAny (model X.prog X.w) X.A (eval b X.env) (fun u s₂=>wpAny (model X.prog X.w) X.A (f v u) Q X.xe s₂) X.xe s₁) X.xe s:=by
 refine thn (ha pins s σ H _ I h) fun v s1 ⟨x,H1,I1,r1,q1⟩=>?_
 refine thn (hb pins s1 σ H1 _ I1 q1) fun u s2 ⟨y,H2,I2,r2,q2⟩=>?_
 exact hf v u s2 x y H2 I2 r1 r2 q2
theorem Hl {op:Operator} {r:R2} (ho:OpR X (binaryOp op) r) (ha:PE X a ta) (hb:PE X b tb):PE X (.BinOp a op b pos) (tOp r ta tb):=by
 intro pins s σ H Q I h
 exact wpAny_BinOp (Qt ha hb I h fun v u s2 x y H2 I2 rx ry q=>ho pins s2 σ H2 x y v u Q I2 rx ry q)
theorem T_ {op:UnaryOp} {r:V→Hp→VK→Prop} (ho:UnR X (unaryOp op) r) (ha:PE X a ta):PE X (.UnaryOp op a pos) (tUn r ta):=by
 intro pins s σ H Q I h
 exact UnaryOp_ (thn (ha pins s σ H _ I h) fun v s1 ⟨x,H1,I1,r1,q1⟩=>ho pins s1 σ H1 x v Q I1 r1 q1)
theorem opI {f:Value→Value→Sem Value} {C:Int→Int→Prop} {g:Int→Int→Int}
 (rule:∀ (i j:Int) (t u:Tok) (s:Shared) (Q:Value→Shared→Prop) (E:Value→Shared→Prop),C i j→Q (.int (g i j) s.toks) { s with toks:=s.toks + 1 }→wpAny (model X.prog X.w) X.A (f (.int i t) (.int j u)) Q E s) :
 OpR X f (rI C fun i j=>.int (g i j)):=by
 intro pins s σ H x y v u Q I rx ry h
 obtain ⟨i,j,rfl,rfl,hc,q⟩:=h
 obtain ⟨t,rfl⟩:=rx
 obtain ⟨t',rfl⟩:=ry
 exact rule i j t t' s _ _ hc ⟨.int (g i j),H,I.tok _,⟨_,rfl⟩,q⟩
theorem Ua {f:Value→Value→Sem Value} {g:Int→Int→Int}
 (rule:∀ (i j:Int) (t u:Tok) (s:Shared) (Q:Value→Shared→Prop) (E:Value→Shared→Prop),Q (.int (g i j) s.toks) { s with toks:=s.toks + 1 }→wpAny (model X.prog X.w) X.A (f (.int i t) (.int j u)) Q E s) :
 OpR X f (rI0 fun i j=>.int (g i j)):=by
 intro pins s σ H x y v u Q I rx ry h
 obtain ⟨i,j,rfl,rfl,q⟩:=h
 obtain ⟨t,rfl⟩:=rx
 obtain ⟨t',rfl⟩:=ry
 exact rule i j t t' s _ _ ⟨.int (g i j),H,I.tok _,⟨_,rfl⟩,q⟩
theorem KH {f:Value→Value→Sem Value} {g:Int→Int→Bool}
 (rule:∀ (i j:Int) (t u:Tok) (s:Shared) (Q:Value→Shared→Prop) (E:Value→Shared→Prop),Q (.bool (g i j)) s→wpAny (model X.prog X.w) X.A (f (.int i t) (.int j u)) Q E s) :
 OpR X f (rI0 fun i j=>.bl (g i j)):=by
 intro pins s σ H x y v u Q I rx ry h
 obtain ⟨i,j,rfl,rfl,q⟩:=h
 obtain ⟨t,rfl⟩:=rx
 obtain ⟨t',rfl⟩:=ry
 exact rule i j t t' s _ _ ⟨.bl (g i j),H,I,rfl,q⟩
def Qu (i j:Int):Prop:=0 ≤ j∧j ≤ 1000000∧i.natAbs < 2 ^ 64
theorem fH:OpR X (binaryOp .Add) (rI0 fun i j=>.int (i + j)):=Ua fun _ _ _ _ _ _ _ q=>add_int q
theorem uH:OpR X (binaryOp .Sub) (rI0 fun i j=>.int (i - j)):=Ua fun _ _ _ _ _ _ _ q=>sub_int q
theorem lA:OpR X (binaryOp .Mod) (rI (fun _ j=>j ≠ 0) fun i j=>.int (i.fmod j)):=opI fun _ _ _ _ _ _ _ hc q=>mod_int' hc q
theorem Qw:OpR X (binaryOp .Pow) (rI Qu fun i j=>.int (i ^ j.toNat)):=opI fun _ _ _ _ _ _ _ hc q=>pow_int_small hc.1 hc.2.1 hc.2.2 q
theorem unI {f:Value→Sem Value} {g:Int→Int}
 (rule:∀ (i:Int) (t:Tok) (s:Shared) (Q:Value→Shared→Prop) (E:Value→Shared→Prop),Q (.int (g i) s.toks) { s with toks:=s.toks + 1 }→wpAny (model X.prog X.w) X.A (f (.int i t)) Q E s) :
 UnR X f (rU fun i=>.int (g i)):=by
 intro pins s σ H x v Q I rx h
 obtain ⟨i,rfl,q⟩:=h
 obtain ⟨t,rfl⟩:=rx
 exact rule i t s _ _ ⟨.int (g i),H,I.tok _,⟨_,rfl⟩,q⟩
theorem Qx:UnR X (unaryOp .USub) (rU fun i=>.int (-i)):=unI fun _ _ _ _ _ q=>neg_int q
end
section
variable {X:Cx} {a b c:Expr} {ta tb tc:TE} {pos:Pos}
theorem mO:OpR X (compareOp .Lt) (rI0 fun i j=>.bl (decide (i < j))):=KH fun _ _ _ _ _ _ _ q=>lt_int q
theorem rC:OpR X (compareOp .LtE) (rI0 fun i j=>.bl (decide (i ≤ j))):=KH fun _ _ _ _ _ _ _ q=>le_int q
theorem Dr:OpR X (compareOp .Gt) (rI0 fun i j=>.bl (decide (j < i))):=KH fun _ _ _ _ _ _ _ q=>gt_int q
theorem wA:OpR X (compareOp .GtE) (rI0 fun i j=>.bl (decide (j ≤ i))):=KH fun _ _ _ _ _ _ _ q=>ge_int q
theorem cO (b:Expr) {op:CmpOp} (h:op ≠ .In:=by decide) (h2:op ≠ .NotIn:=by decide):behindInMarks op b=false:=by
 have e1:(op == CmpOp.In)=false:=by cases op <;> first | rfl | exact absurd rfl h
 have e2:(op == CmpOp.NotIn)=false:=by cases op <;> first | rfl | exact absurd rfl h2
 cases b <;> simp [behindInMarks,e1,e2]
theorem KJ {op:CmpOp} {r:R2} (ho:OpR X (compareOp op) r) (ha:PE X a ta) (hb:PE X b tb) (hm:behindInMarks op b=false):PE X (.Compare a [op] [b] pos) (tOp r ta tb):=by
 intro pins s σ H Q I h
 exact wpAny_Compare1 (Qt ha hb I h fun v u s2 x y H2 I2 rx ry q=>ho pins s2 σ H2 x y v u Q I2 rx ry q) hm
def Ub (t:TE):TT:=fun σ H Q=>t σ H fun x H'=>∃ k,x = .bl k∧Q k H'
theorem KN {op:CmpOp} {r:R2} (ho:OpR X (compareOp op) r) (ha:PE X a ta) (hb:PE X b tb) (hm:behindInMarks op b=false):PT X (.Compare a [op] [b] pos) (Ub (tOp r ta tb)):=by
 intro pins s σ H Q I h
 refine wpAny_isTrue_Compare1 (thn (ha pins s σ H _ I h) fun v s1 ⟨x,H1,I1,r1,q1⟩=>thn (hb pins s1 σ H1 _ I1 q1) fun u s2 ⟨y,H2,I2,r2,q2⟩ =>
  thn (ho pins s2 σ H2 x y v u _ I2 r1 r2 q2) fun c s3 ⟨z,H3,I3,r3,k,e,q3⟩=>?_) hm
 subst e
 cases r3
 exact wpAny_truthy_bool ⟨H3,I3,q3⟩
def Qy (r r':R2) (ta tb tc:TE):TE:=fun σ H Q=>ta σ H fun x H1=>tb σ H1 fun y H2=>r x y H2 fun z H3=>∃ k,z = .bl k ∧
 (if k=true then tc σ H3 fun w' H4=>r' y w' H4 Q else Q (.bl false) H3)
theorem Ho {op op':CmpOp} {r r':R2} (ho:OpR X (compareOp op) r) (ho':OpR X (compareOp op') r') (ha:PE X a ta) (hb:PE X b tb) (hc:PE X c tc)
 (hm:lastMarks [op,op'] [b,c]=false:=by with_unfolding_all rfl):PE X (.Compare a [op,op'] [b,c] pos) (Qy r r' ta tb tc):=by
 intro pins s σ H Q I h
 refine Compare_chain (thn (ha pins s σ H _ I h) fun v s1 ⟨x,H1,I1,r1,q1⟩=>chain_link (thn (hb pins s1 σ H1 _ I1 q1) fun u s2 ⟨y,H2,I2,r2,q2⟩ =>
  thn (ho pins s2 σ H2 x y v u _ I2 r1 r2 q2) fun d s3 ⟨z,H3,I3,r3,k,e,q3⟩=>?_)) hm
 subst e
 cases r3
 refine wpAny_truthy_bool ?_
 cases k with
 | false=>exact ite_ff ⟨.bl false,H3,I3,rfl,q3⟩
 | true=>exact ite_tt (chain_last (thn (hc pins s3 σ H3 _ I3 q3) fun w' s4 ⟨z',H4,I4,r4,q4⟩=>ho' pins s4 σ H4 y z' u w' Q I4 r2 r4 q4))
theorem sI:(sizeLine:Nat) < 2 ^ 63:=by rw [sizeLine_eq];decide
theorem vals1 {x:V} {us:List Value} (r:Vals [x] us):∃ u,us=[u]∧RelV x u:=by
 cases r with
 | cons r1 r2=>cases r2;exact ⟨_,rfl,r1⟩
theorem vals2 {x y:V} {us:List Value} (r:Vals [x,y] us):∃ u w',us=[u,w']∧RelV x u∧RelV y w':=by
 cases r with
 | cons r1 r2 =>
  cases r2 with
  | cons r3 r4=>cases r4;exact ⟨_,_,rfl,r1,r3⟩
theorem jT (hc:X.calm=true):mL X (.builtin "max") (fun xs H Q=>∃ i j,xs=[.int i,.int j]∧Q (.int (if j > i then j else i)) H):=by
 intro pins s σ H xs us Q I r h
 obtain ⟨i,j,rfl,q⟩:=h
 obtain ⟨u,w',rfl,⟨t,rfl⟩,⟨t',rfl⟩⟩:=vals2 r
 refine max_two_ints (I.ok.hd hc) fun h' tk k=>⟨_,H,I.kept k,?_,q⟩
 by_cases hj:j > i
 ·rw [if_pos hj,if_pos hj];exact ⟨_,rfl⟩
 ·rw [if_neg hj,if_neg hj];exact ⟨_,rfl⟩
theorem jU (hc:X.calm=true):mL X (.builtin "min") (fun xs H Q=>∃ i j,xs=[.int i,.int j]∧Q (.int (if j < i then j else i)) H):=by
 intro pins s σ H xs us Q I r h
 obtain ⟨i,j,rfl,q⟩:=h
 obtain ⟨u,w',rfl,⟨t,rfl⟩,⟨t',rfl⟩⟩:=vals2 r
 refine min_two_ints (I.ok.hd hc) fun h' tk k=>⟨_,H,I.kept k,?_,q⟩
 by_cases hj:j < i
 ·rw [if_pos hj,if_pos hj];exact ⟨_,rfl⟩
 ·rw [if_neg hj,if_neg hj];exact ⟨_,rfl⟩
theorem Ez:mL X (.type "int") (fun xs H Q=>(∃ i,xs=[.int i]∧Q (.int i) H)∨∃ k,xs=[.bl k]∧Q (.int (if k then 1 else 0)) H):=by
 intro pins s σ H xs us Q I r h
 rcases h with ⟨i,rfl,q⟩ | ⟨k,rfl,q⟩
 ·obtain ⟨u,rfl,t,rfl⟩:=vals1 r
  exact call_int_int ⟨.int i,H,I,⟨_,rfl⟩,q⟩
 ·obtain ⟨u,rfl,r1⟩:=vals1 r
  cases r1
  exact call_int_bool ⟨.int (if k then 1 else 0),H,I.tok _,⟨_,rfl⟩,q⟩
end
end L2
namespace L2
open PySem PySem.Spec PyProof.Rows
structure ObjM (h:Heap) (x dx C:Addr) (mA:Str→Option Value):Prop where
 obj:h.get? x=some (PySem.W.instObj C dx)
 ns:h.Ns1 dx mA
 ne:dx ≠ x
theorem wC {h:Heap} {dx:Addr} {mA:Str→Option Value} (n:h.Ns1 dx mA):∃ od,h.get? dx=some od∧∀ name,PySem.W.lookIn name od=some (mA name):=by
 obtain ⟨o,es,ep,ho,hd,hk,_,hm⟩:=n
 refine ⟨o,ho,fun name=>?_⟩
 have e:=hm name
 unfold nsFind findBy at e
 rw [← pZ] at e
 unfold PySem.W.lookIn
 rw [hd]
 dsimp only
 split
 ·rename_i y q
  rw [q] at e
  exact congrArg some e
 ·rename_i q
  rw [q] at e
  have a:es.toList.any (·.refKey)=false:=by
   rw [List.any_eq_false]
   intro y hy
   obtain ⟨z,t,hkey⟩:=hk y (oJ.mp hy)
   simp [DictEntry.refKey,hkey]
  have a':¬ es.toList.any (·.refKey)=true:=by rw [a];exact gA
  rw [if_neg a']
  exact congrArg some e
theorem ObjM.look {h:Heap} {x dx C:Addr} {mA:Str→Option Value} (I:ObjM h x dx C mA):∃ od,PySem.W.InstAt h x (PySem.W.instObj C dx) C (some od)∧∀ name,PySem.W.lookIn name od=some (mA name) :=
 let ⟨od,ho,hl⟩:=wC I.ns
 ⟨od,⟨I.obj,rfl,rfl,ho⟩,hl⟩
section
variable {prog:Program} {w:World} {A:Around} {E:Value→Shared→Prop} {s:Shared} {K:PySem.W.Frag} {x dx C f:Addr} {mA:Str→Option Value} {name:Str} {v:Value}
end
theorem EY {v:V} {u:Value} (r:RelV v u):PySem.W.handedIn u=true:=by
 cases v with
 | non=>cases (show u=Value.none from r);rfl
 | bl b=>cases (show u=Value.bool b from r);rfl
 | int i=>obtain ⟨t,e⟩:=(show ∃ t,u=Value.int i t from r);cases e;rfl
 | str x=>obtain ⟨t,e⟩:=(show ∃ t,u=Value.str x t from r);cases e;rfl
 | byt b=>obtain ⟨t,e⟩:=(show ∃ t,u=Value.bytes b t from r);cases e;rfl
 | flt b=>obtain ⟨t,e⟩:=(show ∃ t,u=Value.float b t from r);cases e;rfl
 | ref a=>cases (show u=Value.ref a from r);rfl
 | ty n=>cases (show u=Value.type n from r);rfl
section
variable {P:Program} {w:World} {H H':Hp} {h h':Heap} {a C dx:Addr} {fs fs':List (Str × V)}
theorem KQ (hok:HOk P w H h) (e:H a=some (.ins C dx fs)):∃ mA,ObjM h a dx C mA∧(∀ f,xR (fs.lookup f) (mA f))∧PySem.Within mA (fs.map (·.1))∧fs.length ≤ 1000∧H dx=some (.own a):=by
 obtain ⟨d,z,ne,ob,mA,n,r,q⟩:=(show gB P w H h a (.ins C dx fs) from hok a _ e)
 exact ⟨mA,⟨ob,n,ne⟩,r,q,z,d⟩
end
structure Cls (K:PySem.W.Frag) (C:Addr):Prop where
 pg:PySem.W.plainGet K C Str.empty=true
 hd:PySem.W.hasDictIn K C=true
 po:PySem.W.plainOver K C=true
 sa:PySem.W.findIn K (.ref C) "__setattr__" = some (some (.builtin "object.__setattr__"))
theorem Cls.get {K:PySem.W.Frag} {C:Addr} (c:Cls K C) (f:Str):PySem.W.plainGet K C f=true:=c.pg
structure Con (K:PySem.W.Frag) (C:Addr) (f:Str) (v:V) (u:Value):Prop where
 at_:PySem.W.findIn K (.ref C) f=some (some u)
 rel:RelV v u
 get:PySem.W.specialIn K u "__get__" = some none
 cp:PySem.W.copiedNames.contains f=false
structure Meth (K:PySem.W.Frag) (C:Addr) (m:Str) (f:Addr):Prop where
 at_:PySem.W.findIn K (.ref C) m=some (some (.ref f))
 fn:PySem.W.isFn K (.ref f)=true
 kp:PySem.W.keepIn K (.ref f)=true
section
variable {X:Cx} {pins:List (Addr × Obj)} {σ:St} {H:Hp} {s:Shared} {a C dx:Addr} {fs:List (Str × V)} {f:Str} {v:V} {A:Around} {E:Value→Shared→Prop}
theorem KR {prog:Program} {w:World} {env:Env} {e:Expr} {f:Str} {pos:Pos} {s:Shared} {Q:Value→Shared→Prop} (hb:attributeBase e f env (eval e env)=eval e env)
 (h:wpAny (model prog w) A (eval e env) (fun o s₁=>wpAny (model prog w) A (getAttr o f true) Q E s₁) E s):wpAny (model prog w) A (eval (.Attribute e f pos) env) Q E s :=
 Attribute_any_ h (by rw [arm_eval_Attribute,hb])
end
section
variable {X:Cx} {o e value:Expr} {f:Str} {pos pos' tpos:Pos} {ta tv:TE}
end
section
variable {X:Cx} {pins:List (Addr × Obj)} {σ:St} {H:Hp} {s:Shared} {A:Around} {E:Value→Shared→Prop} {Q:Value→Shared→Prop} {c:Value} {b:Bool}
inductive TyOf (K:PySem.W.Frag) (H:Hp):V→Value→Prop where
 | non:TyOf K H .non (.type "NoneType")
 | bl (x:Bool):TyOf K H (.bl x) (.type "bool")
 | int (i:Int):TyOf K H (.int i) (.type "int")
 | str (x:Str):TyOf K H (.str x) (.type "str")
 | flt (x:UInt64):TyOf K H (.flt x) (.type "float")
 | lst {a:Addr} {xs:List V} (e:H a=some (.lst xs)):TyOf K H (.ref a) (.type "list")
 | frz {a:Addr} {o:Obj} {xs:List V} (e:H a=some (.frz o (.lst xs))):TyOf K H (.ref a) (.type "list")
 | tup {a:Addr} {xs:List V} (e:H a=some (.tup xs)):TyOf K H (.ref a) (.type "tuple")
 | dK {a:Addr} {kvs:List (Key × V)} (e:H a=some (.dK kvs)):TyOf K H (.ref a) (.type "dict")
 | dT {a:Addr} {kvs:List (List Key × V)} (e:H a=some (.dT kvs)):TyOf K H (.ref a) (.type "dict")
 | ins {a C dx:Addr} {fs:List (Str × V)} (e:H a=some (.ins C dx fs)) (cl:Cls K C) (ha:PySem.W.findIn K (.ref C) "__class__" = some (some (.builtin "object.__class__")))
  (hn:PySem.W.specialIn K (.builtin "object.__class__") "__get__" = some (some (.builtin "getset_descriptor.__get__"))) (htk:PySem.W.takesIn K (.builtin "object.__class__")=some true)
  (hm:PySem.W.mroIn K C (.type "object")=some true):TyOf K H (.ref a) (.ref C)
theorem wD {x:V} {u t:Value} (I:Inv X pins σ H s) (rx:RelV x u) (ty:TyOf X.K H x t) (e:PySem.W.kitOne X.K t c=some b) (h:∀ tk,Q (.bool b) { s with toks:=tk }) :
 wpAny (model X.prog X.w) A (call (.builtin "isinstance") [u,c]) Q E s:=by
 cases ty with
 | non=>cases (show u=Value.none from rx);exact PySem.W.kia_one PySem.W.kitx_none I.kIn True.intro e (fun z=>nomatch z) h
 | bl y=>cases (show u=Value.bool y from rx);exact PySem.W.kia_one PySem.W.kitx_bool I.kIn True.intro e (fun z=>nomatch z) h
 | int i=>obtain ⟨t,q⟩:=(show ∃ t,u=Value.int i t from rx);cases q;exact PySem.W.kia_one PySem.W.kitx_int I.kIn True.intro e (fun z=>nomatch z) h
 | str y=>obtain ⟨t,q⟩:=(show ∃ t,u=Value.str y t from rx);cases q;exact PySem.W.kia_one PySem.W.kitx_str I.kIn True.intro e (fun z=>nomatch z) h
 | flt y=>obtain ⟨t,q⟩:=(show ∃ t,u=Value.float y t from rx);cases q;exact PySem.W.kia_one PySem.W.kitx_float I.kIn True.intro e (fun z=>nomatch z) h
 | @lst a xs ea =>
  cases (show u=Value.ref a from rx)
  obtain ⟨_,_,n,_,h1⟩:=(show gB X.prog X.w H s.heap a (.lst xs) from I.hok a _ ea)
  exact PySem.W.kia_one PySem.W.kitx_list I.kIn ⟨_,h1,rfl⟩ e (fun z=>nomatch z) h
 | @frz a ob xs ea =>
  cases (show u=Value.ref a from rx)
  obtain ⟨_,_,_,n,_,h1⟩:=(show gB X.prog X.w H s.heap a (.frz ob (.lst xs)) from I.hok a _ ea)
  exact PySem.W.kia_one PySem.W.kitx_list I.kIn ⟨_,h1,rfl⟩ e (fun z=>nomatch z) h
 | @tup a xs ea =>
  cases (show u=Value.ref a from rx)
  obtain ⟨_,_,_,p⟩:=(show gB X.prog X.w H s.heap a (.tup xs) from I.hok a _ ea)
  obtain ⟨o,h1,h2,_⟩:=p
  exact PySem.W.kia_one PySem.W.kitx_tuple I.kIn ⟨o,h1,h2⟩ e (fun z=>nomatch z) h
 | @dK a kvs ea =>
  cases (show u=Value.ref a from rx)
  obtain ⟨_,_,vs,_,p⟩:=(show gB X.prog X.w H s.heap a (.dK kvs) from I.hok a _ ea)
  obtain ⟨o,es,ep,h1,h2,_⟩:=p
  exact PySem.W.kia_one PySem.W.kitx_dict I.kIn ⟨o,h1,h2.1⟩ e (fun z=>nomatch z) h
 | @dT a kvs ea =>
  cases (show u=Value.ref a from rx)
  obtain ⟨_,_,xs,_,o,es,ep,h1,h2,_⟩:=(show gB X.prog X.w H s.heap a (.dT kvs) from I.hok a _ ea)
  exact PySem.W.kia_one PySem.W.kitx_dict I.kIn ⟨o,h1,h2.1⟩ e (fun z=>nomatch z) h
 | @ins a C dx fs ea cl ha hn htk hm =>
  cases (show u=Value.ref a from rx)
  obtain ⟨mA,O,_⟩:=KQ I.hok ea
  obtain ⟨od,J,_⟩:=O.look
  exact PySem.W.kia_one (PySem.W.kitx_own (cl.get _) cl.hd ha hn htk hm) I.kIn J e (fun z=>nomatch z) h
end
end L2
namespace L2
open PySem PySem.Spec PyProof.Rows
structure Room (k:Nat) (A:Around):Prop where
 hd:A.handled=none
 dp:A.depth + 3 * k + 5 < recursionLimit
 un:A.units + 16 * k + 200 < cLine
theorem Room.mono {j k:Nat} {A:Around} (r:Room k A) (h:j ≤ k):Room j A:=⟨r.hd,by have:=r.dp;omega,by have:=r.un;omega⟩
theorem Room.deeper {k:Nat} {A:Around} (r:Room (k + 1) A) (env:Env):Room k (A.deeper env) :=
 ⟨r.hd,by have:=r.dp;show A.depth + 1 + 3 * k + 5 < _;omega,by have:=r.un;show A.units + 3 + 16 * k + 200 < _;omega⟩
theorem Aw {A:Around} {C:Addr} {us:List Value} {kw:List (Str × Value)}:(A.under (.builtin "type.__call__" ⟨.ref C :: us,kw⟩)).depth=A.depth + 1:=by
 first | rfl | simp [Around.under,Code.weight,Code.isCreation,Code.isGuard,Code.isCaller,Code.frames,Code.isFrame,guardIds]
theorem Ax {A:Around} {C:Addr} {us:List Value} {kw:List (Str × Value)}:(A.under (.builtin "type.__call__" ⟨.ref C :: us,kw⟩)).units=A.units + 1:=by
 first | rfl | simp [Around.under,Code.cUnits,Code.frames,Code.isFrame]
theorem Room.make {k:Nat} {A:Around} (r:Room (k + 1) A) (C:Addr) (us:List Value) (kw:List (Str × Value)):Room k (A.under (.builtin "type.__call__" ⟨.ref C :: us,kw⟩)) :=
 ⟨r.hd,by have:=r.dp;rw [Aw];omega,by have:=r.un;rw [Ax];omega⟩
theorem Room.depth {k:Nat} {A:Around} (r:Room k A):A.depth < recursionLimit:=by have:=r.dp;omega
theorem Room.units {k:Nat} {A:Around} (r:Room k A):A.units + 64 < cLine:=by have:=r.un;omega
def Uc:TA:=fun _ H Q=>Q [] H
def OD (ta:TE) (tr:TA):TA:=fun σ H Q=>ta σ H fun x H1=>tr σ H1 fun xs H2=>Q (x :: xs) H2
section
variable {X:Cx} {e:Expr} {es:List Expr} {te:TE} {t:TA} {pos:Pos}
theorem lZ:PA X [] Uc:=fun _ _ _ _ H Q I h=>Calls.spliced_nil ⟨[],H,I,.nil,h⟩
theorem iu (ha:PE X e te) (hr:PA X es t) (hs:starEach (e :: es) X.env=(false,eval e X.env) :: starEach es X.env:=by rfl):PA X (e :: es) (OD te t):=by
 intro pos pins s σ H Q I h
 rw [hs]
 show wpAny _ _ (spliced ((false,eval e X.env) :: backTo pos (starEach es X.env))) _ _ s
 refine Calls.spliced_cons (thn (ha pins s σ H _ I h) fun u s1 ⟨x,H1,I1,r1,q1⟩=>?_)
 exact thn (hr pos pins s1 σ H1 _ I1 q1) fun us s2 ⟨xs,H2,I2,r2,q2⟩=>⟨x :: xs,H2,I2,.cons r1 r2,q2⟩
def Ww (t:TA):TE:=fun σ H Q=>t σ H fun xs H1=>xs.length ≤ sizeLine∧∀ p,H1 p=none→Q (.ref p) (upd H1 p (.tup xs))
def Wx (t:TA):TE:=fun σ H Q=>t σ H fun xs H1=>xs.length ≤ sizeLine∧∀ p,H1 p=none→Q (.ref p) (upd H1 p (.lst xs))
theorem Hq {x1} (h:PA X es t):PE X (.Tuple es x1 pos) (Ww t):=by
 intro pins s σ H Q I hq
 refine wpAny_Tuple_spliced (thn (h pos pins s σ H _ I hq) fun us s1 ⟨xs,H1,I1,r,z,q⟩=>⟨by rw [← r.length];exact z,?_⟩)
 have hf:H1 s1.heap.objs.size=none:=I1.hok.fresh (bG _)
 refine ⟨.ref s1.heap.objs.size,upd H1 s1.heap.objs.size (.tup xs),I1.laid (t':=s1.toks) (fun b u e=>Heap.get?_push_of_some _ e) (bG _) ?_,rfl,q _ hf⟩
 exact ⟨z,us,r,⟨_,Heap.get?_push_size _ rfl,rfl,_,rfl⟩⟩
theorem Ay (h:PA X es t):PE X (.List es pos) (Wx t):=by
 intro pins s σ H Q I hq
 refine wpAny_List_spliced (thn (h pos pins s σ H _ I hq) fun us s1 ⟨xs,H1,I1,r,z,q⟩=>⟨by rw [← r.length];exact z,?_⟩)
 have hf:H1 s1.heap.objs.size=none:=I1.hok.fresh (bG _)
 refine ⟨.ref s1.heap.objs.size,upd H1 s1.heap.objs.size (.lst xs),I1.laid (t':=s1.toks) (fun b u e=>Heap.get?_push_of_some _ e) (bG _) ?_,rfl,q _ hf⟩
 exact ⟨z,us,0,r,Heap.get?_push_size _ rfl⟩
end
abbrev Sp:=List V→Hp→VK→XK→Prop
abbrev CXT:=List Env→Hp→Shared→XK→Value→Shared→Prop
structure Env0 (P:Program) (w:World) (K:PySem.W.Frag) (mg:Str→Option Value) (base:Heap) (A:Around) (outer:List Env) (s:Shared) (H:Hp):Prop where
 frames:A.frames=some outer
 mod:Mod K mg base
 bs:∀ b o,base.get? b=some o→s.heap.get? b=some o∧H b=none
 bsz:base.objs.size ≤ s.heap.objs.size
 funs:s.heap.FunFrames base outer
 frf:∀ b ∈ frs outer,H b=none
 hok:HOk P w H s.heap
 bare:AllBare s.gens
def CE (outer:List Env) (P:Program) (w:World) (H:Hp) (s:Shared) (Q:VK) (u:Value) (s':Shared):Prop :=
 ∃ v H',s'.os=s.os∧AllBare s'.gens∧Un (frs outer) [] H H' s.heap s'.heap∧HOk P w H' s'.heap∧RelV v u∧Q v H'
def CR (CX:CXT) (outer:List Env) (P:Program) (w:World) (H:Hp) (s:Shared) (Q:VK) (E:XK) (r:Result) (s':Shared):Prop :=
 match r with
 | .ok (.ret u)=>CE outer P w H s Q u s'
 | .ok _=>False
 | .error e=>CX outer H s E e s'
structure FnOk (P:Program) (w:World) (K:PySem.W.Frag) (mg:Str→Option Value) (base:Heap) (CX:CXT) (k:Nat) (f:Addr) (fd:FuncData) (ps:List Str) (sp:Sp):Prop where
 len:∀ vs H Q E,sp vs H Q E→vs.length=ps.length
 run:∀ (A:Around) (outer:List Env) (s:Shared) (H:Hp) (args:Args) (us:List Value) (vs:List V) (Q:VK) (E:XK),Room k A→Env0 P w K mg base A outer s H→BindsTo s fd args (ps.zip us)→Vals vs us→sp vs H Q E →
  codeAny (model P w) A (.call (.ref f) args) (CR CX outer P w H s Q E) s
theorem FnOk.mono {P:Program} {w:World} {K:PySem.W.Frag} {mg:Str→Option Value} {base:Heap} {CX:CXT} {j k:Nat} {f:Addr} {fd:FuncData} {ps:List Str} {sp:Sp} (F:FnOk P w K mg base CX j f fd ps sp) (h:j ≤ k) :
 FnOk P w K mg base CX k f fd ps sp:=⟨F.len,fun A outer s H args us vs Q E hr=>F.run A outer s H args us vs Q E (hr.mono h)⟩
theorem FnOk.imp {P:Program} {w:World} {K:PySem.W.Frag} {mg:Str→Option Value} {base:Heap} {CX:CXT} {k:Nat} {f:Addr} {fd:FuncData} {ps:List Str} {sp sp':Sp} (F:FnOk P w K mg base CX k f fd ps sp)
 (h:∀ vs H Q E,sp' vs H Q E→sp vs H Q E):FnOk P w K mg base CX k f fd ps sp' :=
 ⟨fun vs H Q E q=>F.len vs H Q E (h _ _ _ _ q),fun A outer s H args us vs Q E hr he hb hv hs=>F.run A outer s H args us vs Q E hr he hb hv (h _ _ _ _ hs)⟩
theorem Env0.make {P:Program} {w:World} {K:PySem.W.Frag} {mg:Str→Option Value} {base:Heap} {A:Around} {outer:List Env} {s:Shared} {H:Hp} (e:Env0 P w K mg base A outer s H) (C:Addr) (us:List Value) (kw:List (Str × Value)) :
 Env0 P w K mg base (A.under (.builtin "type.__call__" ⟨.ref C :: us,kw⟩)) outer s H:=⟨by first | exact e.frames | (simpa [Around.under,Code.envs,Code.isFrame,pushEnvs] using e.frames),e.mod,e.bs,e.bsz,e.funs,e.frf,e.hok,e.bare⟩
section
variable {X:Cx} {pins:List (Addr × Obj)} {σ:St} {H:Hp} {s s':Shared}
theorem Inv.env0 (I:Inv X pins σ H s):Env0 X.prog X.w X.K X.mg X.base X.A X.stack s H :=
 ⟨I.ok.frames,I.ok.mod,I.bs,bV I.ok.bsz I.sz,I.stack,I.stkFree,I.hok,I.bare⟩
theorem Inv.after {Q:VK} {u:Value} (I:Inv X pins σ H s) (h:CE X.stack X.prog X.w H s Q u s'):EP X pins σ Q u s':=by
 obtain ⟨v,H',os,bare,un,hok,r,q⟩:=h
 obtain ⟨hh,g,d,t,os'⟩:=s'
 obtain rfl:os'=s.os:=os
 exact ⟨v,H',I.call (h':=hh) (g':=g) (d':=d) (t':=t) (ch:=[]) un hok bare (fun b z=>absurd z (by simp)),r,q⟩
end
def OJ (sp:Sp) (dvs:List V) (E:XK) (t:TA):TE:=fun σ H Q=>t σ H fun vs H1=>sp (vs++dvs) H1 Q E
def Binds (K:PySem.W.Frag) (fd:FuncData) (ps:List Str) (ds:List Value):Prop :=
 ∀ (s:Shared) (us:List Value),K.In s.heap→(us++ds).length=ps.length→BindsTo s fd ⟨us,[]⟩ (ps.zip (us++ds))
theorem Binds.all {K:PySem.W.Frag} {fd:FuncData} {ps:List Str} (h:∀ us:List Value,us.length=ps.length→bindArgs fd ⟨us,[]⟩=pure (ps.zip us)):Binds K fd ps []:=fun s us _ hl=>by
 rw [eV] at hl ⊢
 exact .of_eq (h us hl)
def Passes (CX:CXT) (X:Cx) (E:XK):Prop:=∀ (pins:List (Addr × Obj)) (σ:St) (H:Hp) (s:Shared) (e:Value) (s':Shared),Inv X pins σ H s→CX X.stack H s E e s'→X.xe e s'
section
variable {X:Cx} {CX:CXT} {k:Nat} {f C:Addr} {fd:FuncData} {ps:List Str} {sp:Sp} {dvs:List V} {ds:List Value} {E:XK} {x m:Str} {p pos apos:Pos} {e o:Expr} {es:List Expr} {ta:TE} {t:TA}
theorem Qz {pins:List (Addr × Obj)} {σ:St} {H:Hp} {s:Shared} {Q:VK} {us:List Value} {vs:List V} (F:FnOk X.prog X.w X.K X.mg X.base CX k f fd ps sp) (hr:Room k X.A) (hb:Binds X.K fd ps ds) (hd:Vals dvs ds) (hx:Passes CX X E)
 (I:Inv X pins σ H s) (r:Vals vs us) (h:sp (vs++dvs) H Q E):wpAny (model X.prog X.w) X.A (call (.ref f) us) (EP X pins σ Q) X.xe s:=by
 have r2:Vals (vs++dvs) (us++ds):=r.append hd
 have hl:(us++ds).length=ps.length:=by rw [← r2.length];exact F.len _ _ _ _ h
 refine wpAny_call (codeAny_mono (F.run X.A X.stack s H ⟨us,[]⟩ (us++ds) (vs++dvs) Q E hr I.env0 (hb s us I.kIn hl) r2 h) fun r s' hq=>?_)
 cases r with
 | error e=>exact hx pins σ H s e s' I hq
 | ok fl =>
  cases fl with
  | ret u=>exact I.after hq
  | next=>exact False.elim hq
  | brk=>exact False.elim hq
  | cont=>exact False.elim hq
theorem KY (F:FnOk X.prog X.w X.K X.mg X.base CX k f fd ps sp) (hr:Room k X.A) (hg:Gl X x) (hm:X.mg x=some (.ref f)) (hk:PySem.W.keepIn X.K (.ref f)=true) (hb:Binds X.K fd ps ds) (hd:Vals dvs ds) (hx:Passes CX X E)
 (ha:PA X (e :: es) t) (hdb:(x == ("__debug__" : Str))=false:=by decide) (he:starEach (e :: es) X.env=(false,eval e X.env) :: starEach es X.env:=by rfl) (hpl:(backTo pos (starEach es X.env)).any (·.1)=false:=by rfl) :
 PE X (.Call (.Name x p) (e :: es) [] pos) (OJ sp dvs E t):=by
 intro pins s σ H Q I h
 refine wpAny_Call_Name_kw (rB I hg hm ?_ hdb)
 refine PySem.W.callWith_K (h₀:=X.base) I.ok.mod.kin hk (thn (ha pos pins s σ H _ I h) fun us s1 ⟨vs,H1,I1,r,q⟩=>⟨I1.kIn,?_⟩) he hpl
 exact Qz F hr hb hd hx I1 r q
structure Mk (K:PySem.W.Frag) (C f:Addr):Prop where
 makes:PySem.W.makesIn K C=true
 init:PySem.W.findIn K (.ref C) "__init__" = some (some (.ref f))
 fn:PySem.W.isFn K (.ref f)=true
 kp:PySem.W.keepIn K (.ref C)=true
end
section
variable {X:Cx} {CX:CXT} {k:Nat} {f C:Addr} {fd:FuncData} {ps ks:List Str} {sp:Sp} {E:XK} {x m:Str} {p pos apos kpos:Pos} {e o:Expr} {es:List Expr} {kws:List Keyword} {te ta:TE} {t tk:TA} {nm:Option Str}
structure KBinds (K:PySem.W.Frag) (fd:FuncData) (ps ks:List Str) (g:List Value→List Value→List Value) (gV:List V→List V→List V):Prop where
 to:∀ (s:Shared) (us ws:List Value),K.In s.heap→(g us ws).length=ps.length→BindsTo s fd ⟨us,ks.zip ws⟩ (ps.zip (g us ws))
 rel:∀ {vs:List V} {us:List Value} {zs:List V} {ws:List Value},Vals vs us→Vals zs ws→Vals (gV vs zs) (g us ws)
variable {g:List Value→List Value→List Value} {gV:List V→List V→List V}
end
structure FnScope (N P:List Str) (sc:Scope):Prop where
 kind:sc.kind = .function
 co:sc.isCoroutine=false
 gen:sc.isGenerator=false
 nd:N.Nodup
 pre:N.take P.length=P
 par:∀ x ∈ P,sc.names.lookup x=some .local∨sc.names.lookup x=some .cell
 nofree:∀ y ∈ sc.names,y.2 ≠ .free
theorem wF {kindOf:Str→Option NameKind} {x:Str}:∀ {binds:List (Str × Value)} {m:Str→Option Value},(∀ v,(x,v) ∉ binds)→bindL kindOf binds m x=m x
 | [],_,_=>rfl
 | (n,v) :: r,m,h=>by
  unfold bindL
  rw [wF fun w hw=>h w (aF _ hw)]
  split
  ·have:x ≠ n:=by rintro rfl;exact h v aG
   simp [this]
  ·rfl
theorem wG {kindOf:Str→Option NameKind} {x:Str}:∀ {binds:List (Str × Value)} {m:Str→Option Value},(∀ v,(x,v) ∉ binds)→bindC kindOf binds m x=m x
 | [],_,_=>rfl
 | (n,v) :: r,m,h=>by
  unfold bindC
  rw [wG fun w hw=>h w (aF _ hw)]
  split
  ·rfl
  ·have:x ≠ n:=by rintro rfl;exact h v aG
   simp [this]
theorem pB {kindOf:Str→Option NameKind} {x:Str} {v:Value}:∀ {P:List Str} {vs:List Value} {i:Nat} {m:Str→Option Value},P.Nodup→P[i]? = some x→vs[i]? = some v→kindOf x=some .local →
 bindL kindOf (P.zip vs) m x=some v
 | [],_,_,_,_,h,_,_=>by simp at h
 | _ :: _,[],_,_,_,_,h,_=>by simp at h
 | p :: P,w :: vs,0,m,nd,h1,h2,hk=>by
  simp at h1 h2;subst h1;subst h2
  show bindL kindOf ((p,w) :: P.zip vs) m p=_
  unfold bindL
  rw [wF fun v hv=>(cU.mp nd).1 (kI hv).1,if_pos hk]
  simp
 | p :: P,w :: vs,i + 1,m,nd,h1,h2,hk=>by
  show bindL kindOf ((p,w) :: P.zip vs) m x=_
  unfold bindL
  exact pB (i:=i) (cU.mp nd).2 (by simpa using h1) (by simpa using h2) hk
theorem wH {kindOf:Str→Option NameKind} {x:Str} {v:Value}:∀ {P:List Str} {vs:List Value} {i:Nat} {m:Str→Option Value},P.Nodup→P[i]? = some x→vs[i]? = some v→kindOf x ≠ some .local →
 bindC kindOf (P.zip vs) m x=some v
 | [],_,_,_,_,h,_,_=>by simp at h
 | _ :: _,[],_,_,_,_,h,_=>by simp at h
 | p :: P,w :: vs,0,m,nd,h1,h2,hk=>by
  simp at h1 h2;subst h1;subst h2
  show bindC kindOf ((p,w) :: P.zip vs) m p=_
  unfold bindC
  rw [wG fun v hv=>(cU.mp nd).1 (kI hv).1,if_neg hk]
  simp
 | p :: P,w :: vs,i + 1,m,nd,h1,h2,hk=>by
  show bindC kindOf ((p,w) :: P.zip vs) m x=_
  unfold bindC
  exact wH (i:=i) (cU.mp nd).2 (by simpa using h1) (by simpa using h2) hk
def start (N:List Str) (vs:List V):St:=vs.map some++aK (N.length - vs.length) none
def gW (CX:CXT) (P:Program) (w:World) (K:PySem.W.Frag) (mg:Str→Option Value) (base:Heap) (N:List Str) (qual:Str) (scope:Scope) (f:Addr) (cd:Value) (A:Around) (outer:List Env) (s:Shared) (H:Hp) (E:XK):Cx where
 prog:=P
 w:=w
 K:=K
 mg:=mg
 base:=base
 A:=A.deeper (envOfC qual scope s.heap.objs.size f cd)
 N:=N
 s₀:=s
 H₀:=H
 env:=envOfC qual scope s.heap.objs.size f cd
 outer:=outer
 stack:=envOfC qual scope s.heap.objs.size f cd :: outer
 ex:=[]
 calm:=true
 fn:=fun _=>true
 pn:=[]
 xe:=fun e s'=>wpAny (model P w) (A.deeper (envOfC qual scope s.heap.objs.size f cd)) (leaving (envOfC qual scope s.heap.objs.size f cd) e) (fun _ s''=>CX outer H s E e s'') (fun e' s''=>CX outer H s E e' s'') s'
theorem zy {sc:Scope} {n:Nat} {x:Str} (h:sc.names.lookup x=some .cell):∃ c,(cellsFrom n sc.names []).lookup x=some c:=by
 have q:=PySem.W.cellsFrom_some sc.names n [] (.inl h)
 exact dZ.mp q
theorem E_ {CX:CXT} {P:Program} {w:World} {K:PySem.W.Frag} {mg:Str→Option Value} {base:Heap} {N ps:List Str} {qual:Str} {scope:Scope} {f:Addr} {cd:Value} {A:Around} {outer:List Env} {s s1:Shared} {H:Hp} {E:XK} {us:List Value} {vs:List V}
 (S:FnScope N ps scope) (hd:A.handled=none) (e0:Env0 P w K mg base A outer s H) (hl:vs.length=ps.length) (r:Vals vs us)
 (x:InCallC s s.heap.objs.size (bindL (envOfC qual scope s.heap.objs.size f cd).kindOf (ps.zip us) fun _=>none) (cellsFrom (s.heap.objs.size + 1) scope.names []) (bindC (envOfC qual scope s.heap.objs.size f cd).kindOf (ps.zip us) fun _=>none) s1) :
 Inv (gW CX P w K mg base N qual scope f cd A outer s H E) [] (start N vs) H s1:=by
 have hpl:ps.length ≤ N.length:=by have:=congrArg oK S.pre;rw [List.length_take] at this;omega
 obtain ⟨h1,tk,rfl,hk⟩:=x.done
 have noA:∀ b:Addr,b ∉ (gW CX P w K mg base N qual scope f cd A outer s H E).ex:=fun b z=>absurd (show b ∈ ([]:List Addr) from z) (by simp)
 refine ⟨⟨e0.mod,S.kind,rfl,rfl,bG _,fun y z c h1 h2=>?_,fun y hy=>?_,fun y c _ h=>?_,fun _=>hd,Around.frames_deeper e0.frames,.inr ⟨rfl,rfl⟩,fun b z=>absurd z (noA b),e0.bs,e0.bsz,fun b _ _=>noA b,fun b z=>absurd z (noA b),e0.funs,e0.frf⟩,
  rfl,e0.bare,Un.kept hk,⟨_,x.toInCall.ns,fun i y v h1 h2 h3=>?_⟩,fun y c h=>⟨_,x.cell y c h⟩,e0.hok.fresh (bG _),fun y c h=>?_,fun p hp=>absurd (show p ∈ ([]:List (Addr × Obj)) from hp) (by simp),e0.hok.kept hk,?_⟩
 ·exact name_of_addr x.apart (PySem.mem_of_lookup h1) (PySem.mem_of_lookup h2)
 ·have hy:scope.names.lookup y=some .cell∨scope.names.lookup y=some .free:=hy
  rcases hy with hy | hy
  ·exact zy hy
  ·exact absurd rfl (S.nofree _ (PySem.mem_of_lookup hy))
 ·exact h_ (x.above y c (PySem.mem_of_lookup h))
 ·have hi:i < vs.length:=by
   unfold start at h2
   by_cases hi:i < vs.length
   ·exact hi
   ·rw [dF (by simpa using hi)] at h2
    rw [dB] at h2
    split at h2 <;> cases h2
  have ha:vs[i]? = some v:=by
   unfold start at h2
   rw [dR (by simpa using hi),bx] at h2
   cases e:vs[i]? with
   | none=>rw [e] at h2;cases h2
   | some a=>rw [e] at h2;cases h2;rfl
  obtain ⟨u,hu,rv⟩:=r.get ha
  have hp:ps[i]? = some y:=by
   rw [← S.pre,List.getElem?_take_of_lt (by omega)];exact h1
  have ndP:ps.Nodup:=by rw [← S.pre];exact S.nd.sublist (List.take_sublist _ _)
  refine ⟨u,rv,?_⟩
  rcases S.par y (iY hp) with k | k
  ·exact .inl ⟨k,pB ndP hp hu k⟩
  ·obtain ⟨c,e⟩:=zy (n:=s.heap.objs.size + 1) k
   refine .inr ⟨.inl k,c,e,?_⟩
   have q:=x.cell y c e
   rw [wH ndP hp hu (by show scope.names.lookup y ≠ _;rw [k];decide)] at q
   exact q
 ·exact e0.hok.fresh (h_ (x.above y c (PySem.mem_of_lookup h)))
 ·unfold start
  show _=N.length
  rw [bK,aL,bW]
  omega
theorem Hr {CX:CXT} {P:Program} {w:World} {K:PySem.W.Frag} {mg:Str→Option Value} {base:Heap} {k:Nat} {f:Addr} {name qual:Str} {params:Arguments} {body:List Stmt} {scope:Scope} {dV kV doc pm cdv ct oc:Value} {an od:Option Addr}
 {osl:Array (Option Value)} {N ps:List Str} {sp:Sp} (lk:K.lookup f=some ⟨oc,od,.func (PySem.W.fnOf name qual params body scope dV kV doc pm an cdv ct),osl⟩) (hcd:PySem.W.codeIn K cdv qual=true) (S:FnScope N ps scope)
 (len:∀ vs H Q E,sp vs H Q E→vs.length=ps.length)
 (hbody:∀ (A:Around) (outer:List Env) (s:Shared) (H:Hp) (vs:List V) (Q:VK) (E:XK),Room k (A.deeper (envOfC qual scope s.heap.objs.size f cdv))→sp vs H Q E →
  ∃ t,PSs (gW CX P w K mg base N qual scope f cdv A outer s H E) body t∧t { nx:=fun _ H'=>Q .non H',rt:=Q } (start N vs) H) :
 FnOk P w K mg base CX (k + 1) f (PySem.W.fnOf name qual params body scope dV kV doc pm an cdv ct) ps sp:=by
 refine ⟨len,fun A outer s H args us vs Q E hr e0 hb r hsp=>?_⟩
 have hl:=len _ _ _ _ hsp
 have KX:K.In s.heap:=e0.mod.kin.keeps fun b o e=>(e0.bs b o e).1
 have lim:s.heap.NoLimit:=e0.mod.nolimit.keeps fun b o e=>(e0.bs b o e).1
 have hkind:∀ y ∈ ps.zip us,scope.names.lookup y.1=some .local∨(scope.names.lookup y.1=some .cell∧((cellsFrom (s.heap.objs.size + 1) scope.names []).lookup y.1).isSome=true):=fun ⟨n,v⟩ hy=>by
  rcases S.par n (kI hy).1 with q | q
  ·exact .inl q
  ·exact .inr ⟨q,PySem.W.cellsFrom_some _ _ _ (.inl q)⟩
 refine codeAny_call_function hr.depth (KX _ _ lk) rfl S.co S.gen rfl (PySem.W.codeRec_of KX hcd) (hb _ _ _ _ ?_)
 refine wpAny_newFunctionEnv_cells S.kind hkind fun env he s1 x=>?_
 subst he
 refine ⟨lim.keeps x.toInCall.keep,codeAny_func ?_⟩
 obtain ⟨t,ht,hq⟩:=hbody A outer s H vs Q E (hr.deeper _) hsp
 have I:Inv (gW CX P w K mg base N qual scope f cdv A outer s H E) [] (start N vs) H s1:=E_ S hr.hd e0 hl r x
 refine wpAny_mono (ht [] s1 (start N vs) H _ I hq) (fun fl s' hs=>?_) fun e s' hs=>hs
 have fin:∀ {σ':St} {H':Hp} {v:V} {u:Value},Inv (gW CX P w K mg base N qual scope f cdv A outer s H E) [] σ' H' s'→RelV v u→Q v H'→CE outer P w H s Q u s' :=
  fun {σ' H' v u} J rv q=>⟨v,H',J.os,J.bare,J.base,J.hok,rv,q⟩
 cases fl with
 | ret u =>
  obtain ⟨v,σ',H',J,rv,q⟩:=hs
  exact fin J rv q
 | next =>
  obtain ⟨σ',H',J,q⟩:=hs
  exact fin (v:=V.non) (u:=Value.none) J rfl q
 | brk =>
  obtain ⟨_,_,_,q⟩:=hs
  exact False.elim q
 | cont =>
  obtain ⟨_,_,_,q⟩:=hs
  exact False.elim q
end L2
namespace L2
open PySem PySem.Spec PyProof.Rows
section
variable {X:Cx} {x:Str} {p pos:Pos} {e:Expr} {es:List Expr} {t:TA} {id T:String} {r:List V→Hp→VK→Prop}
def tCB (r:List V→Hp→VK→Prop) (t:TA):TE:=fun σ H Q=>t σ H fun vs H1=>r vs H1 Q
theorem oU (hc:mL X (.builtin id) r) (hg:Gl X x) (hm:X.mg x=none) (hv:bootBuiltins x=some (.builtin id)) (ha:PA X (e :: es) t) (hn:x ≠ "__name__" := by decide) (hdb:(x == ("__debug__" : Str))=false:=by decide)
 (he:starEach (e :: es) X.env=(false,eval e X.env) :: starEach es X.env:=by rfl) (hpl:(backTo pos (starEach es X.env)).any (·.1)=false:=by rfl):PE X (.Call (.Name x p) (e :: es) [] pos) (tCB r t):=by
 intro pins s σ H Q I h
 refine wpAny_Call_Name_kw (sG I hg hm hv ?_ hn hdb)
 exact PyProof.Rows.callWith_builtin1 (thn (ha pos pins s σ H _ I h) fun us s1 ⟨vs,H1,I1,r1,q1⟩=>hc pins s1 σ H1 vs us Q I1 r1 q1) he hpl
theorem sJ (hc:mL X (.type T) r) (hg:Gl X x) (hm:X.mg x=none) (hv:bootBuiltins x=some (.type T)) (ha:PA X (e :: es) t) (hn:x ≠ "__name__" := by decide) (hdb:(x == ("__debug__" : Str))=false:=by decide)
 (he:starEach (e :: es) X.env=(false,eval e X.env) :: starEach es X.env:=by rfl) (hpl:(backTo pos (starEach es X.env)).any (·.1)=false:=by rfl):PE X (.Call (.Name x p) (e :: es) [] pos) (tCB r t):=by
 intro pins s σ H Q I h
 refine wpAny_Call_Name_kw (sG I hg hm hv ?_ hn hdb)
 exact PyProof.Rows.callWith_type1 (thn (ha pos pins s σ H _ I h) fun us s1 ⟨vs,H1,I1,r1,q1⟩=>hc pins s1 σ H1 vs us Q I1 r1 q1) he hpl
end
end L2
namespace HT
open PySem PyProof.Rows
section
open PySem.SeqAt
open PySem.AutoSeq1 (wpAny_loadPart')
open PySem.MeetsSeq PySem.MeetsSeq2 PySem.MeetsSeq3
end
section
variable {prog:Program} {w:World} {A:Around} {E:Value→Shared→Prop} {s:Shared}
end
end HT
namespace L2
open PySem PySem.Spec PyProof.Rows
abbrev TO:=St→Hp→(Option Int→Hp→Prop)→Prop
def PO (X:Cx) (e:Option Expr) (t:TO):Prop :=
 ∀ (pins:List (Addr × Obj)) (s:Shared) (σ:St) (H:Hp) (Q:Option Int→Hp→Prop),Inv X pins σ H s→t σ H Q →
  wpAny (model X.prog X.w) X.A (evalPart e X.env) (fun u s'=>∃ o H',Inv X pins σ H' s'∧IsPart u o∧Q o H') X.xe s
section
variable {X:Cx} {e:Expr} {te:TE} {lo hi:Option Expr} {tl th:TO} {pos p2:Pos}
end
end L2
namespace L2
open PySem PySem.Spec PyProof.Rows
def ixN (n:Nat) (i:Int):Option Nat:=if 0 ≤ i then (if i < n then some i.toNat else none) else if -(n:Int) ≤ i then some (i + n).toNat else none
def atI {α:Type} (xs:List α) (i:Int):Option α:=(ixN xs.length i).bind fun j=>xs[j]?
theorem Ds {n:Nat} {i:Int} {j:Nat} (h:ixN n i=some j):seqIndex? i n=some j∧j < n∧-(n:Int) ≤ i∧i < n:=by
 unfold ixN at h
 by_cases h0:0 ≤ i
 ·rw [if_pos h0] at h
  by_cases h1:i < n
  ·rw [if_pos h1] at h
   have e:i.toNat=j:=cX.inj h
   exact ⟨by rw [seqIndex_of h0 h1,e],by omega,by omega,h1⟩
  ·rw [if_neg h1] at h;cases h
 ·rw [if_neg h0] at h
  by_cases h1 : -(n:Int) ≤ i
  ·rw [if_pos h1] at h
   have e:(i + n).toNat=j:=cX.inj h
   exact ⟨by rw [seqIndex_neg (by omega) h1,e],by omega,h1,by omega⟩
  ·rw [if_neg h1] at h;cases h
theorem uh {α:Type} {xs:List α} {i:Int} {v:α} (h:atI xs i=some v):∃ j,seqIndex? i xs.length=some j∧xs[j]? = some v∧j < xs.length∧-(xs.length:Int) ≤ i∧i < xs.length:=by
 unfold atI at h
 cases e:ixN xs.length i with
 | none=>rw [e] at h;cases h
 | some j =>
  rw [e] at h
  obtain ⟨h1,h2,h3,h4⟩:=Ds e
  exact ⟨j,h1,h,h2,h3,h4⟩
def xW (b:Expr):Prop:=∀ o i,subscripted b false o i=operate [o,i] (getItem o i)
def IxR (X:Cx) (r:R2):Prop :=
 ∀ (value slice:Expr) (pins:List (Addr × Obj)) (s:Shared) (σ:St) (H:Hp) (x y:V) (v u:Value) (Q:VK),Inv X pins σ H s→RelV x v→RelV y u→r x y H Q →
  subscripted slice false v u=operate [v,u] (getItem v u)→wpAny (model X.prog X.w) X.A (subscriptTail value slice v u) (EP X pins σ Q) X.xe s
def MtR (X:Cx) (id:String) (r:V→List V→Hp→VK→Prop):Prop :=
 ∀ (pins:List (Addr × Obj)) (s:Shared) (σ:St) (H:Hp) (x:V) (xs:List V) (v:Value) (us:List Value) (Q:VK),Inv X pins σ H s→RelV x v→Vals xs us→r x xs H Q →
  wpAny (model X.prog X.w) X.A (call (.builtin id) (v :: us)) (EP X pins σ Q) X.xe s
section
variable {X:Cx} {a b:Expr} {ta tb:TE} {pos:Pos}
theorem IxR.or {r r':R2} (h:IxR X r) (h':IxR X r'):IxR X (fun x y H Q=>r x y H Q∨r' x y H Q):=by
 intro value slice pins s σ H x y v u Q I rx ry q hs
 rcases q with q | q
 ·exact h value slice pins s σ H x y v u Q I rx ry q hs
 ·exact h' value slice pins s σ H x y v u Q I rx ry q hs
theorem Ud {r:R2} (hr:IxR X r) (ha:PE X a ta) (hb:PE X b tb) (hs:xW b):PE X (.Subscript a b pos) (tOp r ta tb):=by
 intro pins s σ H Q I h
 exact Subscript_ (Qt ha hb I h fun v u s2 x y H2 I2 rx ry q=>hr a b pins s2 σ H2 x y v u Q I2 rx ry q (hs _ _))
def Ue (K:PySem.W.Frag):R2:=fun x y H Q=>∃ p xs i v,x = .ref p∧y = .int i∧SqL K H p xs∧atI xs i=some v∧Q v H
def Ug (K:PySem.W.Frag):R2:=fun x y H Q=>∃ p xs i v,x = .ref p∧y = .int i∧SqT K H p xs∧atI xs i=some v∧Q v H
def Uh:R2:=fun x y H Q=>∃ z i c,x = .str z∧y = .int i∧z.length ≤ sizeLine∧atI z.cps.toList i=some c∧Q (.str ⟨#[c]⟩) H
theorem KZ:IxR X (Ue X.K):=by
 intro value slice pins s σ H x y v u Q I rx ry h hs
 obtain ⟨p,xs,i,z,rfl,rfl,hq,he,q⟩:=h
 cases rx
 obtain ⟨t,rfl⟩:=ry
 obtain ⟨its,r,pl,hz⟩:=I.list hq
 obtain ⟨j,h1,h2,h3,h4,h5⟩:=uh he
 obtain ⟨w,ew,rw'⟩:=r.get h2
 have hl:=r.length
 have hn:=sI
 have fin:EP X pins σ Q w s:=⟨z,H,I,rw',q⟩
 by_cases h0:0 ≤ i
 ·have hj:i.toNat=j:=by
   rw [seqIndex_of h0 h5] at h1
   exact cX.inj h1
  exact item_listR pl.isList h0 (by omega) (by rw [hj];simpa using ew) fin hs
 ·have hj:(i + (its.toArray.size:Int)).toNat=j:=by
   rw [seqIndex_neg (by omega) h4] at h1
   rw [aZ,← hl]
   exact cX.inj h1
  exact subscriptTail_builtinR (x:=w) pl.isList.typeIs slot_list_getitem.lookup
   (wpAny_getItem_list_neg (Q:=fun r s'=>r=w∧EP X pins σ Q r s') pl.isList (by omega) (by rw [aZ] <;> omega) (by omega) (by rw [hj];simpa using ew) ⟨rfl,fin⟩) hs
theorem QB:IxR X (Ug X.K):=by
 intro value slice pins s σ H x y v u Q I rx ry h hs
 obtain ⟨p,xs,i,z,rfl,rfl,hq,he,q⟩:=h
 cases rx
 obtain ⟨t,rfl⟩:=ry
 obtain ⟨its,r,pl,hz⟩:=I.tuple hq
 obtain ⟨j,h1,h2,h3,h4,h5⟩:=uh he
 obtain ⟨w,ew,rw'⟩:=r.get h2
 have hl:=r.length
 have hn:=sI
 have fin:EP X pins σ Q w s:=⟨z,H,I,rw',q⟩
 exact subscriptTail_builtinR (x:=w) pl.typeIs slot_tuple_getitem.lookup
  (getItem_tuple (j:=j) (Q:=fun r s'=>r=w∧EP X pins σ Q r s') pl (by omega) (by omega) (by rw [aZ,← hl];exact h1) (by simpa using ew) ⟨rfl,fin⟩) hs
theorem QC:IxR X Uh:=by
 intro value slice pins s σ H x y v u Q I rx ry h hs
 obtain ⟨z,i,c,rfl,rfl,hz,he,q⟩:=h
 obtain ⟨t,rfl⟩:=rx
 obtain ⟨t',rfl⟩:=ry
 obtain ⟨j,h1,h2,h3,h4,h5⟩:=uh he
 have hl:z.cps.toList.length=z.length:=by simp [Str.length]
 rw [hl] at h1 h4 h5
 have hn:=sI
 exact tail_any (typeIs_str s z t) slot_str_getitem.lookup (getItem_str (c:=c) (by
  have e1:decide (i < -(2 ^ 63:Int))=false:=dFa (by omega)
  have e2:decide (i ≥ 2 ^ 63)=false:=dFa (by omega)
  rw [e1,e2,Bool.or_false]) (by rw [h1];simpa using h2) ⟨.str ⟨#[c]⟩,H,I.tok _,⟨_,rfl⟩,q⟩) hs
def rIx (K:PySem.W.Frag):R2:=fun x y H Q=>Ue K x y H Q∨Ug K x y H Q∨Uh x y H Q
theorem QD:IxR X (rIx X.K):=KZ.or (QB.or QC)
theorem Az (its:List Value) (n j:Nat) (u:Value):Obj.mapSeq (·.setIfInBounds j u) { cls:=.type "list", data:=.seq its.toArray n } = { cls:=.type "list", data:=.seq (its.set j u).toArray n }:=by
 simp [Obj.mapSeq]
theorem Inv.lst {pins:List (Addr × Obj)} {σ:St} {H:Hp} {s:Shared} {p:Addr} {xs:List V} (I:Inv X pins σ H s) (h:H p=some (.lst xs)) :
 ∃ (its:List Value) (n:Nat),Vals xs its∧s.heap.get? p=some { cls:=.type "list", data:=.seq its.toArray n }∧xs.length ≤ sizeLine:=by
 obtain ⟨z,its,n,r,e⟩:=I.hok p _ h
 exact ⟨its,n,r,e,z⟩
theorem Inv.lstUpd {pins:List (Addr × Obj)} {σ:St} {H:Hp} {s:Shared} {p:Addr} {xs ys:List V} {its its':List Value} {n n':Nat} {f:Obj→Obj} (I:Inv X pins σ H s) (h:H p=some (.lst xs))
 (ho:s.heap.get? p=some { cls:=.type "list", data:=.seq its.toArray n }) (hf:f { cls:=.type "list", data:=.seq its.toArray n } = { cls:=.type "list", data:=.seq its'.toArray n' }) (r:Vals ys its') (hz:ys.length ≤ sizeLine) (t:Nat) :
 Inv X pins σ (upd H p (.lst ys)) { s with heap:=s.heap.update p f,toks:=t }:=by
 have e:(s.heap.update p f).get? p=some { cls:=.type "list", data:=.seq its'.toArray n' }:=by
  rw [Heap.get?_update_self f ho (by rw [hf] <;> rfl),hf]
 refine I.write (x:=p) (e:=p) (by rw [h];trivial) (.inl rfl) (fun b u hb q=>(Heap.get?_update_other _ _ (Ne.symm hb)).trans q) ⟨_,e⟩ ?_
 exact ⟨hz,its',n',r,e⟩
def Ui:V→V→V→Hp→(Hp→Prop)→Prop:=fun o i v H Q=>∃ p xs k j,o = .ref p∧i = .int k∧H p=some (.lst xs)∧ixN xs.length k=some j∧Q (upd H p (.lst (xs.set j v)))
theorem set_list:Qn X Ui:=by
 intro pins s σ H o i v ov iv u Q I ro ri rv h
 obtain ⟨p,xs,k,j,rfl,rfl,hp,hj,q⟩:=h
 cases ro
 obtain ⟨t,rfl⟩:=ri
 obtain ⟨its,n,r,ho,hz⟩:=I.lst hp
 obtain ⟨h1,h2,h3,h4⟩:=Ds hj
 have hl:=r.length
 have hn:=sI
 have I':Inv X pins σ (upd H p (.lst (xs.set j v))) { s with heap:=s.heap.update p (Obj.mapSeq (·.setIfInBounds j u)) } :=
  I.lstUpd hp ho (Az its n j u) (r.set rv j) (by rw [bU];exact hz) s.toks
 by_cases h0:0 ≤ k
 ·have hk:k.toNat=j:=by
   rw [seqIndex_of h0 h4] at h1
   exact cX.inj h1
  exact PySem.W.ki_setAt ho h0 (by omega) (by rw [aZ,← hl];exact h4) (by rw [hk];exact ⟨_,I',q⟩)
 ·have hk:(k + (its.toArray.size:Int)).toNat=j:=by
   rw [seqIndex_neg (by omega) h3] at h1
   rw [aZ,← hl]
   exact cX.inj h1
  exact PySem.W.ki_setBack ho (by omega) (by rw [aZ,← hl];exact h3) (by omega) (by rw [hk];exact ⟨_,I',q⟩)
theorem cF:mL X (.builtin "len") (fun xs H Q=>∃ p ys,xs=[.ref p]∧(SqL X.K H p ys∨SqT X.K H p ys)∧Q (.int ys.length) H):=by
 intro pins s σ H xs us Q I r h
 obtain ⟨p,ys,rfl,hq,q⟩:=h
 obtain ⟨u,rfl,rx⟩:=vals1 r
 cases rx
 have hn:=sI
 rcases hq with hq | hq
 ·obtain ⟨its,r',pl,hz⟩:=I.list hq
  have hlen:=r'.length
  exact Calls.call_len_list pl.isList (by simp only [aZ] <;> omega) ⟨.int ys.length,H,I.tok _,⟨s.toks + 1,by rw [aZ,hlen]⟩,q⟩
 ·obtain ⟨its,r',pl,hz⟩:=I.tuple hq
  have hlen:=r'.length
  exact len_tuple pl (by simp only [aZ] <;> omega) ⟨.int ys.length,H,I.tok _,⟨s.toks + 1,by rw [aZ,hlen]⟩,q⟩
theorem xX:mL X (.type "list") (fun xs H Q=>∃ p ys,xs=[.ref p]∧(SqL X.K H p ys∨SqT X.K H p ys)∧∀ l,H l=none→Q (.ref l) (upd H l (.lst ys))):=by
 intro pins s σ H xs us Q I r h
 obtain ⟨p,ys,rfl,hq,q⟩:=h
 obtain ⟨u,rfl,rx⟩:=vals1 r
 cases rx
 have fin:∀ (its:List Value),Vals ys its→ys.length ≤ sizeLine→∀ (h':Heap) (c':Nat),(∀ b o',s.heap.get? b=some o'→h'.get? b=some o') →
  h'.get? s.heap.objs.size=some { cls:=.type "list", dict:=none,data:=.seq its.toArray c',slots:=#[] }→EP X pins σ Q (.ref s.heap.objs.size) { s with heap:=h' }:=fun its r' hz h' c' kp e =>
  ⟨.ref s.heap.objs.size,_,I.laid (t':=s.toks) kp (bG _) (show gB X.prog X.w _ h' _ (.lst ys) from ⟨hz,its,c',r',e⟩),rfl,q _ (I.hok.fresh (bG _))⟩
 rcases hq with hq | hq
 ·obtain ⟨its,r',pl,hz⟩:=I.list hq
  have hlen:=r'.length
  obtain ⟨o,ho,hc,n,hd⟩:=pl.isList
  exact call_list_seq p (.inl rfl) ho hc hd (fun h' c' kp e=>fin its r' hz h' c' kp e) (by simp only [aZ] <;> omega)
 ·obtain ⟨its,r',pl,hz⟩:=I.tuple hq
  have hlen:=r'.length
  obtain ⟨o,ho,hc,n,hd⟩:=pl
  exact call_list_seq p (.inr rfl) ho hc hd (fun h' c' kp e=>fin its r' hz h' c' kp e) (by simp only [aZ] <;> omega)
def tyV (K:PySem.W.Frag) (T:String) (x:V) (H:Hp):Prop:=match x with
 | .str _=>T = "str"
 | .int _=>T = "int"
 | .ref p=>(T = "list" ∧ ∃ xs,SqL K H p xs)∨(T = "tuple" ∧ ∃ o,K.lookup p=some o∧o.cls = .type "tuple" ∧ o.dict=none) ∨
  (T = "dict" ∧ ((∃ kvs,H p=some (.dK kvs))∨∃ kvs,H p=some (.dT kvs)))∨(T = "set" ∧ ∃ S n,H p=some (.set S n))
 | _=>False
theorem QF {pins:List (Addr × Obj)} {σ:St} {H:Hp} {s:Shared} {T:String} {x:V} {v:Value} (I:Inv X pins σ H s) (r:RelV x v) (ty:tyV X.K T x H) :
 s.TypeIs v T∧∀ a,v = .ref a→∃ ob,s.heap.get? a=some ob∧ob.dict=none:=by
 cases x with
 | str z =>
  obtain ⟨t,rfl⟩:=r
  cases (show T = "str" from ty)
  exact ⟨typeIs_str s z t,fun _ e=>nomatch e⟩
 | int i =>
  obtain ⟨t,rfl⟩:=r
  cases (show T = "int" from ty)
  exact ⟨typeIs_int s i t,fun _ e=>nomatch e⟩
 | ref p =>
  cases r
  rcases ty with ⟨rfl,xs,hq⟩ | ⟨rfl,o,hk,hc,hd⟩ | ⟨rfl,hk⟩ | ⟨rfl,S,n,hk⟩
  ·obtain ⟨its,_,pl,_⟩:=I.list hq
   refine ⟨pl.isList.typeIs,fun a e=>?_⟩
   cases e
   obtain ⟨o,n,e,c,hd,_⟩:=pl
   exact ⟨o,e,hd⟩
  ·refine ⟨⟨o,I.kIn p o hk,hc⟩,fun a e=>?_⟩
   cases e
   exact ⟨o,I.kIn _ o hk,hd⟩
  ·have z:∃ o,s.heap.get? p=some o∧o.ExactDict:=by
    rcases hk with ⟨kvs,hk⟩ | ⟨kvs,hk⟩
    ·obtain ⟨_,_,_,_,o,_,_,e,ex,_⟩:=I.hok p _ hk
     exact ⟨o,e,ex⟩
    ·obtain ⟨_,_,_,_,o,_,_,e,ex,_⟩:=I.hok p _ hk
     exact ⟨o,e,ex⟩
   obtain ⟨o,e,ex⟩:=z
   refine ⟨⟨o,e,ex.1⟩,fun a e2=>?_⟩
   cases e2
   exact ⟨o,e,ex.2.1⟩
  ·obtain ⟨o,_,_,_,e,ex,_⟩:=I.hok p _ hk
   refine ⟨⟨o,e,ex.1⟩,fun a e2=>?_⟩
   cases e2
   exact ⟨o,e,ex.2.1⟩
 | _=>exact False.elim ty
def tBM (K:PySem.W.Frag) (T:String) (r:V→List V→Hp→VK→Prop) (to:TE) (t:TA):TE:=fun σ H Q=>to σ H fun x H1=>tyV K T x H1∧t σ H1 fun xs H2=>r x xs H2 Q
variable {o e:Expr} {es:List Expr} {to:TE} {t:TA} {name:Str} {apos cpos:Pos} {T id:String} {r:V→List V→Hp→VK→Prop}
theorem Hs (pa:PlainAttrs T) (slot:Slot T name id) (hty:typeOf (.builtin id)=pure (.type "method_descriptor")) (hm:MtR X id r) (ho:PE X o to) (ha:PA X (e :: es) t)
 (hbase:attributeBase o name X.env (eval o X.env)=eval o X.env:=by rfl)
 (hfew:((backTo cpos (starEach (e :: es) X.env)).all (fun x=>!x.1) && (backToKw cpos (keywordEach [] X.env)).all (fun x=>x.1.isSome)
  && decide ((e :: es).length + ([]:List Keyword).length + (if ([]:List Keyword).isEmpty then 0 else 1) < 30))=true:=by rfl)
 (hline:(apos.endLine == cpos.line)=true:=by rfl) (hs:starEach (e :: es) X.env=(false,eval e X.env) :: starEach es X.env:=by rfl) (hplain:(backTo cpos (starEach es X.env)).any (·.1)=false:=by rfl) :
 PE X (.Call (.Attribute o name apos) (e :: es) [] cpos) (tBM X.K T r to t):=by
 intro pins s σ H Q I h
 refine wpAny_Call_method_late hbase hfew hline rfl (thn (ho pins s σ H _ I h) fun v s1 ⟨x,H1,I1,r1,ty,q1⟩=>?_)
 obtain ⟨h1,h2⟩:=QF I1 r1 ty
 refine ⟨T,id,pa,slot,hty,h1,h2,?_⟩
 have hA:=ha cpos pins s1 σ H1 _ I1 q1
 rw [hs] at hA ⊢
 refine Calls.callWith_builtin (by show (false || (backTo cpos (starEach es X.env)).any (·.1))=false;rw [hplain] <;> rfl) (Calls.evalArgs_plain ?_)
 exact thn hA fun us s2 ⟨vs,H2,I2,r2,q2⟩=>hm pins s2 σ H2 x vs v us Q I2 r1 r2 q2
/- xs.append(e),list.index on a module's tuple .. are MtR facts of 06m -/
end
end L2
namespace L2
open PySem PySem.Spec PyProof.Rows
def MtM (X:Cx) (id:String) (r:V→List V→Hp→VK→Prop):Prop :=
 ∀ (pins:List (Addr × Obj)) (s:Shared) (σ:St) (H:Hp) (x:V) (xs:List V) (v:Value) (us:List Value) (Q:VK),Inv X pins σ H s→RelV x v→Vals xs us→r x xs H Q →
  wpAny (model X.prog X.w) X.A (call (.builtin id) (v :: us)) (EP X pins σ Q) X.xe s
theorem Vals.one:∀ {x:V} {us:List Value},Vals [x] us→∃ u,us=[u]∧RelV x u
 | _,_,.cons r .nil=>⟨_,rfl,r⟩
theorem Vals.two:∀ {x y:V} {us:List Value},Vals [x,y] us→∃ u v,us=[u,v]∧RelV x u∧RelV y v
 | _,_,_,.cons r (.cons q .nil)=>⟨_,_,rfl,r,q⟩
theorem Vals.zero:∀ {us:List Value},Vals [] us→us=[]
 | _,.nil=>rfl
theorem Vals.rep {xs:List V} {us:List Value} (h:Vals xs us):∀ k:Nat,Vals (aK k xs).flatten (aK k us).flatten
 | 0=>.nil
 | k + 1=>by
  rw [cQ,cQ,fP,fP]
  exact Vals.append h (Vals.rep h k)
theorem foldl_rep (its:List Value):∀ (k:Nat) (acc:List Value),
 ux (fun x1 x2=>x1++x2) acc.toArray (aK k its.toArray)=(acc++(aK k its).flatten).toArray
 | 0,acc=>by simp
 | k + 1,acc=>by
  have e:acc.toArray++its.toArray=(acc++its).toArray:=by simp
  have e2:(acc++its)++(aK k its).flatten=acc++(aK (k + 1) its).flatten:=by
   rw [cQ,fP,qz]
  rw [← e2,← foldl_rep its k (acc++its),← e,cQ,List.foldl_cons]
section
variable {X:Cx} {pins:List (Addr × Obj)} {σ:St} {H:Hp} {s:Shared} {l b:Addr} {xs ys zs:List V}
theorem Inv.lset {its its':List Value} {n:Nat} {f:Array Value→Array Value} {t':Nat} (I:Inv X pins σ H s) (hH:H l=some (.lst xs))
 (e:s.heap.get? l=some { cls:=.type "list", data:=.seq its.toArray n }) (hf:f its.toArray=its'.toArray) (hv:Vals ys its') (hz:ys.length ≤ sizeLine) :
 Inv X pins σ (upd H l (.lst ys)) { s with heap:=s.heap.update l (Obj.mapSeq f),toks:=t' }:=by
 have q:=PySem.IsL.update e f
 rw [hf] at q
 refine I.write (x:=l) (e:=l) (by rw [hH];exact trivial) (.inl rfl) (fun b' u hb hu=>(Heap.get?_update_other s.heap (Obj.mapSeq f) (Ne.symm hb)).trans hu) ⟨_,q⟩ ?_
 exact ⟨hz,its',_,hv,q⟩
theorem Inv.lnew {its:List Value} {t':Nat} (I:Inv X pins σ H s) (hv:Vals ys its) (hz:ys.length ≤ sizeLine) :
 Inv X pins σ (upd H s.heap.objs.size (.lst ys)) { s with heap:=s.heap.push { cls:=.type "list", data:=.seq its.toArray },toks:=t' } :=
 I.laid (fun _ _ q=>Heap.get?_push_of_some _ q) (bG _) ⟨hz,its,0,hv,Heap.get?_push_size _ rfl⟩
theorem Inv.fresh (I:Inv X pins σ H s):H s.heap.objs.size=none:=I.hok.fresh (bG _)
theorem Inv.lstM (I:Inv X pins σ H s) (hH:H l=some (.lst xs)):xs.length ≤ sizeLine∧∃ (its:List Value) (n:Nat),Vals xs its∧xs.length=its.length∧s.heap.get? l=some { cls:=.type "list", data:=.seq its.toArray n }:=by
 obtain ⟨z,its,n,r,e⟩:=I.hok l _ hH
 exact ⟨z,its,n,r,r.length,e⟩
theorem Ht {n:Nat} (h:n ≤ sizeLine):Builtin.List.listTooLong n=false:=by
 unfold Builtin.List.listTooLong
 exact dFa (by omega)
end
section
variable {X:Cx}
def K1:V→List V→Hp→VK→Prop:=fun x vs H Q=>∃ l xs y,x = .ref l∧vs=[y]∧H l=some (.lst xs)∧xs.length < sizeLine∧Q .non (upd H l (.lst (xs++[y])))
theorem wI:MtM X "list.append" K1:=by
 intro pins s σ H x vs v us Q I rx rv h
 obtain ⟨l,xs,y,rfl,rfl,hH,hz,q⟩:=h
 cases rx
 obtain ⟨u,rfl,ru⟩:=rv.one
 obtain ⟨z,its,n,r,hl,e⟩:=I.lstM hH
 refine call_meets F.slot_list_append ⟨_,e,rfl⟩ F.entry_list_append (F.args_list_append_2 _ _) (PySem.list_append l its.toArray n u (by rw [aZ];omega)) ⟨e,?_⟩
 refine ⟨.non,_,I.lset (its':=its++[u]) hH e (by simp) (r.append (.cons ru .nil)) ?_,rfl,q⟩
 rw [bK,oG]
 omega
def Wy:R2:=fun x y H Q=>∃ l k xs,x = .ref l∧y = .int k∧H l=some (.lst xs)∧-(2 ^ 63) ≤ k∧k < 2 ^ 63∧xs.length * k.toNat ≤ sizeLine ∧
 ∀ p,H p=none→Q (.ref p) (upd H p (.lst (aK k.toNat xs).flatten))
theorem len_rep {α:Type} (xs:List α) (k:Nat):(aK k xs).flatten.length=k * xs.length:=by
 induction k with
 | zero=>simp
 | succ k ih=>rw [cQ,fP,bK,ih,Nat.succ_mul,Nat.add_comm]
theorem QG:OpR X (binaryOp .Mult) Wy:=by
 intro pins s σ H x y v u Q I rx ry h
 obtain ⟨l,k,xs,rfl,rfl,hH,h1,h2,hz,q⟩:=h
 cases rx
 obtain ⟨t,rfl⟩:=ry
 obtain ⟨z,its,n,r,hl,e⟩:=I.lstM hH
 have hlen:its.toArray.size * k.toNat ≤ sizeLine:=by rw [aZ,← hl];exact hz
 have hcap:¬ its.toArray.size * k.toNat > (2 ^ 63 - 1) / 8:=by
  have:(sizeLine:Nat) ≤ (2 ^ 63 - 1) / 8:=by decide
  omega
 have hfit:¬ (!Builtin.List.listFitsIndex k)=true:=by
  rw [fitsIndex_both h1 h2]
  exact gA
 have hlong:¬ Builtin.List.listTooLong (its.toArray.size * k.toNat)=true:=by
  rw [Ht hlen]
  exact gA
 have hnew:ux (fun x1 x2=>x1++x2) #[] (aK (if its.toArray.isEmpty=true then 0 else k.toNat) its.toArray)=(aK k.toNat its).flatten.toArray:=by
  have f0:∀ m:Nat,ux (fun x1 x2=>x1++x2) #[] (aK m its.toArray)=(aK m its).flatten.toArray:=fun m=>by
   have:=foldl_rep its m []
   rw [kJ] at this
   exact this
  rw [f0]
  cases its with
  | nil=>simp
  | cons a r'=>rw [if_neg (by simp)]
 refine wpAny_binaryOp_repeat_ref (T := "list") (U := "int") (by decide) ⟨_,e,rfl⟩ (fun s'=>typeIs_int s' k t) noFill_list_mul F.fills_int_mul F.slot_int_rmul repeat_list F.slot_int_index.lookup
  (call_meets F.slot_int_rmul (typeIs_int s k t) F.entry_int_rmul (F.args_int_rmul_2 _ _) (int___rmul___int_list k t l its.toArray n)
   ⟨e,rfl,⟨_,e,rfl⟩,call_meets F.slot_list_mul ⟨_,e,rfl⟩ F.entry_list_mul (F.args_list_mul_2 _ _) (AutoListH.list___mul___list_int_3 l its.toArray n k t hfit hcap hlong) ⟨e,?_⟩⟩)
 rw [hnew]
 exact ⟨.ref _,_,I.lnew (t':=s.toks) (r.rep k.toNat) (by rw [len_rep,Nat.mul_comm];exact hz),rfl,q _ I.fresh⟩
end
section
variable {prog:Program} {w:World} {A:Around} {E:Value→Shared→Prop} {s:Shared}
set_option maxRecDepth 100000 in
end
section
variable {X:Cx}
end
end L2
namespace Att
open PySem PySem.W PySem.Calls PyProof.Rows
theorem t_ {P:Params} {h:Heap}:∀ (ns:List Int) (vs:List Value),WellAll P h vs (ns.map WData.int)→IntsAre vs ns:=by
 intro ns
 induction ns with
 | nil =>
  intro vs w
  rw [qH] at w
  cases w
  exact .nil
 | cons n ns ih =>
  intro vs w
  rw [bH] at w
  cases w with
  | cons a b =>
   cases a
   exact .cons _ _ (ih _ b)
theorem Fb {l:OpenLaw} {n:Nat} (hn:l.most=some n) {P:Params} {h:Heap} {args:List WData} {vals:List Value}
 (hpre:l.row.toRowW.claim.pre args=true) (hwl:WellAll P h vals args) :
 ∃ a vs ns,vals=[Value.ref a]∧args=[WData.list (ns.map WData.int)]∧h.get? a=some { cls:=.type "list", data:=.seq vs.toArray }∧IntsAre vs ns∧ns.length ≤ n:=by
 have hsh:WShape.hasAll [] args [.list .int]=true:=(pre_splitW hpre).1
 have hc:l.pre.holds [] { args:=args }=true:=(pre_splitW hpre).2
 obtain ⟨d,r,rfl,h1,h2⟩:=hasAllW_cons hsh
 obtain rfl:=hasAllW_nil h2
 obtain ⟨xs,rfl,h3⟩:=hasW_list h1
 obtain ⟨ns,rfl⟩:=items_int h3
 have hlen:ns.length ≤ n:=by
  unfold OpenLaw.pre at hc
  have h4:(WTm.not (.lt (.lit (.int (n:Int))) (.len (.arg 0)))).holds [] { args:=[.list (ns.map .int)] }=true:=by
   have h4:=(holds_andW hc).1
   rw [hn] at h4
   exact h4
  have h5:=condW_of h4 (w_not (w_lt w_lit (w_len_list (w_arg rfl))))
  rw [aL] at h5
  refine Nat.le_of_not_lt fun q=>?_
  have q':(n:Int) < ((ns.length:Nat):Int):=by omega
  first
   | (rw [dTr q'] at h5;exact absurd h5 (by decide))
   | (simp at h5;omega)
 cases hwl with
 | cons w1 w2 =>
  cases w2
  cases w1 with
  | list ho hall=>exact ⟨_,_,ns,rfl,rfl,ho,t_ ns _ hall,hlen⟩
theorem Fd (l:OpenLaw) (args:List WData):l.row.toRowW.claim.post args (.bool true) args=true :=
 postW_of (r:=l.row.toRowW) (X:=(true == true))
  (show WShape.has [] (.bool true) .bool=true by first | rfl | decide | simp [WShape.has,WShape.arms,WShape.armsAll])
  (show (WTm.eq .res (.lit (.bool true))).value [] { args:=args,res:=some (.bool true),after:=args }=some (.bool (true == true)) from w_eq_bool (w_res rfl) w_lit) rfl
theorem zA {l:OpenLaw} {n:Nat} {q:Program} {loose:List Str} {XP:(Str→Option Value)→Heap→Prop} {YP:World→Heap→Prop} {d:DefRec}
 (hn:l.most=some n) (hdf:d.params.defaults=[])
 (call:∀ (w:World) (s₀ s₁:Shared) (mg mb:Str→Option Value) (fa:Addr) (o:Obj) (pm cd doc:Value) (a:Addr) (vs:List Value) (ns:List Int),
  Ground q loose [] XP w s₀ mg mb s₁.heap→YP w s₁.heap →
  s₁.heap.get? fa=some o→o.data = .func (docDef d.name d.params d.body d.scope pm cd doc)→s₁.heap.CodeRec cd d.name→mg d.name=some (.ref fa) →
  s₁.heap.get? a=some { cls:=.type "list", data:=.seq vs.toArray }→IntsAre vs ns→ns.length ≤ n→s₁.gens = #[] →
  codeAny (model l.prog w) callerA (.call (.ref fa) ⟨[.ref a],[]⟩) (fun r s'=>r = .ok (.ret (.bool true))∧OldK s₁.heap s'.heap∧s'.os=s₁.os∧AllBare s'.gens) s₁) :
 WalkO q loose XP YP l.row.toRowW d [] (fun f vs=>PySem.call f vs):=by
 intro w s₀ s₁ mg mb G Y fa o pm cd doc dV kV ho hd hcd hD hmg hg args vals as hpre hlay hrd hwl hlo
 obtain rfl:dV = .none:=Dflts.none hD hdf
 obtain rfl:kV = .none:=Dflts.noKw hD
 obtain ⟨a,vs,ns,rfl,rfl,hobj,hints,hlen⟩:=Fb hn hpre hwl
 refine enter_call (codeAny_mono (call w s₀ s₁ mg mb fa o pm cd doc a vs ns G Y ho (fd_plain hd) hcd hmg hobj hints hlen hg) fun r s' hq=>?_)
 obtain ⟨rfl,h2,h3,h4⟩:=hq
 exact ⟨.inl ⟨.bool true,.bool true,[],rfl,fun _=>rfl,.bool true,Fd l _,fun _=>⟨List.Pairwise.nil,fun _ hm=>(nomatch hm)⟩⟩,h2,h3,h4⟩
section
variable {prog:Program} {w:World} {A:Around} {E:Value→Shared→Prop} {s:Shared} {K:Frag}
def mX (h:Heap):Heap:={ h with objs:=#[] }
theorem uI (h:Heap) (b:Addr):(mX h).get? b=none:=by
 cases e:(mX h).get? b with
 | none=>rfl
 | some o=>exact absurd (Heap.lt_size e) (ou _)
theorem Hu {h:Heap} {L:Addr} {m:Str→Option Value} (n:h.Ns L m):Fr (mX h) L h m :=
 ⟨n,fun b o e=>(by rw [uI] at e;cases e),fG _⟩
end
end Att
namespace L2
open PySem PySem.Spec PyProof.Rows
theorem m7:∀ {vs:List Value} {ns:List Int},IntsAre vs ns→Vals (ns.map V.int) vs
 | _,_,.nil=>.nil
 | _,_,.cons n t h=>.cons ⟨t,rfl⟩ (m7 h)
def Only (H:Hp):Prop:=∀ b,H b=none∨∃ o xs,H b=some (.frz o (.lst xs))
def uJ (ts:List (Addr × Str × Pos)) (H:Hp):Hp:=fun b=>match ts.find? (fun t=>t.1 == b) with
 | some t=>some (.tbl t.2.1 t.2.2)
 | none=>H b
theorem Hv (ts:List (Addr × Str × Pos)) (H:Hp) (b:Addr):(uJ ts H b=H b∧∀ t ∈ ts,t.1 ≠ b)∨∃ t ∈ ts,t.1=b∧uJ ts H b=some (.tbl t.2.1 t.2.2):=by
 unfold uJ
 cases e:ts.find? (fun t=>t.1 == b) with
 | none=>exact .inl ⟨rfl,fun t ht z=>by have:=jz.mp e t ht;simp [z] at this⟩
 | some t =>
  have h1:=List.mem_of_find?_eq_some e
  have h2:=List.find?_some e
  exact .inr ⟨t,h1,by simpa using h2,rfl⟩
theorem Hw {P:Program} {w:World} {K:PySem.W.Frag} {mg mb:Str→Option Value} {CX:CXT} {k:Nat} {fa a:Addr} {fd:FuncData} {x:Str} {sp:Sp} {s₁:Shared} {vs:List Value} {ns:List Int}
 (KX:K.In s₁.heap) (hns:s₁.heap.Ns mainGlobals mg) (hb:s₁.heap.Ns builtinsNs mb) (hbb:∀ x:Str,x ≠ "__name__" → mb x=bootBuiltins x) (hlim:s₁.heap.NoLimit) (hbm:∃ bm ob,mg "__builtins__" = some (.ref bm)∧bm ≠ builtinsNs∧s₁.heap.get? bm=some ob∧ob.cls = .type "module" ∧ ob.dict=some builtinsNs∧ob.data = .plain) (hg:s₁.gens = #[])
 (ha:s₁.heap.get? a=some { cls:=.type "list", data:=.seq vs.toArray }) (hi:IntsAre vs ns) (hl:ns.length ≤ sizeLine) (hr:Room k callerA)
 (F:∀ base:Heap,K.In base→base.Ns mainGlobals mg→FnOk P w K mg base CX k fa fd [x] sp) (hbind:∀ (s:Shared) (u:Value),BindsTo s fd ⟨[u],[]⟩ [(x,u)])
 (ts:List (Addr × Str × Pos)) (hts:∀ t ∈ ts,s₁.heap.get? t.1=some { cls:=.none,data:=.fields #[] }) (hCT:∀ t ∈ ts,isCodeTable s₁.heap t.1) (hKt:∀ t ∈ ts,K.lookup t.1=none) (htu:∀ t ∈ ts,∀ t' ∈ ts,t.1=t'.1→t=t')
 (hsp:∀ H:Hp,(∀ t ∈ ts,H t.1=some (.tbl t.2.1 t.2.2))→SqL K H a (ns.map V.int)→sp [.ref a] H (fun v _=>v = .bl true) fun _ _ _=>False)
 (hCX:∀ H e s',CX [] H s₁ (fun _ _ _=>False) e s'→False) :
 codeAny (model P w) callerA (.call (.ref fa) ⟨[.ref a],[]⟩) (fun r s'=>r = .ok (.ret (.bool true))∧OldK s₁.heap s'.heap∧s'.os=s₁.os∧AllBare s'.gens) s₁:=by
 have rv:=m7 hi
 have lenV:=hi.length
 have core:∀ H:Hp,(∀ b,H b=none∨(∃ o xs,H b=some (.frz o (.lst xs)))∨∃ t ∈ ts,t.1=b∧H b=some (.tbl t.2.1 t.2.2))→(∀ t ∈ ts,H t.1=some (.tbl t.2.1 t.2.2))→SqL K H a (ns.map V.int)→HOk P w H s₁.heap→(∀ b,H b ≠ none→b=a∨∃ t ∈ ts,t.1=b)→(H a ≠ none→K.lookup a=none) →
  codeAny (model P w) callerA (.call (.ref fa) ⟨[.ref a],[]⟩) (fun r s'=>r = .ok (.ret (.bool true))∧OldK s₁.heap s'.heap∧s'.os=s₁.os∧AllBare s'.gens) s₁:=by
  intro H hO hT hS hok hA hK
  have base_of:∀ {b:Addr} {o:Obj},s₁.heap.get? b=some o→H b=none→(xT s₁.heap H).get? b=some o:=fun e n=>G4 e n
  have noA:∀ {b:Addr} {o:Obj} {es:Array DictEntry} {ep:Nat},s₁.heap.get? b=some o→o.data = .dict es ep→H b=none:=fun {b o es ep} e d=>by
   cases q:H b with
   | none=>rfl
   | some u =>
    rcases hA b (by rw [q];simp) with e' | ⟨t,ht,e'⟩
    case inr =>
     subst e'
     rw [hts t ht] at e;cases e
     have d':Data.fields #[]=Data.dict es ep:=d
     cases d'
    subst e'
    rw [ha] at e;cases e
    have d':Data.seq vs.toArray _=Data.dict es ep:=d
    cases d'
  have nsK:∀ {b:Addr} {m:Str→Option Value},s₁.heap.Ns b m→(xT s₁.heap H).Ns b m:=fun {b m} ⟨o,es,ep,e,d,r⟩=>⟨o,es,ep,base_of e (noA e d),d,r⟩
  have hKb:K.In (xT s₁.heap H):=fun b o e=>base_of (KX b o e) (by
   cases q:H b with
   | none=>rfl
   | some u =>
    rcases hA b (by rw [q];simp) with e' | ⟨t,ht,e'⟩
    ·subst e'
     rw [hK (by rw [q];simp)] at e;cases e
    ·subst e'
     rw [hKt t ht] at e;cases e)
  have hM:Mod K mg (xT s₁.heap H):=⟨hKb,nsK hns,⟨mb,nsK hb,hbb⟩,let ⟨mc,h1,h2⟩:=hlim;⟨mc,nsK h1,h2⟩,let ⟨bm,ob,g1,g2,g3,g4,g5,g6⟩:=hbm;⟨bm,ob,g1,g2,base_of g3 (by
   cases q:H bm with
   | none=>rfl
   | some u =>
    rcases hA bm (by rw [q];simp) with e' | ⟨t,ht,e'⟩
    ·rw [e',ha] at g3;cases g3
     have z:Value.type "list" = Value.type "module" := g4
     injection z with z
     exact absurd z (by decide)
    ·rw [← e',hts t ht] at g3;cases g3
     cases g4),g4,g5,g6⟩⟩
  have e0:Env0 P w K mg (xT s₁.heap H) callerA [] s₁ H:=⟨rfl,hM,fun b o e=>Ky e,qJ (Et _ _),trivial,fun b hb=>absurd (show b ∈ ([]:List Addr) from hb) (by simp),hok,.of_eq hg⟩
  refine codeAny_mono ((F _ hKb (nsK hns)).run callerA [] s₁ H ⟨[.ref a],[]⟩ [.ref a] [.ref a] _ _ hr e0 (hbind s₁ (.ref a)) (.cons rfl .nil) (hsp H hT hS)) fun r s' h=>?_
  cases r with
  | error e=>exact (hCX H e s' h).elim
  | ok fl =>
   cases fl with
   | next=>exact False.elim h
   | brk=>exact False.elim h
   | cont=>exact False.elim h
   | ret u =>
    obtain ⟨v,H',os,bare,un,hok',r',q⟩:=h
    have q':v = .bl true:=q
    subst q'
    obtain rfl:u=Value.bool true:=r'
    refine ⟨rfl,⟨fun b o e=>?_,fun b o e=>un.there b o e (by simp)⟩,os,bare⟩
    cases q:H b with
    | none=>exact .inl <| un.keep b o e q (by intro z;exact absurd (show b ∈ ([]:List Addr) from z) (by simp)) (by simp)
    | some u =>
     rcases hO b with z | ⟨ob,xs,z⟩ | ⟨t,ht,rfl,z⟩
     case inr.inr =>
      have z2:=un.tbls _ _ _ z
      obtain ⟨ps,e2,_⟩:=hok' _ _ z2
      rw [hts t ht] at e;cases e
      exact .inr (.inl ⟨hCT t ht,rfl,#[],ps,rfl,by rw [e2];simp⟩)
     ·rw [q] at z;cases z
     ·have z2:=un.frzs b ob _ z
      obtain ⟨e1,_⟩:=hok b _ z
      obtain ⟨e2,_⟩:=hok' b _ z2
      rw [e] at e1;cases e1
      exact .inl e2
 have core1:∀ H:Hp,Only H→SqL K H a (ns.map V.int)→HOk P w H s₁.heap→(∀ b,H b ≠ none→b=a)→(H a ≠ none→K.lookup a=none) →
  codeAny (model P w) callerA (.call (.ref fa) ⟨[.ref a],[]⟩) (fun r s'=>r = .ok (.ret (.bool true))∧OldK s₁.heap s'.heap∧s'.os=s₁.os∧AllBare s'.gens) s₁:=by
  intro H hO hS hok hA hK
  have na:∀ t ∈ ts,t.1 ≠ a:=fun t ht z=>by
   have z2:=hts t ht
   rw [z,ha] at z2
   cases z2
  have cs:∀ b,(uJ ts H b=H b∧∀ t ∈ ts,t.1 ≠ b)∨∃ t ∈ ts,t.1=b∧uJ ts H b=some (.tbl t.2.1 t.2.2):=Hv ts H
  have la:uJ ts H a=H a:=by
   rcases cs a with z | ⟨t,ht,z,_⟩
   ·exact z.1
   ·exact absurd z (na t ht)
  have noown:∀ b x,H b ≠ some (.own x):=fun b x z=>by rcases hO b with y | ⟨_,_,y⟩ <;> (rw [y] at z;cases z)
  have notup:∀ b x,H b ≠ some (.tup x):=fun b x z=>by rcases hO b with y | ⟨_,_,y⟩ <;> (rw [y] at z;cases z)
  refine core (uJ ts H) (fun b=>?_) (fun t ht=>?_) ?_ (fun b u z=>?_) (fun b z=>?_) (fun z=>hK (by rw [← la];exact z))
  ·rcases cs b with z | ⟨t,ht,z1,z2⟩
   ·rcases hO b with y | y
    ·exact .inl (z.1.trans y)
    ·obtain ⟨o,xs,y⟩:=y
     exact .inr (.inl ⟨o,xs,z.1.trans y⟩)
   ·exact .inr (.inr ⟨t,ht,z1,z2⟩)
  ·rcases cs t.1 with z | ⟨t',ht',z1,z2⟩
   ·exact absurd rfl (z.2 t ht)
   ·have:=htu t' ht' t ht z1
    subst this
    exact z2
  ·rcases hS with (z | ⟨o,z⟩) | z
   ·exact .inl (.inl (by rw [la];exact z))
   ·exact .inl (.inr ⟨o,by rw [la];exact z⟩)
   ·exact .inr z
  ·rcases cs b with y | ⟨t,ht,z1,z2⟩
   ·rw [y.1] at z
    exact (hok b u z).stay (fun _ _ _ q=>q) (fun c q=>absurd q (noown c b)) fun c xs q=>absurd q (notup c xs)
   ·rw [z2] at z
    cases z
    subst z1
    exact ⟨#[],hts t ht,.inl rfl⟩
  ·rcases cs b with y | ⟨t,ht,z1,z2⟩
   ·exact .inl (hA b (by rw [← y.1];exact z))
   ·exact .inr ⟨t,ht,z1⟩
 cases hk:K.lookup a with
 | some o =>
  have e:=KX a o hk
  rw [ha] at e
  cases e
  refine core1 (fun _=>none) (fun _=>.inl rfl) (.inr ⟨_,vs.toArray,_,hk,rfl,rfl,rfl,by rw [aZ,lenV];exact hl,by simpa using rv⟩) (fun b u z=>by have z':(none:Option HO)=some u:=z;cases z') (fun b z=>absurd rfl z) fun z=>absurd rfl z
 | none =>
  refine core1 (fun b=>if b=a then some (.frz { cls:=.type "list", data:=.seq vs.toArray } (.lst (ns.map V.int))) else none) (fun b=>?_) (.inl (.inr ⟨{ cls:=.type "list", data:=.seq vs.toArray },if_pos rfl⟩)) (fun b u z=>?_) (fun b z=>?_) fun _=>hk
  ·by_cases hb:b=a
   ·exact .inr ⟨_,_,if_pos hb⟩
   ·exact .inl (if_neg hb)
  ·by_cases hb:b=a
   ·have z':=(if_pos hb).symm.trans z
    cases z'
    subst hb
    exact ⟨ha,by rw [aL];exact hl,vs,_,rv,ha⟩
   ·have z':=(if_neg hb).symm.trans z
    cases z'
  ·by_cases hb:b=a
   ·exact hb
   ·exact absurd (if_neg hb) z
end L2
namespace L2
open PySem PySem.Spec PyProof.Rows
abbrev KOf {K:PySem.W.Frag} {h:Heap} (_:K.In h):PySem.W.Frag:=K
theorem K3 {l:PySem.W.OpenLaw} {n k:Nat} {q:Program} {loose:List Str} {XP:(Str→Option Value)→Heap→Prop} {YP:World→Heap→Prop} {d:DefRec} {K:Params→PySem.W.Frag} {CX:World→CXT} {sp:World→Sp} {x:Str}
 (hn:l.most=some n) (hn2:n ≤ sizeLine) (hdf:d.params.defaults=[]) (hr:Room k callerA)
 (hY:∀ (w:World) (h:Heap),YP w h→(K w.params).In h)
 (F:∀ (w:World) (mg:Str→Option Value) (fa:Addr) (h:Heap),(K w.params).In h→h.Ns mainGlobals mg→mg d.name=some (.ref fa) →
  ∃ fd:FuncData,(∀ (s:Shared) (u:Value),BindsTo s fd ⟨[u],[]⟩ [(x,u)]) ∧
   ∀ base:Heap,(K w.params).In base→base.Ns mainGlobals mg→FnOk l.prog w (K w.params) mg base (CX w) k fa fd [x] (sp w))
 (ts:List (Addr × Str × Pos)) (hts:∀ (w:World) (h:Heap),YP w h→(∀ t ∈ ts,h.get? t.1=some { cls:=.none,data:=.fields #[] })∧(∀ t ∈ ts,isCodeTable h t.1)∧∀ t ∈ ts,(K w.params).lookup t.1=none) (htu:∀ t ∈ ts,∀ t' ∈ ts,t.1=t'.1→t=t')
 (hsp:∀ (w:World) (H:Hp) (a:Addr) (ns:List Int),ns.length ≤ n→(∀ t ∈ ts,H t.1=some (.tbl t.2.1 t.2.2))→SqL (K w.params) H a (ns.map V.int)→sp w [.ref a] H (fun v _=>v = .bl true) fun _ _ _=>False)
 (hCX:∀ (w:World) (H:Hp) (s:Shared) (e:Value) (s':Shared),CX w [] H s (fun _ _ _=>False) e s'→False) :
 PySem.W.WalkO q loose XP YP l.row.toRowW d [] (fun f vs=>PySem.call f vs):=by
 refine Att.zA hn hdf fun w s₀ s₁ mg mb fa o pm cd doc a vs ns G Y ho hd hcd hmg hobj hints hlen hg=>?_
 have KX:=hY w _ Y
 obtain ⟨fd,hb,hF⟩:=F w mg fa _ KX G.T.g hmg
 exact Hw KX G.T.g G.T.b G.T.builtins G.T.nolimit G.T.bmain hg hobj hints (bV hlen hn2) hr hF hb ts (hts w _ Y).1 (hts w _ Y).2.1 (hts w _ Y).2.2 htu (fun H hO hS=>hsp w H a ns hlen hO hS) fun H e s'=>hCX w H s₁ e s'
theorem Hy {l:PySem.W.OpenLaw} {n k:Nat} {q:Program} {loose:List Str} {XP:(Str→Option Value)→Heap→Prop} {YP:World→Heap→Prop} {d:DefRec} {K:Params→PySem.W.Frag} {CX:CXT} {sp:PySem.W.Frag→Sp} {x:Str}
 (hn:l.most=some n) (hn2:n ≤ sizeLine) (hdf:d.params.defaults=[]) (hr:Room k callerA)
 (hY:∀ (w:World) (h:Heap),YP w h→(K w.params).In h)
 (F:∀ (w:World) (mg:Str→Option Value) (fa:Addr) (h:Heap),(K w.params).In h→h.Ns mainGlobals mg→mg d.name=some (.ref fa) →
  ∃ fd:FuncData,(∀ (s:Shared) (u:Value),BindsTo s fd ⟨[u],[]⟩ [(x,u)]) ∧
   ∀ base:Heap,(K w.params).In base→base.Ns mainGlobals mg→FnOk l.prog w (K w.params) mg base CX k fa fd [x] (sp (K w.params)))
 (ts:List (Addr × Str × Pos)) (hts:∀ (w:World) (h:Heap),YP w h→(∀ t ∈ ts,h.get? t.1=some { cls:=.none,data:=.fields #[] })∧(∀ t ∈ ts,isCodeTable h t.1)∧∀ t ∈ ts,(K w.params).lookup t.1=none) (htu:∀ t ∈ ts,∀ t' ∈ ts,t.1=t'.1→t=t')
 (hsp:∀ (K:PySem.W.Frag) (H:Hp) (a:Addr) (ns:List Int),ns.length ≤ n→(∀ t ∈ ts,H t.1=some (.tbl t.2.1 t.2.2))→SqL K H a (ns.map V.int)→sp K [.ref a] H (fun v _=>v = .bl true) fun _ _ _=>False)
 (hCX:∀ (H:Hp) (s:Shared) (e:Value) (s':Shared),CX [] H s (fun _ _ _=>False) e s'→False) :
 PySem.W.WalkO q loose XP YP l.row.toRowW d [] (fun f vs=>PySem.call f vs) :=
 K3 (K:=K) (CX:=fun _=>CX) (sp:=fun w=>sp (K w.params)) hn hn2 hdf hr hY F ts hts htu (fun w H a ns h1 h2 h3=>hsp (K w.params) H a ns h1 h2 h3) fun _ H s e s'=>hCX H s e s'
end L2
/- THE LAST THEOREM (shape;LID,My.* are yours):
   My.Adr: a structure of the addresses that your layer names (classes,functions);My.Txt K t: a structure (Prop) of the equations over K;
   My.txt_mk:{K} {implicit addresses ..} (e1:nsIn K mainGlobals "law" = some (some (.ref f))) (e2:K.lookup f=some ⟨oc,od,.func (fnOf "law" "law" params body scope dV kV doc pm an cdv ct),sl⟩) (e3:codeIn K cdv "law" = true) .. : ∃ t,My.Txt K t
set_option maxRecDepth 100000 in
set_option maxHeartbeats 0 in
(the tactic k_is has no namespace: write k_is) -/
namespace L2
open PySem PySem.Spec PyProof.Rows
def gQ (s:Stmt):Arguments:=match s with
 | .FunctionDef _ a _ _ _ _ _ _ _ _=>a
 | _=>{ posonlyargs:=[],args:=[],vararg:=none,kwonlyargs:=[],kw_defaults:=[],kwarg:=none,defaults:=[] }
def dI (s:Stmt):List Stmt:=match s with
 | .FunctionDef _ _ b _ _ _ _ _ _ _=>b
 | _=>[]
def aP (s:Stmt):Scope:=match s with
 | .FunctionDef _ _ _ _ _ _ sc _ _ _=>sc
 | _=>{ kind:=.function,names:=[],isGenerator:=false,isCoroutine:=false }
abbrev CX0:CXT:=fun _ _ _ _ _ _=>False
abbrev E0:XK:=fun _ _ _=>False
theorem Uj {X:Cx}:Passes CX0 X E0:=fun _ _ _ _ _ _ _ h=>h.elim
structure Fun (K:PySem.W.Frag) (x qual:Str) (st:Stmt) (f:Addr) (fd:FuncData):Prop where
 ex:∃ (oc:Value) (od:Option Addr) (kV doc pm:Value) (an:Option Addr) (cdv ct:Value) (osl:Array (Option Value)),
  fd=PySem.W.fnOf x qual (gQ st) (dI st) (aP st) .none kV doc pm an cdv ct∧K.lookup f=some ⟨oc,od,.func fd,osl⟩∧PySem.W.codeIn K cdv qual=true
 kp:PySem.W.keepIn K (.ref f)=true
section
variable {P:Program} {w:World} {K:PySem.W.Frag} {mg:Str→Option Value} {base:Heap}
end
section
variable {X:Cx}
end
theorem vQ {A B:Prop} (h:B):if false=true then A else B:=by
 rw [if_neg gA]
 exact h
theorem vR {A B:Prop} (h:A):if true=true then A else B:=by
 rw [if_pos rfl]
 exact h
def Same (H H':Hp):Prop:=∀ b o,H b=some o→H' b=some o
theorem Same.refl (H:Hp):Same H H:=fun _ _ h=>h
theorem Same.trans {H H1 H2:Hp} (a:Same H H1) (b:Same H1 H2):Same H H2:=fun c o h=>b c o (a c o h)
theorem Same.free {H H':Hp} (e:Same H H') {l:Addr} (h:H' l=Option.none):H l=Option.none:=by
 cases q:H l with
 | none=>rfl
 | some o =>
  rw [e l o q] at h
  cases h
theorem Same.seq {K:PySem.W.Frag} {H H':Hp} {a:Addr} {xs:List V} (e:Same H H') (h:SqL K H a xs):SqL K H' a xs:=by
 rcases h with (h | ⟨o,h⟩) | h
 ·exact .inl (.inl (e _ _ h))
 ·exact .inl (.inr ⟨o,e _ _ h⟩)
 ·exact .inr h
end L2
namespace My
open PySem PySem.Spec PyProof.Rows L2
abbrev St:=L2.St
theorem fJ {H:Hp} {p:Addr} (h:H p=none) (o:HO):Same H (upd H p o):=fun b u q=>by rw [cM (i_ q h)];exact q
structure Df (K:PySem.W.Frag) (mg:Str→Option Value) (x:Str) (st:Stmt) (ps:List Str):Prop where
 ex:∃ (f:Addr) (fd:FuncData),Fun K x x st f fd∧Binds K fd ps []∧mg x=some (.ref f)
structure Has (P:Program) (w:World) (K:PySem.W.Frag) (mg:Str→Option Value) (base:Heap) (n:Nat) (x:Str) (ps:List Str) (sp:Sp):Prop where
 ex:∃ (f:Addr) (fd:FuncData),FnOk P w K mg base CX0 n f fd ps sp∧Binds K fd ps []∧PySem.W.keepIn K (.ref f)=true∧mg x=some (.ref f)
section
variable {P:Program} {w:World} {K:PySem.W.Frag} {mg:Str→Option Value} {base:Heap} {x:Str} {ps N:List Str} {sp:Sp} {st:Stmt} {k n:Nat}
theorem Has.mono (h:Has P w K mg base k x ps sp) (l:k ≤ n):Has P w K mg base n x ps sp:=by
 obtain ⟨f,fd,F,b,kp,m⟩:=h.ex
 exact ⟨f,fd,F.mono l,b,kp,m⟩
end
section
variable {X:Cx} {x:Str} {ps:List Str} {sp:Sp} {n:Nat} {p pos:Pos} {e:Expr} {es:List Expr} {t:TA}
theorem zB (h:Has X.prog X.w X.K X.mg X.base n x ps sp) (hr:Room n X.A) (ha:PA X (e :: es) t) (hg:Gl X x:=by rfl) (hdb:(x == ("__debug__" : Str))=false:=by decide)
 (he:starEach (e :: es) X.env=(false,eval e X.env) :: starEach es X.env:=by rfl) (hpl:(backTo pos (starEach es X.env)).any (·.1)=false:=by rfl) :
 PE X (.Call (.Name x p) (e :: es) [] pos) (OJ sp [] E0 t):=by
 obtain ⟨f,fd,F,b,kp,m⟩:=h.ex
 exact KY F hr hg m kp b .nil Uj ha hdb he hpl
end
mutual
inductive RdV (K:PySem.W.Frag) (H:Hp):V→PyData→Prop
 | non:RdV K H .non .none
 | bl (b:Bool):RdV K H (.bl b) (.bool b)
 | int (i:Int):RdV K H (.int i) (.int i)
 | str (x:Str):RdV K H (.str x) (.str x)
 | lst {a:Addr} {xs:List V} {ds:List PyData}:SqL K H a xs→RdVs K H xs ds→RdV K H (.ref a) (.list ds)
 | tup {a:Addr} {xs:List V} {ds:List PyData}:SqT K H a xs→RdVs K H xs ds→RdV K H (.ref a) (.tuple ds)
inductive RdVs (K:PySem.W.Frag) (H:Hp):List V→List PyData→Prop
 | nil:RdVs K H [] []
 | cons {v:V} {d:PyData} {vs:List V} {ds:List PyData}:RdV K H v d→RdVs K H vs ds→RdVs K H (v :: vs) (d :: ds)
end
section
variable {X:Cx} {pins:List (Addr × Obj)} {σ:St} {H:Hp} {s:Shared}
mutual
theorem RdV.reads (I:Inv X pins σ H s):∀ {v:V} {d:PyData},RdV X.K H v d→∀ {u:Value},RelV v u→∃ as,Reads s.heap u d as
 | _,_,.non,_,r=>by cases r;exact ⟨_,.none⟩
 | _,_,.bl b,_,r=>by cases r;exact ⟨_,.bool b⟩
 | _,_,.int i,_,r=>by obtain ⟨t,rfl⟩:=r;exact ⟨_,.int i t⟩
 | _,_,.str x,_,r=>by obtain ⟨t,rfl⟩:=r;exact ⟨_,.str x t⟩
 | _,_,.lst h q,_,r=>by
  cases r
  obtain ⟨its,rv,⟨o,n,e,c,_,d⟩,_⟩:=I.list h
  obtain ⟨as,z⟩:=RdVs.reads I q rv
  exact ⟨_,.list e c d (by simpa using z)⟩
 | _,_,.tup h q,_,r=>by
  cases r
  obtain ⟨its,rv,⟨o,e,c,n,d⟩,_⟩:=I.tuple h
  obtain ⟨as,z⟩:=RdVs.reads I q rv
  exact ⟨_,.tuple e c d (by simpa using z)⟩
theorem RdVs.reads (I:Inv X pins σ H s):∀ {vs:List V} {ds:List PyData},RdVs X.K H vs ds→∀ {us:List Value},Vals vs us→∃ as,ReadsAll s.heap us ds as
 | _,_,.nil,_,r=>by cases r;exact ⟨_,.nil⟩
 | _,_,.cons h q,_,r=>by
  cases r with
  | cons r1 r2 =>
   obtain ⟨as,z⟩:=RdV.reads I h r1
   obtain ⟨bs,y⟩:=RdVs.reads I q r2
   exact ⟨_,.cons z y⟩
end
end
section
variable {X:Cx}
def QH (K:PySem.W.Frag):R2:=fun x y H Q=>∃ da db,RdV K H x da∧RdV K H y db∧SeqAt.shaped da=true∧SeqAt.shaped db=true∧Q (.bl (PyData.eqv da db)) H
def QJ (K:PySem.W.Frag):R2:=fun x y H Q=>∃ da db,RdV K H x da∧RdV K H y db∧SeqAt.shaped da=true∧SeqAt.shaped db=true∧Q (.bl (!PyData.eqv da db)) H
theorem mY (hu:X.A.units + 64 < cLine):OpR X (compareOp .Eq) (QH X.K):=by
 intro pins s σ H x y v u Q I rx ry h
 obtain ⟨da,db,ha,hb,sa,sb,q⟩:=h
 obtain ⟨as,za⟩:=ha.reads I rx
 obtain ⟨bs,zb⟩:=hb.reads I ry
 exact SeqAt.compareEq_shaped za zb sa sb hu ⟨.bl _,H,I,rfl,q⟩
theorem qd (hu:X.A.units + 64 < cLine):OpR X (compareOp .NotEq) (QJ X.K):=by
 intro pins s σ H x y v u Q I rx ry h
 obtain ⟨da,db,ha,hb,sa,sb,q⟩:=h
 obtain ⟨as,za⟩:=ha.reads I rx
 obtain ⟨bs,zb⟩:=hb.reads I ry
 exact SeqAt.compareNe_shaped za zb sa sb hu ⟨.bl _,H,I,rfl,q⟩
end
def isT (c T:String):Bool:=T == c || (T == "bool" && c == "int")
section
variable {K:PySem.W.Frag}
theorem QK (h:c = "int" ∨ c = "bool" ∨ c = "tuple" ∨ c = "list" ∨ c = "str") (g:T = "NoneType" ∨ T = "bool" ∨ T = "int" ∨ T = "str" ∨ T = "list" ∨ T = "tuple" ∨ T = "dict") :
 PySem.W.kitOne K (.type T) (.type c)=some (isT c T):=by
 rcases h with rfl | rfl | rfl | rfl | rfl <;> rcases g with rfl | rfl | rfl | rfl | rfl | rfl | rfl <;> kernel_rfl
end
section
variable {X:Cx}
end
theorem big {X:Cx} {pins:List (Addr × Obj)} {σ:St} {H:Hp} {s:Shared} (I:Inv X pins σ H s):sysModules < s.heap.objs.size:=by
 have h:mainGlobals < s.heap.objs.size:=(I.mod.glob.keeps I.bk).lt
 exact lg (by decide) h
theorem Hz {P:Program} {w:World} {H:Hp} (h:Heap) (hb:sysModules < h.objs.size):gB P w H (h.push { cls:=.type "dict", data:=.dict #[] }) h.objs.size (.dK []) :=
 ⟨fG _,beq_eq_false_iff_ne.mpr (Ne.symm (bL hb)),[],.nil,Heap.DictOf.new h⟩
def QL:TE:=fun _ H Q=>∀ p,H p=none→Q (.ref p) (upd H p (.dK []))
theorem HB {X:Cx} {pos:Pos}:PE X (.Dict [] [] pos) QL:=fun pins s σ H Q I h =>
 wpAny_Dict_empty ⟨.ref s.heap.objs.size,_,I.laid (a:=s.heap.objs.size) (o:=.dK []) (t':=s.toks) (fun _ _ q=>Heap.get?_push_of_some _ q) (bG _) (Hz s.heap (big I)),rfl,h _ (I.hok.fresh (bG _))⟩
end My
namespace My
open PySem PySem.Spec PyProof.Rows L2
section
variable {X:Cx} {a b c d:Expr} {ta tb tc td:TE} {pos:Pos}
def K4 (r r' r'':R2) (ta tb tc td:TE):TE:=fun σ H Q=>ta σ H fun x H1=>tb σ H1 fun y H2=>r x y H2 fun z H3=>∃ k,z = .bl k ∧
 (if k=true then tc σ H3 fun w' H4=>r' y w' H4 fun z' H5=>∃ k',z' = .bl k'∧(if k'=true then td σ H5 fun v' H6=>r'' w' v' H6 Q else Q (.bl false) H5) else Q (.bl false) H3)
theorem Fe {op op' op'':CmpOp} {r r' r'':R2} (ho:OpR X (compareOp op) r) (ho':OpR X (compareOp op') r') (ho'':OpR X (compareOp op'') r'') (ha:PE X a ta) (hb:PE X b tb) (hc:PE X c tc) (hd:PE X d td)
 (hm:lastMarks [op,op',op''] [b,c,d]=false:=by with_unfolding_all rfl):PE X (.Compare a [op,op',op''] [b,c,d] pos) (K4 r r' r'' ta tb tc td):=by
 intro pins s σ H Q I h
 refine Compare_chain (thn (ha pins s σ H _ I h) fun v s1 ⟨x,H1,I1,r1,q1⟩=>chain_link (thn (hb pins s1 σ H1 _ I1 q1) fun u s2 ⟨y,H2,I2,r2,q2⟩ =>
  thn (ho pins s2 σ H2 x y v u _ I2 r1 r2 q2) fun d s3 ⟨z,H3,I3,r3,k,e,q3⟩=>?_)) hm
 subst e
 cases r3
 refine wpAny_truthy_bool ?_
 cases k with
 | false=>exact ite_ff ⟨.bl false,H3,I3,rfl,q3⟩
 | true =>
  refine ite_tt (chain_link (thn (hc pins s3 σ H3 _ I3 q3) fun w' s4 ⟨z',H4,I4,r4,q4⟩=>thn (ho' pins s4 σ H4 y z' u w' _ I4 r2 r4 q4) fun d' s5 ⟨z2,H5,I5,r5,k2,e2,q5⟩=>?_))
  subst e2
  cases r5
  refine wpAny_truthy_bool ?_
  cases k2 with
  | false=>exact ite_ff ⟨.bl false,H5,I5,rfl,q5⟩
  | true=>exact ite_tt (chain_last (thn (hd pins s5 σ H5 _ I5 q5) fun w3 s6 ⟨z3,H6,I6,r6,q6⟩=>ho'' pins s6 σ H6 z' z3 w' w3 Q I6 r4 r6 q6))
end
structure Blt (mg:Str→Option Value):Prop where
 len_:mg "len" = none
 range_:mg "range" = none
 abs_:mg "abs" = none
 isinstance_:mg "isinstance" = none
 int_:mg "int" = none
 bool_:mg "bool" = none
 tuple_:mg "tuple" = none
 max_:mg "max" = none
 min_:mg "min" = none
end My
namespace My
open PySem PySem.Spec PyProof.Rows L2
abbrev cx (P:Program) (w:World) (K:PySem.W.Frag) (mg:Str→Option Value) (base:Heap) (N:List Str) (x:Str) (st:Stmt) (f:Addr) (cdv:Value) (A:Around) (outer:List Env) (s:Shared) (H:Hp) (E:XK):Cx :=
 (gW CX0 P w K mg base N x (aP st) f cdv A outer s H E).nox
end My
namespace My
open PySem PySem.Spec PyProof.Rows L2
def nR (env:Env):List (Str × NameKind)→List (Str × Addr)→List (Str × Addr)
 | [],cs=>cs
 | (n,k) :: r,cs=>if (k == NameKind.free)=true then nR env r ((n,(env.cells.lookup n).getD 0) :: cs) else nR env r cs
theorem qe {env:Env}:∀ (l:List (Str × NameKind)) (cs:List (Str × Addr)),(∀ x ∈ l,x.2 = .free→∃ c,env.cells.lookup x.1=some c) →
 (forIn l cs fun (x:Str × NameKind) (r:List (Str × Addr))=>(if (x.2 == NameKind.free)=true then (do let c ← cellOf env x.1;pure (ForInStep.yield ((x.1,c) :: r))) else pure (ForInStep.yield r):Sem (ForInStep (List (Str × Addr)))))=pure (nR env l cs)
 | [],_,_=>rfl
 | (n,k) :: r,cs,h=>by
  rw [List.forIn_cons]
  by_cases hk:(k == NameKind.free)=true
  ·obtain ⟨c,hc⟩:=h (n,k) aG (beq_iff_eq.mp hk)
   have hc':cellOf env n=pure c:=by
    unfold cellOf
    rw [show env.cells.lookup n=some c from hc]
   show (do let x ← (if (k == NameKind.free)=true then (do let c ← cellOf env n;pure (ForInStep.yield ((n,c) :: cs))) else pure (ForInStep.yield cs):Sem (ForInStep (List (Str × Addr))));_)=_
   rw [if_pos hk,hc']
   have ih:=qe r ((n,c) :: cs) fun x hx=>h x (aF _ hx)
   rw [nR,if_pos hk,show env.cells.lookup n=some c from hc]
   exact ih
  ·show (do let x ← (if (k == NameKind.free)=true then (do let c ← cellOf env n;pure (ForInStep.yield ((n,c) :: cs))) else pure (ForInStep.yield cs):Sem (ForInStep (List (Str × Addr))));_)=_
   rw [if_neg hk]
   have ih:=qe r cs fun x hx=>h x (aF _ hx)
   rw [nR,if_neg hk]
   exact ih
theorem A_ {env:Env} {scope:Scope} (h:∀ x ∈ scope.names,x.2 = .free→∃ c,env.cells.lookup x.1=some c):closureFor scope env=pure (nR env scope.names []):=by
 have z:=qe (env:=env) scope.names [] h
 show (forIn scope.names [] fun (x:Str × NameKind) (r:List (Str × Addr))=>(if (x.2 == NameKind.free)=true then (do let c ← cellOf env x.1;pure (ForInStep.yield ((x.1,c) :: r))) else pure (ForInStep.yield r):Sem (ForInStep (List (Str × Addr))))) >>= (fun cs=>pure cs)=_
 rw [z]
 rfl
theorem uK {env:Env}:∀ (l:List (Str × NameKind)) (cs:List (Str × Addr)),(∀ x ∈ l,x.2 = .free→∃ c,env.cells.lookup x.1=some c)→(∀ x c,cs.lookup x=some c→env.cells.lookup x=some c) →
 ∀ x c,(nR env l cs).lookup x=some c→env.cells.lookup x=some c
 | [],_,_,hc,x,c,e=>hc x c e
 | (n,k) :: r,cs,h,hc,x,c,e=>by
  rw [nR] at e
  by_cases hk:(k == NameKind.free)=true
  ·rw [if_pos hk] at e
   obtain ⟨d,hd⟩:=h (n,k) aG (beq_iff_eq.mp hk)
   refine uK r _ (fun x hx=>h x (aF _ hx)) (fun y c' e'=>?_) x c e
   rw [dh] at e'
   cases hy:y == n with
   | true =>
    rw [hy] at e'
    have:y=n:=beq_iff_eq.mp hy
    subst this
    rw [show env.cells.lookup y=some d from hd] at e' ⊢
    exact e'
   | false =>
    rw [hy] at e'
    exact hc y c' e'
  ·rw [if_neg hk] at e
   exact uK r cs (fun x hx=>h x (aF _ hx)) hc x c e
theorem oV {env:Env}:∀ (l:List (Str × NameKind)) (cs:List (Str × Addr)) (x:Str),((x,NameKind.free) ∈ l∨∃ c,cs.lookup x=some c)→∃ c,(nR env l cs).lookup x=some c
 | [],_,x,h=>by
  rcases h with h | h
  ·exact absurd h (by simp)
  ·exact h
 | (n,k) :: r,cs,x,h=>by
  rw [nR]
  by_cases hk:(k == NameKind.free)=true
  ·rw [if_pos hk]
   refine oV r _ x ?_
   by_cases e:x=n
   ·subst e
    exact .inr ⟨_,by rw [dh,beq_self_eq_true]⟩
   ·rcases h with h | ⟨c,h⟩
    ·rcases aO.mp h with h | h
     ·exact absurd (congrArg Prod.fst h) e
     ·exact .inl h
    ·exact .inr ⟨c,by rw [dh,beq_eq_false_iff_ne.mpr e];exact h⟩
  ·rw [if_neg hk]
   refine oV r cs x ?_
   rcases h with h | h
   ·rcases aO.mp h with h | h
    ·have:k = .free:=(congrArg Prod.snd h).symm
     subst this
     exact absurd rfl hk
    ·exact .inl h
   ·exact .inr h
abbrev blk (X:Cx) (N':List Str) (scope:Scope) (cl:List (Str × Addr)) (C:Addr) (s3:Shared) (H3:Hp) (fp:List Addr):Cx :=
 { X with N:=N',s₀:=s3,H₀:=H3,env:=compEnvC scope cl C X.env,outer:=X.stack,ex:=fp,fn:=fun _=>false,xe:=fun _ _=>False }
def uL (N:List Str) (kinds sn:List (Str × NameKind)):List Str→List Nat→Bool
 | [],[]=>true
 | x :: V,j :: ix=>(N[j]? == some x) && ((kinds.lookup x == some NameKind.cell) && ((sn.lookup x == some NameKind.free) && uL N kinds sn V ix))
 | _,_=>false
def vU (t:Nat) (ix:List Nat) (σ:St):St:=aK t none++ix.map fun j=>(σ[j]?).getD none
theorem uM {N:List Str} {kinds sn:List (Str × NameKind)}:∀ {V:List Str} {ix:List Nat},uL N kinds sn V ix=true→ix.length=V.length∧∀ (k:Nat) (x:Str),V[k]? = some x→∃ j,ix[k]? = some j∧N[j]? = some x∧kinds.lookup x=some .cell∧sn.lookup x=some .free
 | [],[],_=>⟨rfl,fun k x h=>by simp at h⟩
 | x :: V,j :: ix,h=>by
  rw [uL,aU,aU,aU] at h
  obtain ⟨h1,h2,h3,h4⟩:=h
  obtain ⟨l,r⟩:=uM h4
  refine ⟨by simp [l],fun k y hy=>?_⟩
  cases k with
  | zero =>
   simp at hy
   subst hy
   exact ⟨j,rfl,beq_iff_eq.mp h1,beq_iff_eq.mp h2,beq_iff_eq.mp h3⟩
  | succ k=>exact r k y (by simpa using hy)
 | [],_ :: _,h=>by simp [uL] at h
 | _ :: _,[],h=>by simp [uL] at h
theorem rD {env:Env} (hf:env.scope.kind = .function):∀ {names:List (Str × NameKind)} {x:Str},names.lookup x=some .free→env.kindOf x=some .cell →
 (names.map fun (n,k)=>if (k == NameKind.free && env.scope.kind == .function && env.kindOf n == some .cell) then (n,NameKind.cell) else (n,k)).lookup x=some .cell
 | [],_,h,_=>by simp at h
 | (n,k) :: r,x,h,hc=>by
  have ih:=@rD env hf r x
  show tG x ((if (k == NameKind.free && env.scope.kind == .function && env.kindOf n == some .cell)=true then (n,NameKind.cell) else (n,k)) :: _)=_
  cases hx:x == n with
  | true =>
   have e:x=n:=beq_iff_eq.mp hx
   subst e
   simp only [dh,hx] at h
   cases h
   rw [if_pos (by rw [hf,hc];rfl)]
   simp [dh]
  | false =>
   simp only [dh,hx] at h
   by_cases hq:(k == NameKind.free && env.scope.kind == .function && env.kindOf n == some .cell)=true
   ·rw [if_pos hq];simp only [dh,hx];exact ih h hc
   ·rw [if_neg hq];simp only [dh,hx];exact ih h hc
theorem nU {env:Env}:∀ {names:List (Str × NameKind)} {x:Str} {k:NameKind},(∀ y ∈ names,y.2 ≠ .cell)→(k = .cell∨k = .free) →
 (names.map fun (n,k)=>if (k == NameKind.free && env.scope.kind == .function && env.kindOf n == some .cell) then (n,NameKind.cell) else (n,k)).lookup x=some k→(x,NameKind.free) ∈ names
 | [],_,_,_,_,h=>by simp at h
 | (n,k') :: r,x,k,hc,hk,h=>by
  have ih:=@nU env r x k (fun y hy=>hc y (aF _ hy)) hk
  have h':tG x ((if (k' == NameKind.free && env.scope.kind == .function && env.kindOf n == some .cell)=true then (n,NameKind.cell) else (n,k')) :: (r.map fun (n,k)=>if (k == NameKind.free && env.scope.kind == .function && env.kindOf n == some .cell) then (n,NameKind.cell) else (n,k)))=some k:=h
  by_cases hq:(k' == NameKind.free && env.scope.kind == .function && env.kindOf n == some .cell)=true
  ·rw [if_pos hq] at h'
   have kf:k' = .free:=by
    rw [aU,aU] at hq
    exact beq_iff_eq.mp hq.1.1
   cases hx:x == n with
   | true =>
    have e:x=n:=beq_iff_eq.mp hx
    subst e
    subst kf
    exact aG
   | false =>
    simp only [dh,hx] at h'
    exact aF _ (ih h')
  ·rw [if_neg hq] at h'
   cases hx:x == n with
   | true =>
    have e:x=n:=beq_iff_eq.mp hx
    subst e
    simp only [dh,hx] at h'
    cases h'
    rcases hk with hk | hk
    ·exact absurd hk (hc _ aG)
    ·subst hk
     exact aG
   | false =>
    simp only [dh,hx] at h'
    exact aF _ (ih h')
section
variable {X:Cx} {pins:List (Addr × Obj)} {σ:St} {H:Hp} {s:Shared}
theorem Inv.forget {σ':St} (I:Inv X pins σ H s) (hl:σ'.length=X.N.length) (h:∀ (i:Nat) (v:V),σ'[i]? = some (some v)→σ[i]? = some (some v)):Inv X pins σ' H s:=by
 obtain ⟨m,hn,hx⟩:=I.loc
 exact ⟨I.ok,I.os,I.bare,I.base,⟨m,hn,fun i x v e1 e2 e3=>hx i x v e1 (h i v e2) e3⟩,I.cell,I.free,I.freeC,I.pin,I.hok,hl⟩
end
end My
namespace My
open PySem PySem.Spec PyProof.Rows L2
theorem zE {prog:Program} {w:World} {A:Around} {R:Result→Shared→Prop} {elt target iter:Expr} {ifs:List Expr} {scope:Scope} {pos:Pos} {it acc:Value} {env:Env} {s:Shared} (I:Nat→Shared→Prop)
 (turn:∀ n s,I n s→wpAny (model prog w) A (pyNext it) (fun r s₁=>match r with
  | none=>R (.ok .next) s₁
  | some v=>wpAny (model prog w) A (letOwnedTupleGo target it v) (fun _ s₁'=>wpAny (model prog w) A (assign target env v) (fun _ s₂ =>
   wpAny (model prog w) A (forIn ifs true fun c r=>if r=true then do let ok ← isTrue c env (eval c env);pure (ForInStep.yield ok) else pure (ForInStep.yield r)) (fun ok s₃ =>
    if ok=true then wpAny (model prog w) A (eval elt env) (fun x s₄ =>
     wpAny (model prog w) A (call (.builtin "list.append") [acc,x]) (fun _ s₅=>∃ m,m < n∧I m s₅) (fun _ _=>False) s₄) (fun _ _=>False) s₃
    else ∃ m,m < n∧I m s₃) (fun _ _=>False) s₂) (fun _ _=>False) s₁') (fun _ _=>False) s₁) (fun _ _=>False) s)
 (n:Nat) (h:I n s) :
 codeAny (model prog w) A (.compLoop (.ListComp elt [⟨target,iter,ifs,0⟩] scope pos) 0 it acc env) R s:=by
 refine codeAny_loop rfl I (fun n s hI=>?_) n h
 show wpAny _ A ((compTurn (.ListComp elt [⟨target,iter,ifs,0⟩] scope pos) 0 it acc env).onRaise (fun x=>do noteFrame x env;theTreesLotGoes x)) _ _ s
 refine wpAny_noted ?_
 rw [compTurn_list]
 refine wpAny_bind (wpAny_standAt (wpAny_bind (wpAny_mono (turn n s hI) (fun r s₁ h₁=>?_) fun _ _ h'=>h'.elim)))
 cases r with
 | none=>exact wpAny_pure h₁
 | some v =>
  refine wpAny_bind (wpAny_mono h₁ (fun _ s₁' h₁'=>?_) fun _ _ h'=>h'.elim)
  refine wpAny_bind (wpAny_mono h₁' (fun _ s₂ h₂=>wpAny_bind (wpAny_mono h₂ (fun ok s₃ h₃=>?_) fun _ _ h'=>h'.elim)) fun _ _ h'=>h'.elim)
  cases ok with
  | false=>exact wpAny_pure ⟨rfl,h₃⟩
  | true =>
   exact wpAny_bind (wpAny_bind (wpAny_mono h₃ (fun x s₄ h₄=>wpAny_bind (wpAny_mono h₄ (fun _ s₅ h₅=>wpAny_pure (wpAny_pure ⟨rfl,h₅⟩)) fun _ _ h'=>h'.elim)) fun _ _ h'=>h'.elim))
section
variable {X:Cx} {pins:List (Addr × Obj)} {σ:St} {H:Hp}
theorem Fg {T V:List Str} {ix:List Nat} {scope:Scope} {s3:Shared} {fp:List Addr} {h₁:Heap} {tk:Nat} {m:Str→Option Value}
 (I:Inv X pins σ H s3) (hf:∀ b ∈ fp,sH X pins H b) (ho:∀ b ∈ fp,∃ o,s3.heap.get? b=some o)
 (hk:scope.kind = .function) (hcell:∀ y ∈ scope.names,y.2 ≠ .cell) (hfr:∀ x ∈ scope.names,x.2 = .free→x.1 ∈ V) (hB:uL X.N X.env.scope.names scope.names V ix=true)
 (hns:h₁.Ns s3.heap.objs.size m) (keep:∀ b o,s3.heap.get? b=some o→h₁.get? b=some o) :
 Inv (blk X (T++V) scope (nR X.env scope.names []) s3.heap.objs.size s3 H fp) pins (vU T.length ix σ) H { s3 with heap:=h₁,toks:=tk }:=by
 obtain ⟨lV,capV⟩:=uM hB
 have hcl:∀ x ∈ scope.names,x.2 = .free→∃ c,X.env.cells.lookup x.1=some c:=fun x hx e=>by
  obtain ⟨k,ek⟩:=oM (hfr x hx e)
  obtain ⟨j,_,_,hc,_⟩:=capV k _ ek
  exact I.ok.has _ (.inl hc)
 have sub:=uK (env:=X.env) scope.names [] hcl (fun x c e=>by simp at e)
 have stkSub:∀ b,b ∈ frs X.stack→b=X.env.locals∨b ∈ X.fs:=fun b z=>aO.mp (I.stkSub b z)
 have lt:∀ b o,s3.heap.get? b=some o→b ≠ s3.heap.objs.size:=fun b o e=>bL (Heap.lt_size e)
 have cellK:∀ c v,s3.heap.IsCell c v→h₁.IsCell c v:=fun c v ⟨o,e,d⟩=>⟨o,keep c o e,d⟩
 refine ⟨⟨I.ok.mod,hk,I.ok.glob,I.ok.blt,bG _,fun x y c e1 e2=>I.ok.inj x y c (sub x c e1) (sub y c e2),fun x hx=>?_,fun x c hx=>?_,I.ok.hd,I.ok.frames,.inl rfl,fun b hb=>⟨?_,fun x c e=>?_⟩,I.bs,bV I.ok.bsz I.sz,fun b o e hb=>?_,fun b hb z=>?_,I.stack,I.stkFree⟩,
  rfl,I.bare,Un.kept keep,⟨m,hns,fun i x v e1 e2 e3=>?_⟩,fun x c e=>?_,I.hok.fresh (bG _),fun x c e=>I.freeC x c (sub x c e),fun p hp=>?_,I.hok.kept keep,?_⟩
 ·rcases hx with hx | hx
  ·exact oV _ _ x (.inl (nU hcell (.inl rfl) hx))
  ·exact oV _ _ x (.inl (nU hcell (.inr rfl) hx))
 ·exact absurd hx (by simp)
 ·obtain ⟨o,e⟩:=ho b hb
  exact lt b o e
 ·exact (hf b hb).2.2.2.2.1 x c (sub x c e)
 ·rcases (hf b hb).2.2.2.1 with z | z
  ·exact I.ok.noex b o e z
  ·exact absurd (bQ (Heap.lt_size e) (bV I.ok.bsz z)) (iM _)
 ·rcases stkSub b z with z | z
  ·exact (hf b hb).2.1 z
  ·exact (hf b hb).2.2.1 z
 ·by_cases hi:i < T.length
  ·have e2':(aK T.length none++ix.map fun j=>(σ[j]?).getD none)[i]? = some (some v):=e2
   rw [dR (by rw [bW];exact hi),dB,if_pos hi] at e2'
   exact absurd e2' (by simp)
  ·have e1':(T++V)[i]? = some x:=e1
   rw [dF (by omega)] at e1'
   obtain ⟨j,hj,hN,hc,hfree⟩:=capV _ x e1'
   have e2':(aK T.length none++ix.map fun j=>(σ[j]?).getD none)[i]? = some (some v):=e2
   rw [dF (by rw [bW];omega),bW,bx,hj] at e2'
   have e2'':(σ[j]?).getD none=some v:=by simpa using e2'
   have e3':σ[j]? = some (some v):=by
    cases q:σ[j]? with
    | none=>rw [q] at e2'';exact absurd e2'' (by simp)
    | some o=>rw [q] at e2'';simp at e2'';rw [e2'']
   obtain ⟨m0,hn0,hl⟩:=I.loc
   obtain ⟨u,r,l⟩:=hl j x v hN e3' (.inr (.inl hc))
   rcases l with ⟨z,_⟩ | ⟨_,c,ec,hcell'⟩
   ·have z':X.env.scope.names.lookup x=some .local:=z
    rw [hc] at z'
    exact absurd z' (by simp)
   ·obtain ⟨c',ec'⟩:=oV (env:=X.env) scope.names [] x (.inl (PySem.mem_of_lookup hfree))
    have:c'=c:=by
     have q:=sub x c' ec'
     rw [ec] at q
     exact (cX.inj q).symm
    subst this
    exact ⟨u,r,.inr ⟨.inl (rD I.ok.kind hfree hc),c',ec',cellK _ _ hcell'⟩⟩
 ·obtain ⟨v,z⟩:=I.cell x c (sub x c e)
  exact ⟨v,cellK c v z⟩
 ·obtain ⟨e,n,ne,nf,d⟩:=I.pin p hp
  refine ⟨keep _ _ e,n,lt _ _ e,fun z=>?_,d⟩
  rcases stkSub p.1 z with z | z
  ·exact ne z
  ·exact nf z
 ·show (aK T.length none++ix.map fun j=>(σ[j]?).getD none).length=(T++V).length
  rw [bK,bW,aL,bK,lV]
theorem rE {N':List Str} {scope:Scope} {cl:List (Str × Addr)} {pins':List (Addr × Obj)} {σ':St} {H3 H':Hp} {s3 s':Shared} {fp:List Addr} (I3:Inv X pins σ H3 s3) (hf:∀ b ∈ fp,sH X pins H3 b)
 (I':Inv (blk X N' scope cl s3.heap.objs.size s3 H3 fp) pins' σ' H' s'):Inv X pins σ H' s'∧sH X pins H' s3.heap.objs.size:=by
 have fr:H' s3.heap.objs.size=none:=I'.free
 refine ⟨?_,I3.fpOk (bG _) fr⟩
 have os:s'.os=s3.os:=I'.os
 have u:Un (frs X.stack) fp H3 H' s3.heap s'.heap:=I'.base
 have ho:=I'.hok
 have hb:=I'.bare
 obtain ⟨hh,g,d,t,os'⟩:=s'
 obtain rfl:os'=s3.os:=os
 exact I3.call (h':=hh) (g':=g) (d':=d) (t':=t) (ch:=fp) u ho hb fun b hb'=>⟨(hf b hb').2.2.2.1,(hf b hb').2.1,(hf b hb').2.2.2.2.1,(hf b hb').2.2.2.2.2⟩
end
def PTs (X:Cx) (ifs:List Expr) (t:TT):Prop :=
 ∀ (pins:List (Addr × Obj)) (s:Shared) (σ:St) (H:Hp) (Q:Bool→Hp→Prop),Inv X pins σ H s→t σ H Q →
  wpAny (model X.prog X.w) X.A (forIn ifs true fun c r=>if r=true then do let ok ← isTrue c X.env (eval c X.env);pure (ForInStep.yield ok) else pure (ForInStep.yield r)) (TP X pins σ Q) X.xe s
def jA:TT:=fun _ H Q=>Q true H
theorem K5 {X:Cx}:PTs X [] jA:=fun _ _ _ H _ I h=>wpAny_tests_nil ⟨H,I,h⟩
theorem rF {X:Cx} {c:Expr} {t:TT} (h:PT X c t):PTs X [c] t:=fun pins s σ H Q I q=>wpAny_tests_one (h pins s σ H Q I q)
def Dt (wi:TI) (g:TG) (tt:TT) (te:TE) (t:Nat) (cap:St→St):TE:=fun σ H Q=>wi σ H fun J H1=>∀ D,H1 D=none→∃ W:Nat→Nat→List V→Hp→Prop,(∃ m,W 0 m [] (upd H1 D (.lst []))) ∧
 ∀ i m xs H2,W i m xs H2→H2 D=some (.lst xs)∧((J.stop i H2∧Q (.ref D) H2)∨(J.go i H2∧xs.length < sizeLine∧∀ x H3,J.yld i H2 x H3→g x (cap σ) H3 fun σ4 H4=>σ4.drop t=(cap σ).drop t ∧
  tt σ4 H4 fun b H5=>if b=true then te σ4 H5 fun v H6=>H6 D=some (.lst xs)∧∃ m',m' < m∧W (i + 1) m' (xs++[v]) (upd H6 D (.lst (xs++[v]))) else ∃ m',m' < m∧W (i + 1) m' xs H5))
section
variable {X:Cx} {elt tg iter:Expr} {ifs:List Expr} {scope:Scope} {pos:Pos} {T V:List Str} {ix:List Nat} {wi:TI} {g:TG} {tt:TT} {te:TE}
theorem wJ (hc:X.calm=true) (hi:PI X tg iter wi)
 (hg:∀ cl C s3 H3 fp,PG (blk X (T++V) scope cl C s3 H3 fp) tg g) (ht:∀ cl C s3 H3 fp,PTs (blk X (T++V) scope cl C s3 H3 fp) ifs tt) (he:∀ cl C s3 H3 fp,PE (blk X (T++V) scope cl C s3 H3 fp) elt te)
 (hB:uL X.N X.env.scope.names scope.names V ix=true) (hk:scope.kind = .function) (hcell:∀ y ∈ scope.names,y.2 ≠ .cell) (hnames:∀ x ∈ scope.names,x.2 = .local→scope.names.lookup x.1=some .local)
 (hfr:∀ x ∈ scope.names,x.2 = .free→x.1 ∈ V) (hs:∀ x,foldedSetIterable iter X.env x=pure x) {p:Pos}
 {pins:List (Addr × Obj)} {s:Shared} {σ:St} {H:Hp} (I:Inv X pins σ H s) {use:Option (Value→Sem Unit)} {Qp:Value→Shared→Prop} {Qv:VK} (h:Dt wi g tt te T.length (vU T.length ix) σ H Qv)
 (fin:∀ (D C:Addr) (H':Hp) (s':Shared) (m:Str→Option Value),Inv X pins σ H' s'→sH X pins H' C→s'.heap.Ns C m→Qv (.ref D) H'→compPost (model X.prog X.w) X.A X.xe use Qp (.ref D) C (.ok .next) s') :
 wpAny (model X.prog X.w) X.A (comprehension (.ListComp elt [⟨tg,iter,ifs,0⟩] scope pos) scope X.env p (newList []) false (eval iter X.env) use) Qp X.xe s:=by
 obtain ⟨lV,capV⟩:=uM hB
 have hcl:∀ x ∈ scope.names,x.2 = .free→∃ c,X.env.cells.lookup x.1=some c:=fun x hx e=>by
  obtain ⟨k,ek⟩:=oM (hfr x hx e)
  obtain ⟨j,_,_,hc',_⟩:=capV k _ ek
  exact I.ok.has _ (.inl hc')
 refine wpAny_comprehension_free rfl hs (A_ hcl) hk hnames ?_
 refine thn (hi pins s σ H _ I h) fun v s1 h1=>thn h1 fun itv s2 h2=>?_
 obtain ⟨it,fp,tn,J,H2,e,I2,Tn,st2,f2,R⟩:=h2
 subst e
 refine wpAny_newObj_type (hd:=by size_fits) ?_
 have hD:H2 s2.heap.objs.size=none:=I2.hok.fresh (bG _)
 have I3:Inv X pins σ (upd H2 s2.heap.objs.size (.lst [])) { s2 with heap:=s2.heap.push { cls:=.type "list", dict:=none,data:=.seq ([]:List Value).toArray } } :=
  I2.laid (t':=s2.toks) (fun b o e=>Heap.get?_push_of_some _ e) (bG _) ⟨fG _,[],0,.nil,Heap.get?_push_size _ rfl⟩
 obtain ⟨W,⟨m0,w0⟩,turn⟩:=R s2.heap.objs.size hD
 generalize hs3:({ s2 with heap:=s2.heap.push { cls:=.type "list", dict:=none,data:=.seq ([]:List Value).toArray } }:Shared)=s3 at I3 ⊢
 have st3:tn 0 s3.heap:=by
  rw [← hs3]
  exact Tn.keep 0 s2.heap _ st2 fun b hb o e=>Heap.get?_push_of_some _ e
 have f3:∀ b ∈ fp,sH X pins (upd H2 s2.heap.objs.size (.lst [])) b:=fun b hb=>by
  obtain ⟨z0,z1⟩:=f2 b hb
  refine ⟨?_,z1⟩
  obtain ⟨o,eo,_⟩:=Tn.obj 0 _ st2 b hb
  rw [cM (bL (Heap.lt_size eo))]
  exact z0
 generalize hH3:upd H2 s2.heap.objs.size (.lst [])=H3 at I3 f3 w0
 generalize hDn:s2.heap.objs.size=D at turn
 refine wpAny_newFunctionEnv hcell (by intro y hy;simp at hy) (fun h₁ hns₁ hsb₁=>?_) hk
 have keep:∀ b o,s3.heap.get? b=some o→h₁.get? b=some o:=fun b o e=>hsb₁.extBut b o (bL (Heap.lt_size e)) (Heap.get?_push_of_some _ e)
 have I4:=Fg (T:=T) (tk:=s3.toks + ([]:List (Str × Value)).length) I3 f3 (fun b hb=>let ⟨o,eo,_⟩:=Tn.obj 0 _ st3 b hb;⟨o,eo⟩) hk hcell hfr hB hns₁ keep
 have st4:tn 0 h₁:=Tn.keep 0 _ _ st3 fun b hb o e=>keep b o e
 have loop:codeAny (model X.prog X.w) X.A (.compLoop (.ListComp elt [⟨tg,iter,ifs,0⟩] scope pos) 0 (.ref it) (.ref D) (compEnvC scope (nR X.env scope.names []) s3.heap.objs.size X.env))
  (compPost (model X.prog X.w) X.A X.xe use Qp (.ref D) s3.heap.objs.size) { s3 with heap:=h₁,toks:=s3.toks + ([]:List (Str × Value)).length }:=by
  refine zE (fun n s'=>∃ i xs H',Inv (blk X (T++V) scope (nR X.env scope.names []) s3.heap.objs.size s3 H3 fp) pins (vU T.length ix σ) H' s'∧tn i s'.heap∧(∀ b ∈ fp,H' b=none)∧W i n xs H') ?_ m0
   ⟨0,[],H3,I4,st4,fun b hb=>(f3 b hb).1,w0⟩
  rintro n s5 ⟨i,xs,H5,I5,st5,fr5,w5⟩
  have stat:∀ {H':Hp} {pins':List (Addr × Obj)} {σ':St} {s':Shared},Inv (blk X (T++V) scope (nR X.env scope.names []) s3.heap.objs.size s3 H3 fp) pins σ' H' s'→(∀ b ∈ fp,H' b=none)→∀ b ∈ fp,sH (blk X (T++V) scope (nR X.env scope.names []) s3.heap.objs.size s3 H3 fp) pins H' b:=fun I' hn b hb=>by
   obtain ⟨x1,x2⟩:=I'.ok.exf b hb
   refine ⟨hn b hb,x1,I'.ok.exfs b hb,.inl hb,x2,fun q hq=>?_⟩
   exact (f3 b hb).2.2.2.2.2 q hq
  obtain ⟨hD5,r5⟩:=turn i n xs H5 w5
  rcases r5 with ⟨stop,q⟩ | ⟨go,hz,step⟩
  ·refine thn (Tn.done (blk X (T++V) scope (nR X.env scope.names []) s3.heap.objs.size s3 H3 fp) rfl rfl rfl hc i pins s5 _ H5 _ I5 (stat (pins':=pins) I5 fr5) st5 stop) fun r s6 ⟨hr,I6⟩=>?_
   subst hr
   obtain ⟨Ib,fC⟩:=rE I3 f3 I6
   obtain ⟨m,hn,_⟩:=I6.loc
   exact fin D _ H5 s6 m Ib fC hn q
  ·refine thn (Tn.item (blk X (T++V) scope (nR X.env scope.names []) s3.heap.objs.size s3 H3 fp) rfl rfl rfl hc i pins s5 _ H5 _ I5 (stat (pins':=pins) I5 fr5) st5 go) fun r s6 ⟨u,hr,h6⟩=>?_
   subst hr
   refine thn h6 fun _ s7 ⟨x,H7,I7,rx,y7,st7,fr7⟩=>?_
   have I7':=I7.pinned (stat (pins':=pins) I7 fr7) (Tn.obj _ _ st7)
   refine thn (hg _ _ _ _ _ _ s7 _ H7 x u _ I7' rx (step x H7 y7)) fun _ s8 ⟨σ8,H8,I8,k8,q8⟩=>?_
   have again:∀ {H9:Hp} {s9:Shared},Inv (blk X (T++V) scope (nR X.env scope.names []) s3.heap.objs.size s3 H3 fp) (pins++uG fp s7.heap) σ8 H9 s9 →
    Inv (blk X (T++V) scope (nR X.env scope.names []) s3.heap.objs.size s3 H3 fp) pins (vU T.length ix σ) H9 s9∧tn (i + 1) s9.heap∧∀ b ∈ fp,H9 b=none:=fun {H9 s9} I9=>by
    refine ⟨Inv.forget I9.unpinned I4.len fun j v e=>?_,Tn.keep _ _ _ st7 fun b hb o e=>(I9.pin (b,o) (aX _ (aX _ (nQ hb e)))).1,fun b hb=>?_⟩
    ·by_cases hj:j < T.length
     ·have e':(aK T.length none++ix.map fun j=>(σ[j]?).getD none)[j]? = some (some v):=e
      rw [dR (by rw [bW];exact hj),dB,if_pos hj] at e'
      exact absurd e' (by simp)
     ·have ej:j=T.length + (j - T.length):=by omega
      rw [ej,← lW] at e ⊢
      rw [k8]
      exact e
    ·obtain ⟨o,e,d⟩:=Tn.obj _ _ st7 b hb
     exact (I9.pin (b,o) (aX _ (aX _ (nQ hb e)))).2.1
   refine thn (ht _ _ _ _ _ _ s8 σ8 H8 _ I8 q8) fun ok s9 ⟨H9,I9,q9⟩=>?_
   cases ok with
   | false =>
    obtain ⟨m',lm,w9⟩:=q9
    obtain ⟨a1,a2,a3⟩:=again I9
    exact ⟨m',lm,i + 1,xs,H9,a1,a2,a3,w9⟩
   | true =>
    refine thn (he _ _ _ _ _ _ s9 σ8 H9 _ I9 q9) fun y s10 ⟨v,H10,I10,ry,hD10,m',lm,w10⟩=>?_
    refine thn (wI _ s10 σ8 H10 (.ref D) [v] (.ref D) [y] (fun _ Hn=>Hn=upd H10 D (.lst (xs++[v]))) I10 rfl (.cons ry .nil) ⟨D,xs,v,rfl,rfl,hD10,hz,rfl⟩) fun _ s11 ⟨_,H11,I11,_,e11⟩=>?_
    subst e11
    obtain ⟨a1,a2,a3⟩:=again I11
    exact ⟨m',lm,i + 1,_,_,a1,a2,a3,w10⟩
 exact codeAny_compStart_list loop (Tn.self _ 0 _ _ _ st4 loop)
theorem K6 (hc:X.calm=true) (T V:List Str) (ix:List Nat) (hi:PI X tg iter wi)
 (hg:∀ cl C s3 H3 fp,PG (blk X (T++V) scope cl C s3 H3 fp) tg g) (ht:∀ cl C s3 H3 fp,PTs (blk X (T++V) scope cl C s3 H3 fp) ifs tt) (he:∀ cl C s3 H3 fp,PE (blk X (T++V) scope cl C s3 H3 fp) elt te)
 (hB:uL X.N X.env.scope.names scope.names V ix=true:=by rfl) (hk:scope.kind = .function:=by rfl) (hcell:∀ y ∈ scope.names,y.2 ≠ .cell:=by decide +kernel)
 (hnames:∀ x ∈ scope.names,x.2 = .local→scope.names.lookup x.1=some .local:=by decide +kernel)
 (hfr:∀ x ∈ scope.names,x.2 = .free→x.1 ∈ V:=by decide +kernel) (hs:∀ x,foldedSetIterable iter X.env x=pure x:=by intro _;rfl) :
 PE X (.ListComp elt [⟨tg,iter,ifs,0⟩] scope pos) (Dt wi g tt te T.length (vU T.length ix)):=by
 intro pins s σ H Q I h
 rw [eval_ListComp]
 refine wJ (use:=none) hc hi hg ht he hB hk hcell hnames hfr hs I h fun D C H' s' m I' fC hn q=>⟨m,hn,fun h' sb=>⟨.ref D,H',?_,rfl,q⟩⟩
 obtain ⟨z0,z1,z2,z3,z4,z5⟩:=fC
 exact I'.turned (t':=s'.toks) (fun b o hb e=>sb.extBut b o hb e) z0 z1 z3 z4 z5
theorem K7 {i:Nat} {x:Str} {pos' spos:Pos} (hN:X.N.Nodup) (hi':X.N[i]? = some x) (hx:X.env.scope.names.lookup x=some .local) (hc:X.calm=true) (T V:List Str) (ix:List Nat) (hi:PI X tg iter wi)
 (hg:∀ cl C s3 H3 fp,PG (blk X (T++V) scope cl C s3 H3 fp) tg g) (ht:∀ cl C s3 H3 fp,PTs (blk X (T++V) scope cl C s3 H3 fp) ifs tt) (he:∀ cl C s3 H3 fp,PE (blk X (T++V) scope cl C s3 H3 fp) elt te)
 (hsw:swapsWith (.ListComp elt [⟨tg,iter,ifs,0⟩] scope pos) (some (.Name x pos')) spos.line X.env=pure true:=by rfl)
 (hB:uL X.N X.env.scope.names scope.names V ix=true:=by rfl) (hk:scope.kind = .function:=by rfl) (hcell:∀ y ∈ scope.names,y.2 ≠ .cell:=by decide +kernel)
 (hnames:∀ x ∈ scope.names,x.2 = .local→scope.names.lookup x.1=some .local:=by decide +kernel)
 (hfr:∀ x ∈ scope.names,x.2 = .free→x.1 ∈ V:=by decide +kernel) (hs:∀ x,foldedSetIterable iter X.env x=pure x:=by intro _;rfl) :
 PS X (.Assign [.Name x pos'] (.ListComp elt [⟨tg,iter,ifs,0⟩] scope pos) spos) (Qq (Dt wi g tt te T.length (vU T.length ix)) (G_ i)):=by
 intro pins s σ H D I h
 rw [exec_Assign_Name_used _ _ _ _ hsw]
 refine wpAny_bind (wpAny_standAt (wpAny_bind ?_))
 show wpAny _ X.A (do let _ ← comprehension (.ListComp elt [⟨tg,iter,ifs,0⟩] scope pos) scope X.env _ (newList []) false (eval iter X.env) (some (assign (.Name x pos') X.env))) _ _ s
 refine wpAny_bind (wpAny_mono (wJ (use:=some (assign (.Name x pos') X.env)) (Qp:=fun _ s'=>SP X pins D .next s') hc hi hg ht he hB hk hcell hnames hfr hs I h fun A' C H' s' m I' fC hn q=>?_) (fun _ s' hq=>wpAny_pure (wpAny_pure hq)) fun _ _ e=>e)
 obtain ⟨z0,z1,z2,z3,z4,z5⟩:=fC
 refine wpAny_assign_Name (wu I' hN hi' (.inl hx) (v:=.ref A') rfl (fun s'' I'' ⟨a,sb,ha⟩=>⟨m,hn.sameBut sb ?_,fun h' sb'=>⟨_,H',?_,q⟩⟩) (.inr hx))
 ·rcases ha with ha | ha
  ·rw [ha];exact z1
  ·exact Ne.symm (z4 x a ha)
 ·exact I''.turned (t':=s''.toks) (fun b o hb e=>sb'.extBut b o hb e) z0 z1 z3 z4 z5
end
section
variable {X:Cx} {K:PySem.W.Frag}
end
end My
namespace D3
open PySem
abbrev D:=PyData
inductive U where
 | d (x:D)
 | x (c f:Str) (v:D)
abbrev DS:=List (Option U)
inductive Oc where
 | nx (δ:DS)
 | rt (d:D)
 | bk (δ:DS)
 | ct (δ:DS)
 | ex (c f:Str) (v:D)
abbrev FE:=DS→Option D
abbrev FA:=DS→Option (List D)
abbrev FT:=DS→Option Bool
abbrev FS:=DS→Option Oc
abbrev FG:=D→DS→Option DS
mutual
def flat:D→Bool
 | .none=>true
 | .bool _=>true
 | .int _=>true
 | .str _=>true
 | .list _=>false
 | .tuple xs=>flats xs
 | .dict _=>false
def flats:List D→Bool
 | []=>true
 | x :: r=>flat x && flats r
end
mutual
def nl:D→Nat
 | .none=>0
 | .bool _=>0
 | .int _=>0
 | .str _=>0
 | .list xs=>nls xs + 1
 | .tuple xs=>nls xs
 | .dict _=>1
def nls:List D→Nat
 | []=>0
 | x :: r=>nl x + nls r
end
def fl1:D→Bool
 | .list xs=>flats xs
 | d=>flat d
def aD (i:Nat):FE:=fun δ=>match δ[i]? with
 | some (some (.d x))=>some x
 | _=>none
def dC (d:D):FE:=fun _=>some d
def dOp (g:D→D→Option D) (fa fb:FE):FE:=fun δ=>(fa δ).bind fun x=>(fb δ).bind fun y=>g x y
def dUn (g:D→Option D) (fa:FE):FE:=fun δ=>(fa δ).bind g
def aJ:FA:=fun _=>some []
def aj (fa:FE) (fr:FA):FA:=fun δ=>(fa δ).bind fun x=>(fr δ).bind fun r=>some (x :: r)
def dTup (fa:FA):FE:=fun δ=>(fa δ).bind fun l=>if l.length ≤ sizeLine then some (.tuple l) else none
def d_ (fa:FA):FE:=fun δ=>(fa δ).bind fun l=>if l.length ≤ sizeLine then some (.list l) else none
def dCall (F:List D→Option D) (fa:FA):FE:=fun δ=>(fa δ).bind F
def eE (fa:FE):FE:=fun δ=>(fa δ).bind fun d=>if flat d=true then some d else none
def dN1 (fa:FE):FE:=fun δ=>(fa δ).bind fun d=>if decide (nl d ≤ 1)=true then some d else none
def Ba (fa:FE):FE:=fun δ=>(fa δ).bind fun d=>if fl1 d=true then some d else none
def qg (fa fb:FE):FE:=fun δ=>(fa δ).bind fun x=>match x with
 | .bool true=>fb δ
 | .bool false=>some (.bool false)
 | _=>none
def dOr (fa fb:FE):FE:=fun δ=>(fa δ).bind fun x=>match x with
 | .bool true=>some (.bool true)
 | .bool false=>fb δ
 | _=>none
def HD (fa:FE):FE:=fun δ=>(fa δ).bind fun x=>match x with
 | .bool b=>some (.bool (!b))
 | _=>none
def dIf (c:FT) (fa fb:FE):FE:=fun δ=>(c δ).bind fun b=>if b=true then fa δ else fb δ
def aM (fa:FE):FT:=fun δ=>(fa δ).bind fun x=>match x with
 | .bool b=>some b
 | _=>none
def mW (a b:FT):FT:=fun δ=>(a δ).bind fun x=>if x=true then b δ else some false
def tOr (a b:FT):FT:=fun δ=>(a δ).bind fun x=>if x=true then some true else b δ
def dG (a:FT):FT:=fun δ=>(a δ).map fun x=>!x
def bI:FS:=fun δ=>some (.nx δ)
def aW (a b:FS):FS:=fun δ=>(a δ).bind fun o=>match o with
 | .nx δ'=>b δ'
 | o=>some o
def Uk (i:Nat) (fe:FE):FS:=fun δ=>(fe δ).bind fun d=>some (.nx (δ.set i (some (.d d))))
def sIf (c:FT) (a b:FS):FS:=fun δ=>(c δ).bind fun t=>if t=true then a δ else b δ
def bO (fe:FE):FS:=fun δ=>(fe δ).bind fun d=>some (.rt d)
def Ul:FS:=fun _=>some (.rt .none)
def O1 (fe:FE):FS:=fun δ=>(fe δ).bind fun _=>some (.nx δ)
def sBk:FS:=fun δ=>some (.bk δ)
def sCt:FS:=fun δ=>some (.ct δ)
def gN (i:Nat):FG:=fun d δ=>some (δ.set i (some (.d d)))
def mj:List D→DS→Option DS:=fun l δ=>match l with
 | []=>some δ
 | _=>none
def eX (g:FG) (r:List D→DS→Option DS):List D→DS→Option DS:=fun l δ=>match l with
 | d :: l'=>(g d δ).bind fun δ'=>r l' δ'
 | []=>none
def K8 (fe:FE) (g:FG):FS:=fun δ=>(fe δ).bind fun d=>(g d δ).bind fun δ'=>some (.nx δ')
def gR (g:FG) (b:FS):List D→DS→Option Oc
 | [],δ=>some (.nx δ)
 | d :: r,δ=>(g d δ).bind fun δ1=>(b δ1).bind fun o=>match o with
  | .nx δ'=>gR g b r δ'
  | .ct δ'=>gR g b r δ'
  | .bk δ'=>some (.nx δ')
  | .rt v=>some (.rt v)
  | .ex c f v=>some (.ex c f v)
def pO (fi:FA) (g:FG) (b:FS):FS:=fun δ=>(fi δ).bind fun l=>gR g b l δ
open Classical in
def fnD (p q:Nat) (b:FS):List D→Option D:=fun ds=>if ds.length=p then match b (ds.map (fun d=>some (.d d))++aK q none) with
    | some (.rt d)=>some d
    | some (.nx _)=>some .none
    | _=>none
 else none
def jH (t:Nat) (ix:List Nat) (δ:DS):DS:=aK t none++ix.map fun j=>(δ[j]?).getD none
def fK (g:FG) (c:FT) (e:FE) (δ:DS):List D→Option (List D)
 | []=>some []
 | d :: r=>(g d δ).bind fun δ1=>(c δ1).bind fun b=>if b=true then (e δ1).bind fun x=>(fK g c e δ r).bind fun l=>some (x :: l) else fK g c e δ r
def iT (fi:FA) (g:FG) (c:FT) (e:FE) (t:Nat) (ix:List Nat):FE:=fun δ=>(fi δ).bind fun l=>if l.length ≤ 100000 then (fK g c e (jH t ix δ) l).bind fun r=>some (.list r) else none
def jA:FT:=fun _=>some true
def gI (g:Int→Int→Option D):D→D→Option D:=fun x y=>match x,y with
 | .int i,.int j=>g i j
 | _,_=>none
def pIx (n:Nat) (i:Int):Option Nat:=if 0 ≤ i then (if i < n then some i.toNat else none) else if -(n:Int) ≤ i then some (i + n).toNat else none
def pAt (xs:List D) (i:Int):Option D:=(pIx xs.length i).bind fun j=>xs[j]?
def isT (c T:String):Bool:=T == c || (T == "bool" && c == "int")
def bJ (i:Nat) (fe:FE):FS:=fun δ=>if i < δ.length then Uk i fe δ else none
def iW:D→D→Option D:=gI fun i j=>some (.int (i + j))
def xV:D→D→Option D:=gI fun i j=>some (.int (i - j))
def uN (i j:Int):Bool:=decide (i.natAbs < 2 ^ 64) || decide (j.natAbs < 2 ^ 64) || (decide (i.natAbs < 2 ^ 30000) && decide (j.natAbs < 2 ^ 30000))
def nW:D→D→Option D:=gI fun i j=>if uN i j=true then some (.int (i * j)) else none
def Bb (_ j:Int):Bool:=decide (j ≠ 0) && decide (j.natAbs < 2 ^ 9000)
def zF:D→D→Option D:=gI fun i j=>if Bb i j=true then some (.int (i.fdiv j)) else none
def qj:D→D→Option D:=gI fun i j=>if decide (j ≠ 0)=true then some (.int (i.fmod j)) else none
def QM (i j:Int):Bool:=decide (0 ≤ j) && decide (j ≤ 1000) && decide (i.natAbs < 2 ^ 64)
def QS:D→D→Option D:=gI fun i j=>if QM i j=true then some (.int (i ^ j.toNat)) else none
def gLt:D→D→Option D:=gI fun i j=>some (.bool (decide (i < j)))
def gLe:D→D→Option D:=gI fun i j=>some (.bool (decide (i ≤ j)))
def gGt:D→D→Option D:=gI fun i j=>some (.bool (decide (j < i)))
def gGe:D→D→Option D:=gI fun i j=>some (.bool (decide (j ≤ i)))
def gEq:D→D→Option D:=fun x y=>if (SeqAt.shaped x && SeqAt.shaped y)=true then some (.bool (PyData.eqv x y)) else none
def gNe:D→D→Option D:=fun x y=>if (SeqAt.shaped x && SeqAt.shaped y)=true then some (.bool (!PyData.eqv x y)) else none
def gNl (i:Nat):FG:=fun d δ=>if i < δ.length then gN i d δ else none
def gTn (n:Nat) (g:List D→DS→Option DS):FG:=fun d δ=>match d with
 | .tuple l=>if l.length=n then g l δ else none
 | _=>none
def Fi (i:Nat) (f:FE):FS:=fun δ=>(aD i δ).bind fun x=>(f δ).bind fun d=>match x with
 | .list l=>if l.length < 1000000 then some (.nx (δ.set i (some (.d (.list (l++[d])))))) else none
 | _=>none
def vV (i:Nat) (fk f:FE):FS:=fun δ=>(f δ).bind fun d=>(aD i δ).bind fun x=>(fk δ).bind fun k=>match x,k with
 | .list l,.int j=>(pIx l.length j).bind fun n=>some (.nx (δ.set i (some (.d (.list (l.set n d))))))
 | _,_=>none
def putAt (x:D) (n:Nat) (d:D):D:=match x with
 | .list l=>.list (l.set n d)
 | .tuple l=>.tuple (l.set n d)
 | x=>x
def asList:D→Option (List D)
 | .list l=>some l
 | _=>none
def lB (f:FE):FA:=fun δ=>(f δ).bind asList
def jK (lo hi:Int):List D:=(aN (hi - lo).toNat).map fun (k:Nat)=>.int (lo + (k:Int))
def uO (i:Int):Bool:=decide (-(2 ^ 62) ≤ i) && decide (i < 2 ^ 62)
def tK (fa:FA):FA:=fun δ=>(fa δ).bind fun l=>match l with
 | [.int j]=>if uO j=true then some (jK 0 j) else none
 | _=>none
def O2 (fa:FA):FA:=fun δ=>(fa δ).bind fun l=>match l with
 | [.int i,.int j]=>if (uO i && uO j)=true then some (jK i j) else none
 | _=>none
def gIx:D→D→Option D:=fun x y=>match x,y with
 | .list l,.int i=>pAt l i
 | .tuple l,.int i=>pAt l i
 | _,_=>none
def oW (g g':D→D→Option D) (fa fb fc:FE):FE:=fun δ=>(fa δ).bind fun x=>(fb δ).bind fun y=>(g x y).bind fun z=>match z with
 | .bool true=>(fc δ).bind fun w=>g' y w
 | .bool false=>some (.bool false)
 | _=>none
def um (g g' g'':D→D→Option D) (fa fb fc fd:FE):FE:=fun δ=>(fa δ).bind fun x=>(fb δ).bind fun y=>(g x y).bind fun z=>match z with
 | .bool true=>(fc δ).bind fun w=>(g' y w).bind fun z'=>match z' with
  | .bool true=>(fd δ).bind fun u=>g'' w u
  | .bool false=>some (.bool false)
  | _=>none
 | .bool false=>some (.bool false)
 | _=>none
def isNone:D→Bool
 | .none=>true
 | _=>false
def vW:D→Option D:=fun x=>some (.bool (isNone x))
def mq:D→Option D:=fun x=>some (.bool (!isNone x))
def jB:List D→Option D
 | [.list l]=>some (.int l.length)
 | [.tuple l]=>some (.int l.length)
 | _=>none
def jm:List D→Option (List Int)
 | []=>some []
 | .int i :: r=>(jm r).map (i :: ·)
 | _=>none
def Um:List D→Option D
 | [.list l]=>(jm l).map fun ns=>.int ns.sum
 | _=>none
def insI (x:Int):List Int→List Int
 | []=>[x]
 | y :: r=>if x ≤ y then x :: y :: r else y :: insI x r
def m8:List Int→List Int
 | []=>[]
 | x :: r=>insI x (m8 r)
def pU:List D→Option D
 | [.list l]=>(jm l).bind fun ns=>if ns.length < 64 then some (.list ((m8 ns).map .int)) else none
 | _=>none
def HJ:List D→Option D
 | [.int i]=>some (.int i)
 | [.bool b]=>some (.int (if b then 1 else 0))
 | _=>none
def Wz:List D→Option D
 | [.int i]=>some (.int (if i < 0 then -i else i))
 | _=>none
def oE:List D→Option D
 | [.int i,.int j]=>some (.int (if j > i then j else i))
 | _=>none
def pW:List D→Option D
 | [.int i,.int j]=>some (.int (if j < i then j else i))
 | _=>none
def tyD:D→String
 | .none => "NoneType"
 | .bool _ => "bool"
 | .int _ => "int"
 | .str _ => "str"
 | .list _ => "list"
 | .tuple _ => "tuple"
 | .dict _ => "dict"
def gIs (c:String):D→Option D:=fun d=>some (.bool (isT c (tyD d)))
def HN:D→Option D
 | .int i=>some (.int (-i))
 | _=>none
def pQ:D→D→Option D:=fun x y=>match x,y with
 | .list l,.list m=>if l.length + m.length ≤ 1000000 then some (.list (l++m)) else none
 | _,_=>none
def HS:D→D→Option D:=fun x y=>match x,y with
 | .list l,.int k=>if l.length * k.toNat ≤ 1000000∧-(2 ^ 63) ≤ k∧k < 2 ^ 63 then some (.list (aK k.toNat l).flatten) else none
 | _,_=>none
def rG:D→Option D
 | .list l=>some (.list l)
 | .tuple l=>some (.list l)
 | _=>none
abbrev FO:=DS→Option (Option Int)
def Uo:FO:=fun _=>some none
def O3 (f:FE):FO:=fun δ=>(f δ).bind fun x=>match x with
 | .int i=>some (some i)
 | _=>none
def pSx (n d:Nat):Option Int→Nat
 | none=>d
 | some i=>if i < 0 then (i + n).toNat else min i.toNat n
def cutD (xs:List D) (lo hi:Option Int):List D:=(xs.drop (pSx xs.length 0 lo)).take (pSx xs.length xs.length hi - pSx xs.length 0 lo)
def dSl (f:FE) (lo hi:FO):FE:=fun δ=>(f δ).bind fun x=>(lo δ).bind fun a=>(hi δ).bind fun b=>match x with
 | .list l=>some (.list (cutD l a b))
 | _=>none
def Uq (i j:Nat) (fa:FA):FS:=fun δ=>(fa δ).bind fun l=>match l with
 | [x,y]=>if i < δ.length∧j < δ.length then some (.nx ((δ.set i (some (.d x))).set j (some (.d y)))) else none
 | _=>none
def jo (l:List D):List D:=l.mapIdx fun i x=>.tuple [.int (i:Int),x]
def oX (f:FE):FA:=fun δ=>(f δ).bind fun d=>match d with
 | .list l=>some (jo l)
 | _=>none
def kO:List D→Option (List Bool)
 | []=>some []
 | .bool b :: r=>(kO r).map (b :: ·)
 | _=>none
def HW:List D→Option D
 | [.list l]=>(kO l).map fun bs=>.bool (bs.all id)
 | _=>none
def K9:List D→List D→List D
 | x :: r,y :: s=>.tuple [x,y] :: K9 r s
 | _,_=>[]
def Ur (f g:FE):FA:=fun δ=>(f δ).bind fun d=>(g δ).bind fun e=>match d,e with
 | .list l,.list m=>some (K9 l m)
 | _,_=>none
theorem insI_perm (x:Int):∀ l,(insI x l).Perm (x :: l)
 | []=>.refl _
 | y :: r=>by
  unfold insI
  split
  ·exact .refl _
  ·exact ((insI_perm x r).cons y).trans (.swap x y r)
theorem jg:∀ l,(m8 l).Perm l
 | []=>.refl _
 | x :: r=>(insI_perm x _).trans ((jg r).cons x)
theorem tL (x:Int):∀ l,l.Pairwise (· ≤ ·)→(insI x l).Pairwise (· ≤ ·)
 | [],_=>by simp [insI]
 | y :: r,h=>by
  obtain ⟨h1,h2⟩:=eZ.mp h
  unfold insI
  split
  ·next c =>
   refine eZ.mpr ⟨fun a ha=>?_,h⟩
   rcases aO.mp ha with rfl | z
   ·exact c
   ·exact Int.le_trans c (h1 a z)
  ·next c =>
   refine eZ.mpr ⟨fun a ha=>?_,tL x r h2⟩
   rcases aO.mp ((insI_perm x r).mem_iff.mp ha) with rfl | z
   ·omega
   ·exact h1 a z
theorem mQ:∀ l,(m8 l).Pairwise (· ≤ ·)
 | []=>.nil
 | x :: r=>tL x _ (mQ r)
end D3
namespace D3
open PySem PySem.Spec PyProof.Rows L2 My
abbrev Ok:=Addr→Prop
abbrev St:=L2.St
class Chg (u:HO):Prop where
 ch:(∃ xs,u = .lst xs)∨(∃ kvs,u = .dK kvs)∨∃ kvs,u = .dT kvs
instance (xs:List V):Chg (.lst xs):=⟨.inl ⟨xs,rfl⟩⟩
instance (kvs:List (Key × V)):Chg (.dK kvs):=⟨.inr (.inl ⟨kvs,rfl⟩)⟩
instance (kvs:List (List Key × V)):Chg (.dT kvs):=⟨.inr (.inr ⟨kvs,rfl⟩)⟩
theorem Chg.frz {o:Obj} {u:HO} (h:Chg (.frz o u)):False:=by
 rcases h.ch with ⟨_,z⟩ | ⟨_,z⟩ | ⟨_,z⟩ <;> cases z
theorem Chg.tup {xs:List V} (h:Chg (.tup xs)):False:=by
 rcases h.ch with ⟨_,z⟩ | ⟨_,z⟩ | ⟨_,z⟩ <;> cases z
def Chd (o:Option HO):Prop:=∃ u,o=some u∧Chg u
theorem Chd.ne {o:Option HO} (h:Chd o):o ≠ none:=by
 obtain ⟨u,rfl,_⟩:=h
 simp
def SqK (K:PySem.W.Frag) (H:Hp) (a:Addr) (xs:List V):Prop:=(∃ o,H a=some (.frz o (.lst xs))) ∨
 ∃ (o:Obj) (its:Array Value) (n:Nat),K.lookup a=some o∧o.cls = .type "list" ∧ o.dict=none∧o.data = .seq its n∧its.size ≤ sizeLine∧Vals xs its.toList
theorem SqK.sq {K:PySem.W.Frag} {H:Hp} {a:Addr} {xs:List V} (h:SqK K H a xs):SqL K H a xs:=by
 rcases h with ⟨o,h⟩ | h
 ·exact .inl (.inr ⟨o,h⟩)
 ·exact .inr h
def jV (H:Hp) (a:Addr) (xs:List V):Prop:=H a=some (.tup xs)
theorem jV.sq {K:PySem.W.Frag} {H:Hp} {a:Addr} {xs:List V} (h:jV H a xs):SqT K H a xs:=.inl (.inl h)
theorem jV.same {H H':Hp} {a:Addr} {xs:List V} (e:Same H H') (h:jV H a xs):jV H' a xs:=e _ _ h
theorem jV.upd {H:Hp} {a b:Addr} {xs:List V} {u o:HO} [cu:Chg u] (h:H a=some u) (q:jV H b xs):jV (upd H a o) b xs:=by
 unfold jV
 rw [cM (Dh q h (by intro z;subst z;exact cu.tup))]
 exact q
def dk0:List (D × D)→List (Key × V)
 | []=>[]
 | (.int i,.int j) :: r=>(.inl i,.int j) :: dk0 r
 | (.int i,.bool true) :: r=>(.inl i,.bl true) :: dk0 r
 | _ :: r=>(.inl 0,.non) :: dk0 r
def tkK:List D→Option (List Key)
 | []=>some []
 | .int i :: r=>(tkK r).map (.inl i :: ·)
 | _=>none
def tkD:List (D × D)→Option (List (List Key × V))
 | []=>some []
 | (.tuple l,.bool true) :: r=>(tkK l).bind fun k=>(tkD r).map ((k,.bl true) :: ·)
 | _=>none
def dh0 (kvs:List (D × D)):HO:=match kvs with
 | []=>.dK []
 | q :: r=>match tkD (q :: r) with
  | some ts=>.dT ts
  | none=>.dK (dk0 (q :: r))
theorem HX (kvs:List (D × D)):(∃ ks,dh0 kvs = .dK ks)∨∃ ks,dh0 kvs = .dT ks:=by
 cases kvs with
 | nil=>exact .inl ⟨_,rfl⟩
 | cons q r =>
  unfold dh0
  dsimp only
  split
  ·exact .inr ⟨_,rfl⟩
  ·exact .inl ⟨_,rfl⟩
instance (kvs:List (D × D)):Chg (dh0 kvs):=⟨by
 rcases HX kvs with ⟨ks,z⟩ | ⟨ks,z⟩
 ·exact .inr (.inl ⟨ks,z⟩)
 ·exact .inr (.inr ⟨ks,z⟩)⟩
def scV:D→V
 | .int i=>.int i
 | _=>.non
def scs:List D→Bool
 | []=>true
 | .int _ :: r=>scs r
 | .none :: r=>scs r
 | _=>false
def TV (H:Hp) (v:V) (d:D):Prop:=(v = .non∧d = .none)∨∃ b ds,v = .ref b∧d = .tuple ds∧jV H b (ds.map scV)∧scs ds=true
inductive TVs (H:Hp):List (Key × V)→List (D × D)→Prop
 | nil:TVs H [] []
 | cons {i:Int} {v:V} {d:D} {r:List (Key × V)} {r':List (D × D)}:TV H v d→TVs H r r'→TVs H ((.inl i,v) :: r) ((.int i,d) :: r')
theorem TV.imp {H H':Hp} (h:∀ b xs,jV H b xs→jV H' b xs) {v:V} {d:D} (q:TV H v d):TV H' v d:=by
 rcases q with q | ⟨b,ds,h1,h2,h3,h4⟩
 ·exact .inl q
 ·exact .inr ⟨b,ds,h1,h2,h _ _ h3,h4⟩
theorem TVs.imp {H H':Hp} (h:∀ b xs,jV H b xs→jV H' b xs) {ks:List (Key × V)} {kvs:List (D × D)} (q:TVs H ks kvs):TVs H' ks kvs:=by
 induction q with
 | nil=>exact .nil
 | cons t _ ih=>exact .cons (t.imp h) ih
def vX:List (D × D)→Bool
 | []=>true
 | (_,.int _) :: r=>vX r
 | (_,.bool _) :: r=>vX r
 | _=>false
def DH (H:Hp) (u:HO) (kvs:List (D × D)):Prop:=(vX kvs=true∧u=dh0 kvs)∨∃ ks,u = .dK ks∧TVs H ks kvs
theorem DH.imp {H H':Hp} (h:∀ b xs,jV H b xs→jV H' b xs) {u:HO} {kvs:List (D × D)} (q:DH H u kvs):DH H' u kvs:=by
 rcases q with q | ⟨ks,q1,q2⟩
 ·exact .inl q
 ·exact .inr ⟨ks,q1,q2.imp h⟩
theorem DH.same {H H':Hp} {u:HO} {kvs:List (D × D)} (q:DH H u kvs) (e:Same H H'):DH H' u kvs:=q.imp fun _ _ h=>jV.same e h
theorem DH.upd {H:Hp} {a:Addr} {u o u':HO} [cu:Chg u] {kvs:List (D × D)} (q:DH H u' kvs) (h:H a=some u):DH (upd H a o) u' kvs:=q.imp fun _ _ z=>jV.upd h z
theorem DH.or {H:Hp} {u:HO} {kvs:List (D × D)} (q:DH H u kvs):(∃ ks,u = .dK ks)∨∃ ks,u = .dT ks:=by
 rcases q with ⟨_,rfl⟩ | ⟨ks,rfl,_⟩
 ·exact HX kvs
 ·exact .inl ⟨ks,rfl⟩
theorem DH.chg {H:Hp} {u:HO} {kvs:List (D × D)} (q:DH H u kvs):Chg u:=⟨.inr q.or⟩
theorem DH.old {H:Hp} {u:HO} {kvs:List (D × D)} (q:DH H u kvs) (h:vX kvs=true):u=dh0 kvs:=by
 rcases q with q | ⟨ks,rfl,q⟩
 ·exact q.2
 ·cases q with
  | nil=>rfl
  | cons t _ =>
   rcases t with ⟨_,rfl⟩ | ⟨_,_,_,rfl,_,_⟩ <;> cases h
mutual
inductive RA (K:PySem.W.Frag) (ok:Ok) (pl:Bool) (H:Hp):V→D→Prop
 | non:RA K ok pl H .non .none
 | bl (b:Bool):RA K ok pl H (.bl b) (.bool b)
 | int (i:Int):RA K ok pl H (.int i) (.int i)
 | str (x:Str):RA K ok pl H (.str x) (.str x)
 | lst {a:Addr} {xs:List V} {ds:List D}:H a=some (.lst xs)→ok a→RAs K ok pl H xs ds→RA K ok pl H (.ref a) (.list ds)
 | lsk {a:Addr} {xs:List V} {ds:List D}:SqK K H a xs→pl=true→RAs K ok pl H xs ds→RA K ok pl H (.ref a) (.list ds)
 | tup {a:Addr} {xs:List V} {ds:List D}:jV H a xs→RAs K ok pl H xs ds→RA K ok pl H (.ref a) (.tuple ds)
 | dic {a:Addr} {u:HO} {kvs:List (D × D)}:H a=some u→DH H u kvs→ok a→RA K ok pl H (.ref a) (.dict kvs)
 | dik {a:Addr} {u:HO} {kvs:List (D × D)} {o:Obj}:H a=some (.frz o u)→DH H u kvs→pl=true→RA K ok pl H (.ref a) (.dict kvs)
inductive RAs (K:PySem.W.Frag) (ok:Ok) (pl:Bool) (H:Hp):List V→List D→Prop
 | nil:RAs K ok pl H [] []
 | cons {v:V} {d:D} {vs:List V} {ds:List D}:RA K ok pl H v d→RAs K ok pl H vs ds→RAs K ok pl H (v :: vs) (d :: ds)
end
section
variable {K:PySem.W.Frag} {ok ok':Ok} {pl pl':Bool} {H H':Hp}
theorem RA.ind {P:V→D→Prop} {Q:List V→List D→Prop} (c1:P .non .none) (c2:∀ b,P (.bl b) (.bool b)) (c3:∀ i,P (.int i) (.int i)) (c4:∀ x,P (.str x) (.str x))
 (c5:∀ {a:Addr} {xs:List V} {ds:List D},H a=some (.lst xs)→ok a→Q xs ds→P (.ref a) (.list ds)) (c6:∀ {a:Addr} {xs:List V} {ds:List D},SqK K H a xs→pl=true→Q xs ds→P (.ref a) (.list ds)) (c7:∀ {a:Addr} {xs:List V} {ds:List D},jV H a xs→Q xs ds→P (.ref a) (.tuple ds))
 (c8:∀ {a:Addr} {u:HO} {kvs:List (D × D)},H a=some u→DH H u kvs→ok a→P (.ref a) (.dict kvs)) (c9:∀ {a:Addr} {u:HO} {kvs:List (D × D)} {o:Obj},H a=some (.frz o u)→DH H u kvs→pl=true→P (.ref a) (.dict kvs)) (c10:Q [] []) (c11:∀ {v:V} {d:D} {vs:List V} {ds:List D},P v d→Q vs ds→Q (v :: vs) (d :: ds)) :
 (∀ {v:V} {d:D},RA K ok pl H v d→P v d)∧∀ {v:List V} {d:List D},RAs K ok pl H v d→Q v d :=
 ⟨fun h=>RA.rec (motive_1:=fun v d _=>P v d) (motive_2:=fun v d _=>Q v d) c1 c2 c3 c4 (fun h o _ q=>c5 h o q) (fun h o _ q=>c6 h o q) (fun h _ q=>c7 h q) (fun h g o=>c8 h g o) (fun h g o=>c9 h g o) c10 (fun _ _ a q=>c11 a q) h,
  fun h=>RAs.rec (motive_1:=fun v d _=>P v d) (motive_2:=fun v d _=>Q v d) c1 c2 c3 c4 (fun h o _ q=>c5 h o q) (fun h o _ q=>c6 h o q) (fun h _ q=>c7 h q) (fun h g o=>c8 h g o) (fun h g o=>c9 h g o) c10 (fun _ _ a q=>c11 a q) h⟩
theorem RA.imp2 (ho:∀ a,ok a→ok' a) (hp:pl=true→pl'=true):(∀ {v:V} {d:D},RA K ok pl H v d→RA K ok' pl' H v d)∧∀ {v:List V} {d:List D},RAs K ok pl H v d→RAs K ok' pl' H v d :=
 RA.ind .non .bl .int .str (fun h o q=>.lst h (ho _ o) q) (fun h o q=>.lsk h (hp o) q) (fun h q=>.tup h q) (fun h g o=>.dic h g (ho _ o)) (fun h g o=>.dik h g (hp o)) .nil .cons
theorem RA.imp (ho:∀ a,ok a→ok' a) (hp:pl=true→pl'=true) {v:V} {d:D} (h:RA K ok pl H v d):RA K ok' pl' H v d:=(RA.imp2 ho hp).1 h
theorem RAs.imp (ho:∀ a,ok a→ok' a) (hp:pl=true→pl'=true) {v:List V} {d:List D} (h:RAs K ok pl H v d):RAs K ok' pl' H v d:=(RA.imp2 ho hp).2 h
theorem SqK.same {a:Addr} {xs:List V} (e:Same H H') (h:SqK K H a xs):SqK K H' a xs:=by
 rcases h with ⟨o,h⟩ | h
 ·exact .inl ⟨o,e _ _ h⟩
 ·exact .inr h
theorem RA.same2 (e:Same H H'):(∀ {v:V} {d:D},RA K ok pl H v d→RA K ok pl H' v d)∧∀ {v:List V} {d:List D},RAs K ok pl H v d→RAs K ok pl H' v d :=
 RA.ind .non .bl .int .str (fun h o q=>.lst (e _ _ h) o q) (fun h o q=>.lsk (h.same e) o q) (fun h q=>.tup (jV.same e h) q) (fun h g o=>.dic (e _ _ h) (g.same e) o) (fun h g o=>.dik (e _ _ h) (g.same e) o) .nil .cons
theorem RA.same (e:Same H H') {v:V} {d:D} (h:RA K ok pl H v d):RA K ok pl H' v d:=(RA.same2 e).1 h
theorem RAs.same (e:Same H H') {v:List V} {d:List D} (h:RAs K ok pl H v d):RAs K ok pl H' v d:=(RA.same2 e).2 h
theorem RA.flat2:(∀ {v:V} {d:D},RA K ok pl H v d→flat d=true→RA K ok' pl' H v d)∧∀ {v:List V} {d:List D},RAs K ok pl H v d→flats d=true→RAs K ok' pl' H v d :=
 RA.ind (fun _=>.non) (fun b _=>.bl b) (fun i _=>.int i) (fun x _=>.str x) (fun _ _ _ h=>by simp [D3.flat] at h) (fun _ _ _ h=>by simp [D3.flat] at h) (fun t q h=>.tup t (q (by simpa [D3.flat] using h))) (fun _ _ _ h=>by simp [D3.flat] at h) (fun _ _ _ h=>by simp [D3.flat] at h) (fun _=>.nil) fun a q h=>by
  rw [flats,aU] at h
  exact .cons (a h.1) (q h.2)
theorem RA.flat {v:V} {d:D} (hf:flat d=true) (h:RA K ok pl H v d):RA K ok' pl' H v d:=RA.flat2.1 h hf
theorem RAs.flat {v:List V} {d:List D} (hf:flats d=true) (h:RAs K ok pl H v d):RAs K ok' pl' H v d:=RA.flat2.2 h hf
theorem SqK.upd {a b:Addr} {xs:List V} {u o:HO} [cu:Chg u] (h:H a=some u) (q:SqK K H b xs):SqK K (upd H a o) b xs:=by
 rcases q with ⟨o',q⟩ | q
 ·refine .inl ⟨o',?_⟩
  rw [cM (Dh q h (by intro z;subst z;first | exact cu.frz | exact cu.tup))]
  exact q
 ·exact .inr q
theorem RA.upd2 {a:Addr} {u o:HO} [cu:Chg u] (h:H a=some u) (na:¬ ok a):(∀ {v:V} {d:D},RA K ok pl H v d→RA K ok pl (upd H a o) v d)∧∀ {v:List V} {d:List D},RAs K ok pl H v d→RAs K ok pl (upd H a o) v d :=
 RA.ind .non .bl .int .str (fun e k q=>.lst (by rw [cM (by intro z;subst z;exact na k)];exact e) k q) (fun e k q=>.lsk (e.upd h) k q) (fun e q=>.tup (jV.upd h e) q) (fun e g k=>.dic (by rw [cM (by intro z;subst z;exact na k)];exact e) (g.upd h) k) (fun e g k=>.dik (by rw [cM (Dh e h (by intro z;subst z;exact cu.frz))];exact e) (g.upd h) k) .nil .cons
theorem RA.upd {a:Addr} {u o:HO} [cu:Chg u] (h:H a=some u) (na:¬ ok a) {v:V} {d:D} (r:RA K ok pl H v d):RA K ok pl (upd H a o) v d:=(RA.upd2 h na).1 r
theorem RAs.upd {a:Addr} {u o:HO} [cu:Chg u] (h:H a=some u) (na:¬ ok a) {v:List V} {d:List D} (r:RAs K ok pl H v d):RAs K ok pl (upd H a o) v d:=(RA.upd2 h na).2 r
theorem RA.track2:(∀ {v:V} {d:D},RA K ok pl H v d→RA K (fun b=>ok b∧H b ≠ none) pl H v d)∧∀ {v:List V} {d:List D},RAs K ok pl H v d→RAs K (fun b=>ok b∧H b ≠ none) pl H v d :=
 RA.ind .non .bl .int .str (fun e k q=>.lst e ⟨k,by rw [e];simp⟩ q) (fun e k q=>.lsk e k q) (fun e q=>.tup e q) (fun e g k=>.dic e g ⟨k,by rw [e];simp⟩) (fun e g k=>.dik e g k) .nil .cons
theorem RA.track {v:V} {d:D} (h:RA K ok pl H v d):RA K (fun b=>ok b∧H b ≠ none) pl H v d:=RA.track2.1 h
theorem RAs.track {v:List V} {d:List D} (h:RAs K ok pl H v d):RAs K (fun b=>ok b∧H b ≠ none) pl H v d:=RA.track2.2 h
theorem RAs.length:∀ {v:List V} {d:List D},RAs K ok pl H v d→v.length=d.length
 | _,_,.nil=>rfl
 | _,_,.cons _ q=>by simp [RAs.length q]
theorem RAs.get:∀ {v:List V} {d:List D} {i:Nat} {x:D},RAs K ok pl H v d→d[i]? = some x→∃ y,v[i]? = some y∧RA K ok pl H y x
 | _,_,_,_,.nil,h=>by simp at h
 | _,_,0,_,.cons a _,h=>by simp at h;subst h;exact ⟨_,rfl,a⟩
 | _,_,i + 1,_,.cons _ q,h=>by
  obtain ⟨y,e,r⟩:=RAs.get (i:=i) q (by simpa using h)
  exact ⟨y,by simpa using e,r⟩
theorem RAs.append:∀ {v v':List V} {d d':List D},RAs K ok pl H v d→RAs K ok pl H v' d'→RAs K ok pl H (v++v') (d++d')
 | _,_,_,_,.nil,q=>q
 | _,_,_,_,.cons a r,q=>.cons a (RAs.append r q)
theorem RAs.set {x:V} {y:D} (r:RA K ok pl H x y):∀ {v:List V} {d:List D} (i:Nat),RAs K ok pl H v d→RAs K ok pl H (v.set i x) (d.set i y)
 | _,_,_,.nil=>.nil
 | _,_,0,.cons _ q=>.cons r q
 | _,_,i + 1,.cons a q=>.cons a (RAs.set r i q)
theorem RAs.take:∀ {v:List V} {d:List D} (n:Nat),RAs K ok pl H v d→RAs K ok pl H (v.take n) (d.take n)
 | _,_,0,_=>by simp;exact .nil
 | _,_,_ + 1,.nil=>.nil
 | _,_,n + 1,.cons a q=>.cons a (RAs.take n q)
theorem RAs.drop:∀ {v:List V} {d:List D} (n:Nat),RAs K ok pl H v d→RAs K ok pl H (v.drop n) (d.drop n)
 | _,_,0,q=>q
 | _,_,_ + 1,.nil=>.nil
 | _,_,n + 1,.cons _ q=>RAs.drop n q
theorem RA.rd2:(∀ {v:V} {d:D},RA K ok pl H v d→d.canLay0=true→RdV K H v d)∧∀ {v:List V} {d:List D},RAs K ok pl H v d→PyData.canLayAll0 d=true→RdVs K H v d :=
 RA.ind (fun _=>.non) (fun b _=>.bl b) (fun i _=>.int i) (fun x _=>.str x) (fun e _ q h=>.lst (SqL.of e) (q (by simpa [PyData.canLay0] using h))) (fun e _ q h=>.lst e.sq (q (by simpa [PyData.canLay0] using h))) (fun e q h=>.tup e.sq (q (by simpa [PyData.canLay0] using h))) (fun _ _ _ h=>by simp [PyData.canLay0] at h) (fun _ _ _ h=>by simp [PyData.canLay0] at h) (fun _=>.nil) fun a q h=>by
  rw [PyData.canLayAll0,aU] at h
  exact .cons (a h.1) (q h.2)
theorem RA.rd {v:V} {d:D} (hf:d.canLay0=true) (h:RA K ok pl H v d):RdV K H v d:=RA.rd2.1 h hf
theorem RA.intE {v:V} {i:Int} (h:RA K ok pl H v (.int i)):v = .int i:=by cases h;rfl
theorem RA.blE {v:V} {b:Bool} (h:RA K ok pl H v (.bool b)):v = .bl b:=by cases h;rfl
theorem RA.nonE {v:V} (h:RA K ok pl H v .none):v = .non:=by cases h;rfl
theorem RA.lstE {v:V} {ds:List D} (h:RA K ok pl H v (.list ds)):∃ a xs,v = .ref a∧SqL K H a xs∧RAs K ok pl H xs ds:=by
 cases h with
 | lst e k q=>exact ⟨_,_,rfl,SqL.of e,q⟩
 | lsk e k q=>exact ⟨_,_,rfl,e.sq,q⟩
theorem RA.dicU {v:V} {kvs:List (D × D)} (h:RA K ok pl H v (.dict kvs)):∃ a u,v = .ref a∧L2.Rd H a u∧DH H u kvs:=by
 cases h with
 | dic e g k=>exact ⟨_,_,rfl,.inl e,g⟩
 | dik e g k=>exact ⟨_,_,rfl,.inr ⟨_,e⟩,g⟩
theorem RA.dicE {v:V} {kvs:List (D × D)} (h:RA K ok pl H v (.dict kvs)) (ho:vX kvs=true):∃ a,v = .ref a∧L2.Rd H a (dh0 kvs):=by
 obtain ⟨a,u,h1,h2,h3⟩:=h.dicU
 rw [h3.old ho] at h2
 exact ⟨a,h1,h2⟩
theorem RA.tupE {v:V} {ds:List D} (h:RA K ok pl H v (.tuple ds)):∃ a xs,v = .ref a∧SqT K H a xs∧RAs K ok pl H xs ds:=by
 cases h with
 | tup e q=>exact ⟨_,_,rfl,e.sq,q⟩
theorem RA.tupE0 {v:V} {ds:List D} (h:RA K ok pl H v (.tuple ds)):∃ a xs,v = .ref a∧jV H a xs∧RAs K ok pl H xs ds:=by
 cases h with
 | tup e q=>exact ⟨_,_,rfl,e,q⟩
end
inductive Fl where
 | A
 | O
 | L
 | N
 | M
 deriving DecidableEq
def isN:Option Fl→Bool
 | some .N=>true
 | some .M=>true
 | _=>false
mutual
inductive RT (K:PySem.W.Frag) (H:Hp):V→D→List Addr→Prop
 | non:RT K H .non .none []
 | bl (b:Bool):RT K H (.bl b) (.bool b) []
 | int (i:Int):RT K H (.int i) (.int i) []
 | str (x:Str):RT K H (.str x) (.str x) []
 | lst {a:Addr} {xs:List V} {ds:List D} {as:List Addr}:H a=some (.lst xs)→RTs K H xs ds as→RT K H (.ref a) (.list ds) (a :: as)
 | tup {a:Addr} {xs:List V} {ds:List D} {as:List Addr}:jV H a xs→RTs K H xs ds as→RT K H (.ref a) (.tuple ds) as
 | dic {a:Addr} {u:HO} {kvs:List (D × D)}:H a=some u→DH H u kvs→RT K H (.ref a) (.dict kvs) [a]
inductive RTs (K:PySem.W.Frag) (H:Hp):List V→List D→List Addr→Prop
 | nil:RTs K H [] [] []
 | cons {v:V} {d:D} {vs:List V} {ds:List D} {as bs:List Addr}:RT K H v d as→RTs K H vs ds bs→RTs K H (v :: vs) (d :: ds) (as++bs)
end
section
variable {K:PySem.W.Frag} {H H':Hp}
theorem RT.ind {P:V→D→List Addr→Prop} {Q:List V→List D→List Addr→Prop} (c1:P .non .none []) (c2:∀ b,P (.bl b) (.bool b) []) (c3:∀ i,P (.int i) (.int i) []) (c4:∀ x,P (.str x) (.str x) [])
 (c5:∀ {a:Addr} {xs:List V} {ds:List D} {as:List Addr},H a=some (.lst xs)→Q xs ds as→P (.ref a) (.list ds) (a :: as)) (c7:∀ {a:Addr} {xs:List V} {ds:List D} {as:List Addr},jV H a xs→Q xs ds as→P (.ref a) (.tuple ds) as)
 (c8:∀ {a:Addr} {u:HO} {kvs:List (D × D)},H a=some u→DH H u kvs→P (.ref a) (.dict kvs) [a]) (c10:Q [] [] []) (c11:∀ {v:V} {d:D} {vs:List V} {ds:List D} {as bs:List Addr},P v d as→Q vs ds bs→Q (v :: vs) (d :: ds) (as++bs)) :
 (∀ {v:V} {d:D} {as:List Addr},RT K H v d as→P v d as)∧∀ {v:List V} {d:List D} {as:List Addr},RTs K H v d as→Q v d as :=
 ⟨fun h=>RT.rec (motive_1:=fun v d as _=>P v d as) (motive_2:=fun v d as _=>Q v d as) c1 c2 c3 c4 (fun h _ q=>c5 h q) (fun h _ q=>c7 h q) (fun h g=>c8 h g) c10 (fun _ _ a q=>c11 a q) h,
  fun h=>RTs.rec (motive_1:=fun v d as _=>P v d as) (motive_2:=fun v d as _=>Q v d as) c1 c2 c3 c4 (fun h _ q=>c5 h q) (fun h _ q=>c7 h q) (fun h g=>c8 h g) c10 (fun _ _ a q=>c11 a q) h⟩
theorem RT.ra2 {ok:Ok} {pl:Bool}:(∀ {v:V} {d:D} {as:List Addr},RT K H v d as→(∀ a ∈ as,ok a)→RA K ok pl H v d)∧∀ {v:List V} {d:List D} {as:List Addr},RTs K H v d as→(∀ a ∈ as,ok a)→RAs K ok pl H v d :=
 RT.ind (fun _=>.non) (fun b _=>.bl b) (fun i _=>.int i) (fun x _=>.str x) (fun e q h=>.lst e (h _ aG) (q fun a ha=>h a (aF _ ha))) (fun e q h=>.tup e (q h)) (fun e g h=>.dic e g (h _ aG)) (fun _=>.nil) fun e q h=>.cons (e fun a ha=>h a (bF _ ha)) (q fun a ha=>h a (aX _ ha))
theorem RT.ra {ok:Ok} {pl:Bool} {v:V} {d:D} {as:List Addr} (r:RT K H v d as) (h:∀ a ∈ as,ok a):RA K ok pl H v d:=RT.ra2.1 r h
theorem RT.same2 (s:Same H H'):(∀ {v:V} {d:D} {as:List Addr},RT K H v d as→RT K H' v d as)∧∀ {v:List V} {d:List D} {as:List Addr},RTs K H v d as→RTs K H' v d as :=
 RT.ind .non .bl .int .str (fun e q=>.lst (s _ _ e) q) (fun e q=>.tup (jV.same s e) q) (fun e g=>.dic (s _ _ e) (g.same s)) .nil .cons
theorem RT.same (s:Same H H') {v:V} {d:D} {as:List Addr} (h:RT K H v d as):RT K H' v d as:=(RT.same2 s).1 h
theorem RT.upd2 {a:Addr} {u o:HO} [cu:Chg u] (h:H a=some u):(∀ {v:V} {d:D} {as:List Addr},RT K H v d as→a ∉ as→RT K (upd H a o) v d as)∧∀ {v:List V} {d:List D} {as:List Addr},RTs K H v d as→a ∉ as→RTs K (upd H a o) v d as :=
 RT.ind (fun _=>.non) (fun b _=>.bl b) (fun i _=>.int i) (fun x _=>.str x) (fun e q na=>.lst (by rw [cM (fun z=>na (by rw [← z];exact aG))];exact e) (q fun z=>na (aF _ z))) (fun e q na=>.tup (jV.upd h e) (q na)) (fun e g na=>.dic (by rw [cM (fun z=>na (by rw [← z];exact aG))];exact e) (g.upd h)) (fun _=>.nil) fun e q na=>.cons (e fun z=>na (bF _ z)) (q fun z=>na (aX _ z))
theorem RT.upd {a:Addr} {u o:HO} [cu:Chg u] (h:H a=some u) {v:V} {d:D} {as:List Addr} (na:a ∉ as) (r:RT K H v d as):RT K (upd H a o) v d as:=(RT.upd2 h).1 r na
theorem RT.chd2:(∀ {v:V} {d:D} {as:List Addr},RT K H v d as→∀ a ∈ as,Chd (H a))∧∀ {v:List V} {d:List D} {as:List Addr},RTs K H v d as→∀ a ∈ as,Chd (H a) :=
 RT.ind (fun _ h=>by cases h) (fun _ _ h=>by cases h) (fun _ _ h=>by cases h) (fun _ _ h=>by cases h) (fun e q a h=>by
  rcases aO.mp h with rfl | z
  ·exact ⟨_,e,inferInstance⟩
  ·exact q a z) (fun _ q=>q) (fun e g a h=>by rw [aQ.mp h];exact ⟨_,e,g.chg⟩) (fun _ h=>by cases h) fun e q a h=>by
  rcases bM.mp h with z | z
  ·exact e a z
  ·exact q a z
theorem RT.chd {v:V} {d:D} {as:List Addr} (r:RT K H v d as):∀ a ∈ as,Chd (H a):=RT.chd2.1 r
theorem RTs.chd {v:List V} {d:List D} {as:List Addr} (r:RTs K H v d as):∀ a ∈ as,Chd (H a):=RT.chd2.2 r
theorem RT.tracked {v:V} {d:D} {as:List Addr} (h:RT K H v d as) (a:Addr) (ha:a ∈ as):H a ≠ none:=(h.chd a ha).ne
theorem RA.rt2 {ok:Ok}:(∀ {v:V} {d:D},RA K ok false H v d→∃ as,RT K H v d as∧as.length=nl d∧∀ a ∈ as,ok a)∧∀ {v:List V} {d:List D},RAs K ok false H v d→∃ as,RTs K H v d as∧as.length=nls d∧∀ a ∈ as,ok a :=
 RA.ind ⟨[],.non,rfl,fun _ h=>by cases h⟩ (fun b=>⟨[],.bl b,rfl,fun _ h=>by cases h⟩) (fun i=>⟨[],.int i,rfl,fun _ h=>by cases h⟩) (fun x=>⟨[],.str x,rfl,fun _ h=>by cases h⟩) (fun e k q=>by
  obtain ⟨as,h1,h2,h3⟩:=q
  refine ⟨_ :: as,.lst e h1,by rw [bZ,h2,nl],fun a ha=>?_⟩
  rcases aO.mp ha with rfl | z
  ·exact k
  ·exact h3 a z) (fun _ k _=>by cases k) (fun e q=>by
  obtain ⟨as,h1,h2,h3⟩:=q
  exact ⟨as,.tup e h1,by rw [h2,nl],h3⟩) (fun e g k=>⟨[_],.dic e g,by simp [nl],fun a ha=>by rw [aQ.mp ha];exact k⟩) (fun _ _ k=>by cases k) ⟨[],.nil,rfl,fun _ h=>by cases h⟩ fun e q=>by
  obtain ⟨as,h1,h2,h3⟩:=e
  obtain ⟨bs,g1,g2,g3⟩:=q
  refine ⟨as++bs,.cons h1 g1,by rw [bK,h2,g2,nls],fun a ha=>?_⟩
  rcases bM.mp ha with z | z
  ·exact h3 a z
  ·exact g3 a z
theorem RA.rt {ok:Ok} {v:V} {d:D} (h:RA K ok false H v d):∃ as,RT K H v d as∧as.length=nl d∧∀ a ∈ as,ok a:=RA.rt2.1 h
end
def tabs:List (Addr × Str × Pos):=[(189, "still_to_come.<locals>.<lambda>", ⟨76,30,76,59⟩)]
def Tb (H:Hp):Prop:=∀ t ∈ tabs,H t.1=some (.tbl t.2.1 t.2.2)
theorem Tb.same {H H':Hp} (t:Tb H) (s:Same H H'):Tb H':=fun x hx=>s _ _ (t x hx)
structure Gh where
 H0:Hp
 HF:Hp
 pk:Nat→Option Addr
 pn:Nat→List Addr
 tb:Tb H0
structure Ow where
 s:Nat→Option Addr
 n:Nat→List Addr:=fun _=>[]
instance:CoeFun Ow (fun _=>Nat→Option Addr):=⟨Ow.s⟩
abbrev ow0:Ow:=⟨fun _=>none,fun _=>[]⟩
def okA (ow:Ow):Ok:=fun a=>(∀ i,ow i ≠ some a)∧∀ i,a ∉ ow.n i
structure Rel (K:PySem.W.Frag) (fl:List Fl) (G:Gh) (ow:Ow) (σ:St) (H:Hp) (δ:DS):Prop where
 s0:Same G.H0 G.HF
 s1:Same G.HF H
 len:σ.length=δ.length
 own:∀ i a,ow i=some a→G.H0 a=none∧((fl[i]? = some .O∧G.HF a=none)∨(fl[i]? = some .L∧∃ xs,G.HF a=some (.lst xs))) ∧
  ∃ xs ds,σ[i]? = some (some (.ref a))∧H a=some (.lst xs)∧RAs K (okA ow) true H xs ds∧δ[i]? = some (some (.d (.list ds)))
 inj:∀ i j a,ow i=some a→ow j=some a→i=j
 pin:∀ i,fl[i]? = some .L→ow i=G.pk i
 dat:∀ i d,δ[i]? = some (some (.d d))→isN fl[i]? = false→ow i=none→∃ v,σ[i]? = some (some v)∧RA K (okA ow) true H v d
 oo:∀ i d,δ[i]? = some (some (.d d))→isN fl[i]? = false→fl[i]? ≠ some .A→ow i=none→flat d=true
 nt:∀ i a,a ∈ ow.n i→G.H0 a=none∧Chd (H a)∧((fl[i]? = some .N∧G.HF a=none)∨fl[i]? = some .M)
 nd:∀ i j a,a ∈ ow.n i→a ∈ ow.n j→i=j
 ns:∀ i j a,a ∈ ow.n i→ow j ≠ some a
 np:∀ i,fl[i]? = some .M→ow.n i=G.pn i
 nr:∀ i d,isN fl[i]? = true→δ[i]? = some (some (.d d))→∃ v,σ[i]? = some (some v)∧RT K H v d (ow.n i)∧(ow.n i).Nodup
theorem Rel.tb {K:PySem.W.Frag} {fl:List Fl} {G:Gh} {ow:Ow} {σ:St} {H:Hp} {δ:DS} (R:Rel K fl G ow σ H δ):Tb H:=G.tb.same (R.s0.trans R.s1)
theorem Rel.same0 {K:PySem.W.Frag} {fl:List Fl} {G:Gh} {ow:Ow} {σ:St} {H:Hp} {δ:DS} (R:Rel K fl G ow σ H δ):Same G.H0 H:=R.s0.trans R.s1
theorem Rel.grow {K:PySem.W.Frag} {fl:List Fl} {G:Gh} {ow:Ow} {σ:St} {H H':Hp} {δ:DS} (R:Rel K fl G ow σ H δ) (e:Same H H'):Rel K fl G ow σ H' δ :=
 ⟨R.s0,R.s1.trans e,R.len,fun i a h=>by
  obtain ⟨h0,hf,xs,ds,h1,h2,h3,h4⟩:=R.own i a h
  exact ⟨h0,hf,xs,ds,h1,e _ _ h2,h3.same e,h4⟩,R.inj,R.pin,fun i d h1 hn h2=>by
  obtain ⟨v,h3,h4⟩:=R.dat i d h1 hn h2
  exact ⟨v,h3,h4.same e⟩,R.oo,fun i a h=>by
  obtain ⟨h1,h2,h3⟩:=R.nt i a h
  exact ⟨h1,(let ⟨u,z,c⟩:=h2;⟨u,e _ _ z,c⟩),h3⟩,R.nd,R.ns,R.np,fun i d h1 h2=>by
  obtain ⟨v,h3,h4,h5⟩:=R.nr i d h1 h2
  exact ⟨v,h3,h4.same e,h5⟩⟩
inductive Kd where
 | P
 | B (L:List Nat)
 | A
 | R
 | F
 | C
 | FC
 | T
def ok1:Ok:=fun _=>True
def ok0:Ok:=fun _=>False
def okN (H:Hp):Ok:=fun a=>H a=none
def Rs (K:PySem.W.Frag) (H0:Hp) (ow:Ow) (Hb H:Hp):Kd→V→D→Prop
 | .P,v,d=>RA K ok1 true H v d
 | .B L,v,d=>RA K (okA ow) true H v d∨∃ i ∈ L,∃ a xs ds,ow i=some a∧v = .ref a∧d = .list ds∧H a=some (.lst xs)∧RAs K (okA ow) true H xs ds
 | .A,v,d=>RA K (okA ow) true H v d
 | .R,v,d=>RA K (okN H0) false H v d
 | .F,v,d=>(flat d=true∧RA K ok0 false H v d)∨∃ a xs ds,v = .ref a∧d = .list ds∧Hb a=none∧H a=some (.lst xs)∧RAs K (fun b=>okA ow b∧b ≠ a) true H xs ds
 | .C,v,d=>RA K (okN Hb) false H v d
 | .T,v,d=>∃ as,RT K H v d as∧as.Nodup∧∀ a ∈ as,Hb a=none
 | .FC,v,d=>(flat d=true∧RA K ok0 false H v d)∨∃ a xs ds,v = .ref a∧d = .list ds∧Hb a=none∧H a=some (.lst xs)∧RAs K (fun b=>okN Hb b∧b ≠ a) false H xs ds
section
variable {K:PySem.W.Frag} {Hb H H':Hp} {fl:List Fl} {G:Gh} {ow:Ow} {σ:St} {δ:DS} {v:V} {d:D}
theorem xY (R:Rel K fl G ow σ Hb δ) {a:Addr} (h:Hb a=none):okA ow a:=⟨fun i e=>(by
 obtain ⟨_,_,xs,_,_,h2,_⟩:=R.own i a e
 rw [h] at h2
 cases h2),fun i e=>(R.nt i a e).2.1.ne h⟩
theorem Us (R:Rel K fl G ow σ Hb δ) {a:Addr} (h:Hb a=none):okN G.H0 a:=R.same0.free h
theorem Rs.FC_F (R:Rel K fl G ow σ Hb δ) (h:Rs K G.H0 ow Hb H .FC v d):Rs K G.H0 ow Hb H .F v d:=by
 rcases h with h | ⟨a,xs,ds,h1,h2,h3,h4,h5⟩
 ·exact .inl h
 ·exact .inr ⟨a,xs,ds,h1,h2,h3,h4,h5.imp (fun b z=>⟨xY R z.1,z.2⟩) (fun _=>rfl)⟩
theorem Rs.FC_C (h:Rs K G.H0 ow Hb H .FC v d):Rs K G.H0 ow Hb H .C v d:=by
 rcases h with h | ⟨a,xs,ds,rfl,rfl,h3,h4,h5⟩
 ·exact RA.flat h.1 h.2
 ·exact .lst h4 h3 (h5.imp (fun b z=>z.1) (fun z=>z))
theorem Rs.F_A (R:Rel K fl G ow σ Hb δ) (h:Rs K G.H0 ow Hb H .F v d):Rs K G.H0 ow Hb H .A v d:=by
 rcases h with h | ⟨a,xs,ds,rfl,rfl,h3,h4,h5⟩
 ·exact RA.flat h.1 h.2
 ·exact .lst h4 (xY R h3) (h5.imp (fun b z=>z.1) (fun z=>z))
theorem Rs.C_A (R:Rel K fl G ow σ Hb δ) (h:Rs K G.H0 ow Hb H .C v d):Rs K G.H0 ow Hb H .A v d:=RA.imp (fun _ z=>xY R z) (fun _=>rfl) h
theorem Rs.C_R (R:Rel K fl G ow σ Hb δ) (h:Rs K G.H0 ow Hb H .C v d):Rs K G.H0 ow Hb H .R v d:=RA.imp (fun _ z=>Us R z) (fun z=>z) h
theorem Rs.A_B (L:List Nat) (h:Rs K G.H0 ow Hb H .A v d):Rs K G.H0 ow Hb H (.B L) v d:=.inl h
theorem Rs.B_P {L:List Nat} (h:Rs K G.H0 ow Hb H (.B L) v d):Rs K G.H0 ow Hb H .P v d:=by
 rcases h with h | ⟨i,_,a,xs,ds,_,rfl,rfl,h4,h5⟩
 ·exact RA.imp (fun _ _=>trivial) (fun z=>z) h
 ·exact .lst h4 trivial (h5.imp (fun _ _=>trivial) (fun z=>z))
theorem Rs.P_flat (hf:flat d=true) (h:Rs K G.H0 ow Hb H .P v d):Rs K G.H0 ow Hb H .FC v d:=.inl ⟨hf,RA.flat hf h⟩
end
def tD (K:PySem.W.Frag) (fl:List Fl) (k:Kd) (f:FE):TE:=fun σ H Q=>∃ G ow δ d,Rel K fl G ow σ H δ∧f δ=some d∧∀ v H',Same H H'→Rs K G.H0 ow H H' k v d→Q v H'
abbrev DE (X:Cx) (fl:List Fl) (k:Kd) (e:Expr) (f:FE):Prop:=PE X e (tD X.K fl k f)
def tDA (K:PySem.W.Frag) (fl:List Fl) (f:FA):TA:=fun σ H Q=>∃ G ow δ ds,Rel K fl G ow σ H δ∧f δ=some ds∧∀ vs H',Same H H'→RAs K ok1 true H' vs ds→Q vs H'
abbrev DA (X:Cx) (fl:List Fl) (es:List Expr) (f:FA):Prop:=PA X es (tDA X.K fl f)
def tDT (K:PySem.W.Frag) (fl:List Fl) (f:FT):TT:=fun σ H Q=>∃ G ow δ b,Rel K fl G ow σ H δ∧f δ=some b∧∀ H',Same H H'→Q b H'
abbrev DT (X:Cx) (fl:List Fl) (e:Expr) (f:FT):Prop:=PT X e (tDT X.K fl f)
abbrev DW (X:Cx) (fl:List Fl) (e:Expr) (f:FT):Prop:=PW X e (tDT X.K fl f)
def uP (K:PySem.W.Frag) (fl:List Fl) (G:Gh) (Dn:Ends):Oc→Prop
 | .nx δ'=>∀ ow' σ' H',Rel K fl G ow' σ' H' δ'→Dn.nx σ' H'
 | .rt d=>∀ v H',Same G.H0 H'→RA K (okN G.H0) false H' v d→Dn.rt v H'
 | .bk δ'=>∀ ow' σ' H',Rel K fl G ow' σ' H' δ'→Dn.bk σ' H'
 | .ct δ'=>∀ ow' σ' H',Rel K fl G ow' σ' H' δ'→Dn.ct σ' H'
 | .ex _ _ d=>∀ v H',Same G.H0 H'→RA K ok1 true H' v d→Dn.rt v H'
def tDS (K:PySem.W.Frag) (fl:List Fl) (f:FS):TS:=fun Dn σ H=>∃ G ow δ o,Rel K fl G ow σ H δ∧f δ=some o∧uP K fl G Dn o
abbrev DS1 (X:Cx) (fl:List Fl) (s:Stmt) (f:FS):Prop:=PS X s (tDS X.K fl f)
abbrev DSs (X:Cx) (fl:List Fl) (s:List Stmt) (f:FS):Prop:=PSs X s (tDS X.K fl f)
def tDG (K:PySem.W.Frag) (fl:List Fl) (tg:List Nat) (g:FG):TG:=fun v σ H Q=>∃ G ow δ d δ',Rel K fl G ow σ H δ∧RA K (okA ow) true H v d∧g d δ=some δ'∧∀ σ',Rel K fl G ow σ' H δ'→(∀ j,j ∉ tg→σ'[j]? = σ[j]?)→Q σ' H
abbrev DG (X:Cx) (fl:List Fl) (tg:List Nat) (e:Expr) (g:FG):Prop:=PG X e (tDG X.K fl tg g)
section
variable {X:Cx} {e:Expr} {es:List Expr} {st:Stmt} {sts:List Stmt}
theorem PE.imp {t t':TE} (h:PE X e t) (i:∀ σ H Q,t' σ H Q→t σ H Q):PE X e t':=fun pins s σ H Q I q=>h pins s σ H Q I (i σ H Q q)
theorem PT.imp {t t':TT} (h:PT X e t) (i:∀ σ H Q,t' σ H Q→t σ H Q):PT X e t':=fun pins s σ H Q I q=>h pins s σ H Q I (i σ H Q q)
theorem PW.imp {t t':TT} (h:PW X e t) (i:∀ σ H Q,t' σ H Q→t σ H Q):PW X e t':=fun w pins s σ H Q I q=>h w pins s σ H Q I (i σ H Q q)
theorem PA.imp {t t':TA} (h:PA X es t) (i:∀ σ H Q,t' σ H Q→t σ H Q):PA X es t':=fun p pins s σ H Q I q=>h p pins s σ H Q I (i σ H Q q)
theorem PS.imp {t t':TS} (h:PS X st t) (i:∀ D σ H,t' D σ H→t D σ H):PS X st t':=fun pins s σ H D I q=>h pins s σ H D I (i D σ H q)
theorem PSs.imp {t t':TS} (h:PSs X sts t) (i:∀ D σ H,t' D σ H→t D σ H):PSs X sts t':=fun pins s σ H D I q=>h pins s σ H D I (i D σ H q)
theorem PG.imp {t t':TG} (h:PG X e t) (i:∀ v σ H Q,t' v σ H Q→t v σ H Q):PG X e t':=fun pins s σ H v u Q I r q=>h pins s σ H v u Q I r (i v σ H Q q)
end
end D3
namespace D3
open PySem PySem.Spec PyProof.Rows L2 My
section
variable {X:Cx} {fl:List Fl} {e a b c:Expr} {es:List Expr} {k:Kd} {f fa fb fc:FE} {pos:Pos}
theorem pC {i:Nat} {δ:DS} {d:D} (h:aD i δ=some d):δ[i]? = some (some (.d d)):=by
 unfold aD at h
 split at h
 ·next x e=>rw [e];cases h;rfl
 ·cases h
theorem kW (i:Nat) {x:Str} (hN:X.N[i]? = some x:=by rfl) (hv:Vis X.env.scope x:=by first | exact Or.inl rfl | exact Or.inr (Or.inl rfl) | exact Or.inr (Or.inr rfl)) (hd:(x == ("__debug__" : Str))=false:=by decide)
 (hcd:(x == ("__classdict__" : Str))=false:=by decide) (hn:isN fl[i]? = false:=by rfl):DE X fl (.B [i]) (.Name x pos) (aD i):=by
 refine PE.imp (lY hN hv hd hcd) fun σ H Q h=>?_
 obtain ⟨G,ow,δ,d,R,hf,q⟩:=h
 have e:=pC hf
 cases ho:ow i with
 | none =>
  obtain ⟨v,h1,h2⟩:=R.dat i d e hn ho
  exact ⟨v,h1,q v H (Same.refl H) (.inl h2)⟩
 | some a =>
  obtain ⟨h0,_,xs,ds,h1,h2,h3,h4⟩:=R.own i a ho
  rw [e] at h4
  cases h4
  exact ⟨_,h1,q _ H (Same.refl H) (.inr ⟨i,aQ.mpr rfl,a,xs,ds,ho,rfl,rfl,h2,h3⟩)⟩
theorem xZ (i:Nat) (hfl:fl[i]? = some .A) {x:Str} (hN:X.N[i]? = some x:=by rfl) (hv:Vis X.env.scope x:=by first | exact Or.inl rfl | exact Or.inr (Or.inl rfl) | exact Or.inr (Or.inr rfl)) (hd:(x == ("__debug__" : Str))=false:=by decide)
 (hcd:(x == ("__classdict__" : Str))=false:=by decide):DE X fl .A (.Name x pos) (aD i):=by
 refine PE.imp (lY hN hv hd hcd) fun σ H Q h=>?_
 obtain ⟨G,ow,δ,d,R,hf,q⟩:=h
 have e:=pC hf
 cases ho:ow i with
 | none =>
  obtain ⟨v,h1,h2⟩:=R.dat i d e (by rw [hfl];rfl) ho
  exact ⟨v,h1,q v H (Same.refl H) h2⟩
 | some a =>
  obtain ⟨h0,hz,_⟩:=R.own i a ho
  rw [hfl] at hz
  rcases hz with ⟨z,_⟩ | ⟨z,_⟩ <;> cases z
theorem yc (i:Nat) (hfl:fl[i]? ≠ some .A) {x:Str} (hN:X.N[i]? = some x:=by rfl) (hv:Vis X.env.scope x:=by first | exact Or.inl rfl | exact Or.inr (Or.inl rfl) | exact Or.inr (Or.inr rfl)) (hd:(x == ("__debug__" : Str))=false:=by decide)
 (hcd:(x == ("__classdict__" : Str))=false:=by decide) (hn:isN fl[i]? = false:=by rfl):DE X fl .R (.Name x pos) (Ba (aD i)):=by
 refine PE.imp (lY hN hv hd hcd) fun σ H Q h=>?_
 obtain ⟨G,ow,δ,d,R,hf,q⟩:=h
 unfold Ba at hf
 cases hv':aD i δ with
 | none=>rw [hv'] at hf;cases hf
 | some d' =>
  rw [hv',aH] at hf
  by_cases hc:fl1 d'=true
  ·rw [if_pos hc] at hf
   cases hf
   have e:=pC hv'
   cases ho:ow i with
   | none =>
    obtain ⟨v,h1,h2⟩:=R.dat i d e hn ho
    exact ⟨v,h1,q v H (Same.refl H) (RA.flat (R.oo i d e hn hfl ho) h2)⟩
   | some a =>
    obtain ⟨h0,_,xs,ds,h1,h2,h3,h4⟩:=R.own i a ho
    rw [e] at h4
    cases h4
    exact ⟨_,h1,q _ H (Same.refl H) (.lst h2 h0 (RAs.flat hc h3))⟩
  ·rw [if_neg hc] at hf
   cases hf
theorem lD {k k':Kd} (h:DE X fl k e f) (hc:∀ (Hb H:Hp) (G:Gh) (ow:Ow) (σ:St) (δ:DS) (v:V) (d:D),Rel X.K fl G ow σ Hb δ→Rs X.K G.H0 ow Hb H k v d→Rs X.K G.H0 ow Hb H k' v d):DE X fl k' e f:=by
 refine PE.imp h fun σ H Q h=>?_
 obtain ⟨G,ow,δ,d,R,hf,q⟩:=h
 exact ⟨G,ow,δ,d,R,hf,fun v H' s r=>q v H' s (hc _ _ G ow σ δ v d R r)⟩
theorem HY {k k':Kd} {p:D→Bool} (h:DE X fl k e f) (hc:∀ (Hb H:Hp) (G:Gh) (ow:Ow) (σ:St) (δ:DS) (v:V) (d:D),p d=true→Rel X.K fl G ow σ Hb δ→Rs X.K G.H0 ow Hb H k v d→Rs X.K G.H0 ow Hb H k' v d) :
 DE X fl k' e (fun δ=>(f δ).bind fun d=>if p d=true then some d else none):=by
 refine PE.imp h fun σ H Q h=>?_
 obtain ⟨G,ow,δ,d,R,hf,q⟩:=h
 dsimp only at hf
 cases hv:f δ with
 | none=>rw [hv] at hf;cases hf
 | some d' =>
  rw [hv,aH] at hf
  by_cases hp:p d'=true
  ·rw [if_pos hp] at hf
   cases hf
   exact ⟨G,ow,δ,d,R,hv,fun v H' s r=>q v H' s (hc _ _ G ow σ δ v d hp R r)⟩
  ·rw [if_neg hp] at hf
   cases hf
theorem Bc (h:DE X fl .FC e f):DE X fl .F e f:=lD h fun _ _ _ _ _ _ _ _ R r=>r.FC_F R
theorem jc (h:DE X fl .FC e f):DE X fl .C e f:=lD h fun _ _ _ _ _ _ _ _ R r=>r.FC_C
theorem jr (h:DE X fl .F e f):DE X fl .A e f:=lD h fun _ _ _ _ _ _ _ _ R r=>r.F_A R
theorem jk (h:DE X fl .C e f):DE X fl .A e f:=lD h fun _ _ _ _ _ _ _ _ R r=>r.C_A R
theorem uQ (h:DE X fl .C e f):DE X fl .R e f:=lD h fun _ _ _ _ _ _ _ _ R r=>r.C_R R
theorem gP (h:DE X fl .A e f):DE X fl (.B []) e f:=lD h fun _ _ _ _ _ _ _ _ R r=>Rs.A_B [] r
theorem oY {L:List Nat} (h:DE X fl (.B L) e f):DE X fl .P e f:=lD h fun _ _ _ _ _ _ _ _ R r=>r.B_P
theorem gC (h:DE X fl .P e f):DE X fl .FC e (eE f):=HY h fun _ _ _ _ _ _ _ _ hf R r=>r.P_flat hf
theorem cC (h:DE X fl .FC e f):DE X fl .A e f:=jr (Bc h)
theorem bT (h:DE X fl .FC e f):DE X fl .R e f:=uQ (jc h)
theorem b_ (h:DE X fl .A e f):DE X fl .P e f:=oY (gP h)
theorem d8 (h:DE X fl .C e f):DE X fl .P e f:=b_ (jk h)
theorem bC (h:DE X fl .FC e f):DE X fl .P e f:=b_ (cC h)
theorem O4 (h:DE X fl .F e f):DE X fl .P e f:=b_ (jr h)
theorem uR {v:V} {d:D} (h:PE X e (tC v)) (hf:flat d=true) (hr:∀ H,RA X.K ok0 false H v d):DE X fl .FC e (dC d):=by
 refine PE.imp h fun σ H Q h=>?_
 obtain ⟨G,ow,δ,d',R,hd,q⟩:=h
 cases hd
 exact q v H (Same.refl H) (.inl ⟨hf,hr H⟩)
theorem jC {i j pos}:DE X fl .FC (.Constant (.int i) j pos) (dC (.int i)):=uR Qd rfl fun _=>.int _
theorem jR {b j pos}:DE X fl .FC (.Constant (.bool b) j pos) (dC (.bool b)):=uR Ox rfl fun _=>.bl _
theorem jD {j pos}:DE X fl .FC (.Constant .none j pos) (dC .none):=uR Qe rfl fun _=>.non
theorem jE {x j pos}:DE X fl .FC (.Constant (.str x) j pos) (dC (.str x)):=uR Qf rfl fun _=>.str _
theorem K_ {x:Str} {i:Int} {pos:Pos} (h:∃ t,X.mg x=some (.int i t)) (hg:Gl X x:=by rfl) (hd:(x == ("__debug__" : Str))=false:=by decide):DE X fl .FC (.Name x pos) (dC (.int i)):=by
 obtain ⟨t,h⟩:=h
 exact uR (Di (v:=.int i) hg h ⟨t,rfl⟩ hd) rfl fun _=>.int _
def BrO (K:PySem.W.Frag) (r:R2) (g:D→D→Option D):Prop:=∀ (H:Hp) (x y:V) (dx dy d:D) (Q:VK),RA K ok1 true H x dx→RA K ok1 true H y dy→g dx dy=some d→(∀ v,flat d=true→RA K ok0 false H v d→Q v H)→r x y H Q
theorem Du {fa fb:FE} {g:D→D→Option D} {δ:DS} {d:D} (h:dOp g fa fb δ=some d):∃ x y,fa δ=some x∧fb δ=some y∧g x y=some d:=by
 unfold dOp at h
 cases ha:fa δ with
 | none=>rw [ha] at h;cases h
 | some x =>
  rw [ha,aH] at h
  cases hb:fb δ with
  | none=>rw [hb] at h;cases h
  | some y =>
   rw [hb,aH] at h
   exact ⟨x,y,rfl,rfl,h⟩
theorem bind1 {α β:Type} {x:Option α} {g:α→Option β} {d:β} (h:x.bind g=some d):∃ y,x=some y∧g y=some d:=by
 cases x with
 | none=>cases h
 | some y=>exact ⟨y,rfl,h⟩
theorem sO {r:R2} {g:D→D→Option D} {σ:St} {H:Hp} {Q:VK} (hb:BrO X.K r g) (h:tD X.K fl .FC (dOp g fa fb) σ H Q):tOp r (tD X.K fl .P fa) (tD X.K fl .P fb) σ H Q:=by
 obtain ⟨G,ow,δ,d,R,hf,q⟩:=h
 obtain ⟨x,y,e1,e2,e3⟩:=Du hf
 refine ⟨G,ow,δ,x,R,e1,fun v H1 s1 r1=>⟨G,ow,δ,y,R.grow s1,e2,fun u H2 s2 r2=>?_⟩⟩
 exact hb H2 v u x y d Q (RA.same s2 r1) r2 e3 fun z hz rz=>q z H2 (s1.trans s2) (.inl ⟨hz,rz⟩)
theorem cZ {op:Operator} {r:R2} {g:D→D→Option D} (ho:OpR X (binaryOp op) r) (hb:BrO X.K r g) (h1:DE X fl .P a fa) (h2:DE X fl .P b fb):DE X fl .FC (.BinOp a op b pos) (dOp g fa fb) :=
 PE.imp (Hl ho h1 h2) fun _ _ _ h=>sO hb h
theorem jW {op:CmpOp} {r:R2} {g:D→D→Option D} (ho:OpR X (compareOp op) r) (hb:BrO X.K r g) (h1:DE X fl .P a fa) (h2:DE X fl .P b fb) (hm:behindInMarks op b=false):DE X fl .FC (.Compare a [op] [b] pos) (dOp g fa fb) :=
 PE.imp (KJ ho h1 h2 hm) fun _ _ _ h=>sO hb h
theorem dU {op:CmpOp} {r:R2} {g:D→D→Option D} (ho:OpR X (compareOp op) r) (hb:BrO X.K r g) (h1:DE X fl .P a fa) (h2:DE X fl .P b fb) (hm:behindInMarks op b=false):DT X fl (.Compare a [op] [b] pos) (aM (dOp g fa fb)):=by
 refine PT.imp (KN ho h1 h2 hm) fun σ H Q h=>?_
 obtain ⟨G,ow,δ,c,R,hf,q⟩:=h
 obtain ⟨d,e1,e2⟩:=bind1 hf
 cases d <;> first | (cases e2;done) | skip
 cases e2
 refine sO (fl:=fl) (fa:=fa) (fb:=fb) hb ⟨G,ow,δ,_,R,e1,fun v H' s r=>?_⟩
 obtain rfl:=(Rs.FC_C r).blE
 exact ⟨_,rfl,q H' s⟩
theorem gD (h:DE X fl .P e f) (he:∀ whole,isTrue e X.env whole=(do let v ← whole;standAt e.pos;holding [v] (truthy v)):=by intro _;rfl):DT X fl e (aM f):=by
 refine PT.imp (G6 h he) fun σ H Q h=>?_
 obtain ⟨G,ow,δ,c,R,hf,q⟩:=h
 obtain ⟨d,e1,e2⟩:=bind1 hf
 cases d <;> first | (cases e2;done) | skip
 cases e2
 refine ⟨G,ow,δ,_,R,e1,fun v H' s r=>?_⟩
 obtain rfl:=RA.blE r
 exact ⟨_,rfl,q H' s⟩
theorem wK {K:PySem.W.Frag} {h:Int→Int→V} {g:Int→Int→D} (hf:∀ i j,flat (g i j)=true) (hr:∀ H i j,RA K ok0 false H (h i j) (g i j)):BrO K (rI0 h) (gI fun i j=>some (g i j)):=by
 intro H x y dx dy d Q rx ry e q
 unfold gI at e
 split at e
 ·next i j =>
  cases e
  exact ⟨i,j,rx.intE,ry.intE,q _ (hf i j) (hr H i j)⟩
 ·cases e
theorem Lb {K:PySem.W.Frag} {C:Int→Int→Prop} {h:Int→Int→V} {g:Int→Int→D} {c:Int→Int→Bool} (hc:∀ i j,c i j=true→C i j) (hf:∀ i j,flat (g i j)=true) (hr:∀ H i j,RA K ok0 false H (h i j) (g i j)) :
 BrO K (rI C h) (gI fun i j=>if c i j=true then some (g i j) else none):=by
 intro H x y dx dy d Q rx ry e q
 unfold gI at e
 split at e
 ·next i j =>
  dsimp only at e
  by_cases z:c i j=true
  ·rw [if_pos z] at e
   cases e
   exact ⟨i,j,rx.intE,ry.intE,hc i j z,q _ (hf i j) (hr H i j)⟩
  ·rw [if_neg z] at e
   cases e
 ·cases e
end
section
variable {X:Cx} {K:PySem.W.Frag}
theorem Le {i j:Int} (h:uN i j=true):IntMulOk i j:=by
 unfold uN at h
 rw [fW,fW,aU] at h
 rcases h with (h | h) | ⟨h1,h2⟩
 ·exact IntMulOk.of_left (PySem.intBits_le_iff.mpr (of_decide_eq_true h))
 ·exact IntMulOk.of_right (PySem.intBits_le_iff.mpr (of_decide_eq_true h))
 ·exact PySem.IntMulOk.of_le (PySem.intBits_le_iff.mpr (of_decide_eq_true h1)) (PySem.intBits_le_iff.mpr (of_decide_eq_true h2)) (by decide)
theorem lE:OpR X (binaryOp .Mult) (rI (fun i j=>uN i j=true) fun i j=>.int (i * j)):=opI fun _ _ _ _ _ _ _ hc q=>mul_int q (Le hc)
theorem Dv:OpR X (binaryOp .FloorDiv) (rI (fun i j=>Bb i j=true) fun i j=>.int (i.fdiv j)):=opI fun i j _ _ _ _ _ hc q=>by
 unfold Bb at hc
 rw [aU] at hc
 have h1:=of_decide_eq_true hc.1
 have h2:=of_decide_eq_true hc.2
 refine floordiv_int h1 q (.inl (PyProof.noPylong_of_log2 ?_))
 exact (Nat.log2_lt (by omega)).mpr h2
theorem Lf {i j:Int} (h:QM i j=true):Qu i j:=by
 unfold QM at h
 rw [aU,aU] at h
 have h1:=of_decide_eq_true h.1.1
 have h2:=of_decide_eq_true h.1.2
 exact ⟨h1,by omega,of_decide_eq_true h.2⟩
theorem gY:BrO K (rI0 fun i j=>.int (i + j)) iW:=wK (fun _ _=>rfl) fun _ _ _=>.int _
theorem zG:BrO K (rI0 fun i j=>.int (i - j)) xV:=wK (fun _ _=>rfl) fun _ _ _=>.int _
theorem rH:BrO K (rI (fun i j=>uN i j=true) fun i j=>.int (i * j)) nW:=Lb (fun _ _ h=>h) (fun _ _=>rfl) fun _ _ _=>.int _
theorem O5:BrO K (rI (fun i j=>Bb i j=true) fun i j=>.int (i.fdiv j)) zF:=Lb (fun _ _ h=>h) (fun _ _=>rfl) fun _ _ _=>.int _
theorem rJ:BrO K (rI (fun _ j=>j ≠ 0) fun i j=>.int (i.fmod j)) qj:=Lb (fun _ _ h=>of_decide_eq_true h) (fun _ _=>rfl) fun _ _ _=>.int _
theorem Ut:BrO K (rI Qu fun i j=>.int (i ^ j.toNat)) QS:=Lb (fun _ _ h=>Lf h) (fun _ _=>rfl) fun _ _ _=>.int _
theorem b_lt:BrO K (rI0 fun i j=>.bl (decide (i < j))) gLt:=wK (fun _ _=>rfl) fun _ _ _=>.bl _
theorem yd:BrO K (rI0 fun i j=>.bl (decide (i ≤ j))) gLe:=wK (fun _ _=>rfl) fun _ _ _=>.bl _
theorem Lg:BrO K (rI0 fun i j=>.bl (decide (j < i))) gGt:=wK (fun _ _=>rfl) fun _ _ _=>.bl _
theorem Fj:BrO K (rI0 fun i j=>.bl (decide (j ≤ i))) gGe:=wK (fun _ _=>rfl) fun _ _ _=>.bl _
theorem yg:BrO K (QH K) gEq:=by
 intro H x y dx dy d Q rx ry e q
 unfold gEq at e
 by_cases z:(SeqAt.shaped dx && SeqAt.shaped dy)=true
 ·rw [if_pos z] at e
  cases e
  rw [aU] at z
  exact ⟨dx,dy,rx.rd (SeqAt.canLay_of_shaped z.1),ry.rd (SeqAt.canLay_of_shaped z.2),z.1,z.2,q _ rfl (.bl _)⟩
 ·rw [if_neg z] at e
  cases e
theorem Fp:BrO K (QJ K) gNe:=by
 intro H x y dx dy d Q rx ry e q
 unfold gNe at e
 by_cases z:(SeqAt.shaped dx && SeqAt.shaped dy)=true
 ·rw [if_pos z] at e
  cases e
  rw [aU] at z
  exact ⟨dx,dy,rx.rd (SeqAt.canLay_of_shaped z.1),ry.rd (SeqAt.canLay_of_shaped z.2),z.1,z.2,q _ rfl (.bl _)⟩
 ·rw [if_neg z] at e
  cases e
end
end D3
namespace D3
open PySem PySem.Spec PyProof.Rows L2 My
section
variable {X:Cx} {fl:List Fl} {e a b c:Expr} {es:List Expr} {st:Stmt} {sts body orelse:List Stmt} {k:Kd} {f fa fb fc:FE} {fs gs:FS} {ft gt:FT} {pos:Pos}
theorem uP.nx_imp {K:PySem.W.Frag} {G:Gh} {Dn:Ends} {N:St→Hp→Prop} {o:Oc} (h:uP K fl G Dn o) (hn:∀ δ',o ≠ .nx δ'):uP K fl G { Dn with nx:=N } o:=by
 cases o with
 | nx δ'=>exact absurd rfl (hn δ')
 | rt d=>exact h
 | bk δ'=>exact h
 | ct δ'=>exact h
 | ex c f v=>exact h
theorem cW:DSs X fl [] bI:=PSs.imp Dm fun Dn σ H h=>by
 obtain ⟨G,ow,δ,o,R,hf,q⟩:=h
 cases hf
 exact q ow σ H R
theorem aY (h1:DS1 X fl st fs) (h2:DSs X fl sts gs):DSs X fl (st :: sts) (aW fs gs):=PSs.imp (uE h1 h2) fun Dn σ H h=>by
 obtain ⟨G,ow,δ,o,R,hf,q⟩:=h
 obtain ⟨o1,e1,e2⟩:=bind1 hf
 refine ⟨G,ow,δ,o1,R,e1,?_⟩
 cases o1 with
 | nx δ'=>exact fun ow' σ' H' R'=>⟨G,ow',δ',o,R',e2,q⟩
 | rt d=>cases e2;exact uP.nx_imp q (fun _ z=>by cases z)
 | bk d=>cases e2;exact uP.nx_imp q (fun _ z=>by cases z)
 | ct d=>cases e2;exact uP.nx_imp q (fun _ z=>by cases z)
 | ex c f v=>cases e2;exact q
theorem bh (h1:DS1 X fl st fs):DSs X fl [st] fs:=PSs.imp (xU h1) fun _ _ _ h=>h
theorem bY (h:DE X fl .R e f):DS1 X fl (.Return (some e) pos) (bO f):=PS.imp (Ao h) fun Dn σ H h=>by
 obtain ⟨G,ow,δ,o,R,hf,q⟩:=h
 obtain ⟨d,e1,e2⟩:=bind1 hf
 cases e2
 exact ⟨G,ow,δ,d,R,e1,fun v H' s r=>q v H' (R.same0.trans s) r⟩
theorem gF (hc:DT X fl c ft) (h1:DSs X fl body fs) (h2:DSs X fl orelse gs):DS1 X fl (.If c body orelse pos) (sIf ft fs gs):=PS.imp (G9 hc h1 h2) fun Dn σ H h=>by
 obtain ⟨G,ow,δ,o,R,hf,q⟩:=h
 obtain ⟨t,e1,e2⟩:=bind1 hf
 refine ⟨G,ow,δ,t,R,e1,fun H' s=>?_⟩
 cases t with
 | true=>exact vR ⟨G,ow,δ,o,R.grow s,e2,q⟩
 | false=>exact vQ ⟨G,ow,δ,o,R.grow s,e2,q⟩
theorem gJ {α:Type} {l:List (Option α)} {i j:Nat} {x y:α} (h:(l.set i (some x))[j]? = some (some y)):(j=i∧x=y)∨(j ≠ i∧l[j]? = some (some y)):=by
 rw [qQ] at h
 by_cases e:i=j
 ·subst e
  rw [if_pos rfl] at h
  by_cases z:i < l.length
  ·rw [if_pos z] at h
   cases h
   exact .inl ⟨rfl,rfl⟩
  ·rw [if_neg z] at h
   cases h
 ·rw [if_neg e] at h
  exact .inr ⟨fun z=>e z.symm,h⟩
theorem Rel.setA {K:PySem.W.Frag} {G:Gh} {ow:Ow} {σ:St} {H:Hp} {δ:DS} {i:Nat} {v:V} {d:D} (R:Rel K fl G ow σ H δ) (hfl:fl[i]? = some .A) (hi:i < σ.length) (r:RA K (okA ow) true H v d) :
 Rel K fl G ow (σ.set i (some v)) H (δ.set i (some (.d d))):=by
 have no:∀ a,ow i ≠ some a:=fun a z=>by
  obtain ⟨_,hz,_⟩:=R.own i a z
  rw [hfl] at hz
  rcases hz with ⟨z,_⟩ | ⟨z,_⟩ <;> cases z
 refine ⟨R.s0,R.s1,by rw [bU,bU];exact R.len,fun j a h=>?_,R.inj,R.pin,fun j d' h1 hn h2=>?_,fun j d' h1 hn h2 h3=>?_,R.nt,R.nd,R.ns,R.np,fun j d' hn h1=>?_⟩
 ·have hj:j ≠ i:=fun z=>no a (z ▸ h)
  obtain ⟨h0,hf,xs,ds,h1,h2,h3,h4⟩:=R.own j a h
  exact ⟨h0,hf,xs,ds,by rw [aV (Ne.symm hj)];exact h1,h2,h3,by rw [aV (Ne.symm hj)];exact h4⟩
 ·rcases gJ h1 with ⟨rfl,e⟩ | ⟨hj,e⟩
  ·cases e
   exact ⟨v,by rw [cj hi],r⟩
  ·obtain ⟨v',h3,h4⟩:=R.dat j d' e hn h2
   exact ⟨v',by rw [aV (Ne.symm hj)];exact h3,h4⟩
 ·rcases gJ h1 with ⟨rfl,e⟩ | ⟨hj,e⟩
  ·exact absurd hfl h2
  ·exact R.oo j d' e hn h2 h3
 ·rcases gJ h1 with ⟨rfl,e⟩ | ⟨hj,e⟩
  ·rw [hfl] at hn;cases hn
  ·obtain ⟨v',h3,h4⟩:=R.nr j d' hn e
   exact ⟨v',by rw [aV (Ne.symm hj)];exact h3,h4⟩
def tM (ow:Ow) (i:Nat) (a:Option Addr):Ow:=⟨fun j=>if j=i then a else ow j,ow.n⟩
theorem iI {ow:Ow} {i:Nat} {a:Option Addr}:tM ow i a i=a:=if_pos rfl
theorem fL {ow:Ow} {i j:Nat} {a:Option Addr} (h:j ≠ i):tM ow i a j=ow j:=if_neg h
theorem Rel.setO {K:PySem.W.Frag} {G:Gh} {ow:Ow} {σ:St} {H H':Hp} {δ:DS} {i:Nat} {v:V} {d:D} (R:Rel K fl G ow σ H δ) (s:Same H H') (hfl:fl[i]? = some .O) (hi:i < σ.length) (r:Rs K G.H0 ow H H' .F v d) :
 ∃ ow',Rel K fl G ow' (σ.set i (some v)) H' (δ.set i (some (.d d))):=by
 have R':=R.grow s
 have sub0:∀ b,okA ow b→okA (tM ow i none) b:=fun b z=>⟨fun j e=>by
  by_cases hj:j=i
  ·subst hj;rw [iI] at e;cases e
  ·rw [fL hj] at e;exact z.1 j e,z.2⟩
 have nrs:∀ j d',isN fl[j]? = true→(δ.set i (some (.d d)))[j]? = some (some (.d d'))→∃ v',(σ.set i (some v))[j]? = some (some v')∧RT K H' v' d' (ow.n j)∧(ow.n j).Nodup:=fun j d' hn h1=>by
  rcases gJ h1 with ⟨rfl,e⟩ | ⟨hj,e⟩
  ·rw [hfl] at hn;cases hn
  ·obtain ⟨v',h3,h4⟩:=R'.nr j d' hn e
   exact ⟨v',by rw [aV (Ne.symm hj)];exact h3,h4⟩
 rcases r with ⟨hfd,r⟩ | ⟨a,xs,ds,rfl,rfl,ha,hx,hr⟩
 ·refine ⟨tM ow i none,R'.s0,R'.s1,by rw [bU,bU];exact R.len,fun j a h=>?_,fun j j' a h h'=>?_,fun j h=>?_,fun j d' h1 hn h2=>?_,fun j d' h1 hn h2 h3=>?_,R'.nt,R'.nd,fun j j' a h h'=>?_,R'.np,nrs⟩
  ·have hj:j ≠ i:=fun z=>by subst z;rw [iI] at h;cases h
   rw [fL hj] at h
   obtain ⟨h0,hf,xs,ds,h1,h2,h3,h4⟩:=R'.own j a h
   exact ⟨h0,hf,xs,ds,by rw [aV (Ne.symm hj)];exact h1,h2,h3.imp sub0 (fun z=>z),by rw [aV (Ne.symm hj)];exact h4⟩
  ·have hj:j ≠ i:=fun z=>by subst z;rw [iI] at h;cases h
   have hj':j' ≠ i:=fun z=>by subst z;rw [iI] at h';cases h'
   rw [fL hj] at h
   rw [fL hj'] at h'
   exact R.inj j j' a h h'
  ·have hj:j ≠ i:=fun z=>by subst z;rw [hfl] at h;cases h
   rw [fL hj]
   exact R.pin j h
  ·rcases gJ h1 with ⟨rfl,e⟩ | ⟨hj,e⟩
   ·cases e
    exact ⟨v,by rw [cj hi],RA.flat hfd r⟩
   ·rw [fL hj] at h2
    obtain ⟨v',h3,h4⟩:=R'.dat j d' e hn h2
    exact ⟨v',by rw [aV (Ne.symm hj)];exact h3,h4.imp sub0 (fun z=>z)⟩
  ·rcases gJ h1 with ⟨rfl,e⟩ | ⟨hj,e⟩
   ·cases e
    exact hfd
   ·rw [fL hj] at h3
    exact R.oo j d' e hn h2 h3
  ·by_cases hj:j'=i
   ·subst hj;rw [iI] at h';cases h'
   ·rw [fL hj] at h';exact R.ns j j' a h h'
 ·have sub:∀ b,okA ow b∧b ≠ a→okA (tM ow i (some a)) b:=fun b z=>⟨fun j e=>by
   by_cases hj:j=i
   ·subst hj;rw [iI] at e;exact z.2 (cX.inj e).symm
   ·rw [fL hj] at e;exact z.1.1 j e,z.1.2⟩
  have old:∀ {v:V} {d:D},RA K (okA ow) true H v d→RA K (okA (tM ow i (some a))) true H' v d:=fun r=>(r.track.imp (fun b z=>sub b ⟨z.1,fun e=>z.2 (e ▸ ha)⟩) (fun z=>z)).same s
  have olds:∀ {v:List V} {d:List D},RAs K (okA ow) true H v d→RAs K (okA (tM ow i (some a))) true H' v d:=fun r=>(r.track.imp (fun b z=>sub b ⟨z.1,fun e=>z.2 (e ▸ ha)⟩) (fun z=>z)).same s
  have nota:∀ j,ow j ≠ some a:=fun j z=>by
   obtain ⟨_,_,_,_,_,h2,_⟩:=R.own j a z
   rw [ha] at h2
   cases h2
  have hF:G.HF a=none:=R.s1.free ha
  refine ⟨tM ow i (some a),R'.s0,R'.s1,by rw [bU,bU];exact R.len,fun j b h=>?_,fun j j' b h h'=>?_,fun j h=>?_,fun j d' h1 hn h2=>?_,fun j d' h1 hn h2 h3=>?_,R'.nt,R'.nd,fun j j' b h h'=>?_,R'.np,nrs⟩
  ·by_cases hj:j=i
   ·subst hj
    rw [iI] at h
    cases h
    exact ⟨R.same0.free ha,.inl ⟨hfl,hF⟩,xs,ds,by rw [cj hi],hx,hr.imp sub (fun z=>z),by rw [cj (by rw [← R.len];exact hi)]⟩
   ·rw [fL hj] at h
    obtain ⟨h0,hf,ys,ds',h1,h2,h3,h4⟩:=R.own j b h
    exact ⟨h0,hf,ys,ds',by rw [aV (Ne.symm hj)];exact h1,s _ _ h2,olds h3,by rw [aV (Ne.symm hj)];exact h4⟩
  ·by_cases hj:j=i
   ·by_cases hj':j'=i
    ·rw [hj,hj']
    ·subst hj
     rw [iI] at h
     cases h
     rw [fL hj'] at h'
     exact absurd h' (nota j')
   ·rw [fL hj] at h
    by_cases hj':j'=i
    ·subst hj'
     rw [iI] at h'
     cases h'
     exact absurd h (nota j)
    ·rw [fL hj'] at h'
     exact R.inj j j' b h h'
  ·have hj:j ≠ i:=fun z=>by subst z;rw [hfl] at h;cases h
   rw [fL hj]
   exact R.pin j h
  ·rcases gJ h1 with ⟨rfl,e⟩ | ⟨hj,e⟩
   ·rw [iI] at h2;cases h2
   ·rw [fL hj] at h2
    obtain ⟨v',h3,h4⟩:=R.dat j d' e hn h2
    exact ⟨v',by rw [aV (Ne.symm hj)];exact h3,old h4⟩
  ·rcases gJ h1 with ⟨rfl,e⟩ | ⟨hj,e⟩
   ·rw [iI] at h3;cases h3
   ·rw [fL hj] at h3
    exact R.oo j d' e hn h2 h3
  ·by_cases hj:j'=i
   ·subst hj
    rw [iI] at h'
    cases h'
    exact (R.nt j a h).2.1.ne ha
   ·rw [fL hj] at h';exact R.ns j j' b h h'
theorem Rel.mut {K:PySem.W.Frag} {G:Gh} {ow:Ow} {σ:St} {H:Hp} {δ:DS} {i:Nat} {a:Addr} {ys:List V} {ds:List D} (R:Rel K fl G ow σ H δ) (hfl:fl[i]? = some .O) (ho:ow i=some a) (r:RAs K (okA ow) true H ys ds) :
 Rel K fl G ow σ (upd H a (.lst ys)) (δ.set i (some (.d (.list ds)))):=by
 obtain ⟨h0,hz,xs,ds0,e1,e2,e3,e4⟩:=R.own i a ho
 have na:¬ okA ow a:=fun z=>z.1 i ho
 have hF:G.HF a=none:=by
  rcases hz with ⟨_,z⟩ | ⟨z,_⟩
  ·exact z
  ·rw [hfl] at z;cases z
 have hi:i < δ.length:=by
  rcases lq i δ.length with z | z
  ·exact z
  ·rw [bD z] at e4;cases e4
 refine ⟨R.s0,fun b o hb=>?_,by rw [bU];exact R.len,fun j b h=>?_,R.inj,R.pin,fun j d' h1 hn h2=>?_,fun j d' h1 hn h2 h3=>?_,fun j b h=>?_,R.nd,R.ns,R.np,fun j d' hn h1=>?_⟩
 ·rw [cM (fun z=>by subst z;rw [hF] at hb;cases hb)]
  exact R.s1 b o hb
 ·by_cases hj:j=i
  ·subst hj
   rw [ho] at h
   cases h
   exact ⟨h0,hz,ys,ds,e1,d7,r.upd e2 na,by rw [cj hi]⟩
  ·obtain ⟨h0',hf',zs,ds',h1,h2,h3,h4⟩:=R.own j b h
   have hb:b ≠ a:=fun z=>hj (R.inj j i a (z ▸ h) ho)
   exact ⟨h0',hf',zs,ds',h1,by rw [cM hb];exact h2,h3.upd e2 na,by rw [aV (Ne.symm hj)];exact h4⟩
 ·rcases gJ h1 with ⟨rfl,e⟩ | ⟨hj,e⟩
  ·rw [ho] at h2;cases h2
  ·obtain ⟨v',h3,h4⟩:=R.dat j d' e hn h2
   exact ⟨v',h3,h4.upd e2 na⟩
 ·rcases gJ h1 with ⟨rfl,e⟩ | ⟨hj,e⟩
  ·rw [ho] at h3;cases h3
  ·exact R.oo j d' e hn h2 h3
 ·obtain ⟨g1,g2,g3⟩:=R.nt j b h
  refine ⟨g1,?_,g3⟩
  by_cases hb:b=a
  ·rw [hb,d7];exact ⟨_,rfl,inferInstance⟩
  ·rw [cM hb];exact g2
 ·rcases gJ h1 with ⟨rfl,e⟩ | ⟨hj,e⟩
  ·rw [hfl] at hn;cases hn
  ·obtain ⟨v',h3,h4,h5⟩:=R.nr j d' hn e
   exact ⟨v',h3,h4.upd e2 (fun z=>R.ns j i a z ho),h5⟩
theorem nY {K:PySem.W.Frag} {G:Gh} {ow:Ow} {σ:St} {H:Hp} {δ:DS} {i:Nat} (R:Rel K fl G ow σ H δ) (h:i < δ.length):i < σ.length:=by rw [R.len];exact h
theorem Lh {i:Nat} {x:Str} {pos':Pos} (hfl:fl[i]? = some .A) (hN:X.N.Nodup) (hi:X.N[i]? = some x) (hv:X.env.scope.names.lookup x=some .local∨X.env.scope.names.lookup x=some .cell) (h:DE X fl .A e f)
 (hs:swapsWith e (some (.Name x pos')) pos.line X.env=pure false:=by rfl) (hfn:X.fn x=true∨X.env.scope.names.lookup x=some .local:=by first | exact .inl rfl | exact .inr rfl) :
 DS1 X fl (.Assign [.Name x pos'] e pos) (bJ i f):=PS.imp (uF (i:=i) hN hi hv h hs hfn) fun Dn σ H h=>by
 obtain ⟨G,ow,δ,o,R,hf,q⟩:=h
 unfold bJ at hf
 by_cases hl:i < δ.length
 ·rw [if_pos hl] at hf
  obtain ⟨d,e1,e2⟩:=bind1 hf
  cases e2
  exact ⟨G,ow,δ,d,R,e1,fun v H' s r=>q ow _ H' ((R.grow s).setA hfl (nY R hl) r)⟩
 ·rw [if_neg hl] at hf
  cases hf
theorem pD {i:Nat} {x:Str} {pos':Pos} (hfl:fl[i]? = some .O) (hN:X.N.Nodup) (hi:X.N[i]? = some x) (hv:X.env.scope.names.lookup x=some .local∨X.env.scope.names.lookup x=some .cell) (h:DE X fl .F e f)
 (hs:swapsWith e (some (.Name x pos')) pos.line X.env=pure false:=by rfl) (hfn:X.fn x=true∨X.env.scope.names.lookup x=some .local:=by first | exact .inl rfl | exact .inr rfl) :
 DS1 X fl (.Assign [.Name x pos'] e pos) (bJ i f):=PS.imp (uF (i:=i) hN hi hv h hs hfn) fun Dn σ H h=>by
 obtain ⟨G,ow,δ,o,R,hf,q⟩:=h
 unfold bJ at hf
 by_cases hl:i < δ.length
 ·rw [if_pos hl] at hf
  obtain ⟨d,e1,e2⟩:=bind1 hf
  cases e2
  refine ⟨G,ow,δ,d,R,e1,fun v H' s r=>?_⟩
  obtain ⟨ow',R'⟩:=R.setO s hfl (nY R hl) r
  exact q ow' _ H' R'
 ·rw [if_neg hl] at hf
  cases hf
theorem Li {i:Nat} {x:Str} {pos:Pos} (hfl:fl[i]? = some .A) (hN:X.N.Nodup) (hi:X.N[i]? = some x) (hv:X.env.scope.names.lookup x=some .local∨X.env.scope.names.lookup x=some .cell)
 (hfn:X.fn x=true∨X.env.scope.names.lookup x=some .local:=by first | exact .inl rfl | exact .inr rfl):DG X fl [i] (.Name x pos) (gNl i) :=
 PG.imp (KC (i:=i) hN hi hv hfn) fun v σ H Q h=>by
 obtain ⟨G,ow,δ,d,δ',R,r,hf,q⟩:=h
 unfold gNl at hf
 by_cases hl:i < δ.length
 ·rw [if_pos hl] at hf
  cases hf
  exact q _ (R.setA hfl (nY R hl) r) fun j hj=>aV (fun z=>hj (by rw [z];exact aQ.mpr rfl))
 ·rw [if_neg hl] at hf
  cases hf
def WD (K:PySem.W.Frag) (fl:List Fl) (tg:List Nat) (g:List D→DS→Option DS):TGs:=fun vs σ H Q=>∃ G ow δ ds δ',Rel K fl G ow σ H δ∧RAs K (okA ow) true H vs ds∧g ds δ=some δ'∧∀ σ',Rel K fl G ow σ' H δ'→(∀ j,j ∉ tg→σ'[j]? = σ[j]?)→Q σ' H
theorem PGs.imp {t t':TGs} (h:PGs X es t) (i:∀ v σ H Q,t' v σ H Q→t v σ H Q):PGs X es t':=fun pins s σ H v u Q I r q=>h pins s σ H v u Q I r (i v σ H Q q)
abbrev DGs (X:Cx) (fl:List Fl) (tg:List Nat) (es:List Expr) (g:List D→DS→Option DS):Prop:=PGs X es (WD X.K fl tg g)
theorem rK:DGs X fl [] [] mj:=PGs.imp KD fun vs σ H Q h=>by
 obtain ⟨G,ow,δ,ds,δ',R,r,hf,q⟩:=h
 cases r with
 | nil=>cases hf;exact ⟨rfl,q σ R fun _ _=>rfl⟩
 | cons _ _=>cases hf
theorem jt {tg tg':List Nat} {g:FG} {gs:List D→DS→Option DS} (h1:DG X fl tg e g) (h2:DGs X fl tg' es gs) (hs:(assignEach (e :: es) X.env).map (·.2)=assign e X.env :: (assignEach es X.env).map (·.2):=by rfl) :
 DGs X fl (tg++tg') (e :: es) (eX g gs):=PGs.imp (Hf h1 h2 hs) fun vs σ H Q h=>by
 obtain ⟨G,ow,δ,ds,δ',R,r,hf,q⟩:=h
 cases r with
 | nil=>cases hf
 | cons r1 r2 =>
  obtain ⟨δ1,e1,e2⟩:=bind1 hf
  refine ⟨_,_,rfl,G,ow,δ,_,δ1,R,r1,e1,fun σ' R' k1=>⟨G,ow,δ1,_,δ',R',r2,e2,fun σ'' R'' k2=>q σ'' R'' fun j hj=>?_⟩⟩
  rw [k2 j fun z=>hj (aX _ z),k1 j fun z=>hj (bF _ z)]
theorem uT {tg:List Nat} {gs:List D→DS→Option DS} {k n:Nat} (hc:X.calm=true) (h:DGs X fl tg es gs) (hn:(assignEach es X.env).length=n:=by rfl) (hst:(assignEach es X.env).findIdx? (·.1)=none:=by rfl) :
 DG X fl tg (.Tuple es k pos) (gTn n gs):=PG.imp (Qo (n:=n) hc h hn hst) fun v σ H Q h=>by
 obtain ⟨G,ow,δ,d,δ',R,r,hf,q⟩:=h
 unfold gTn at hf
 split at hf
 ·next l =>
  by_cases z:l.length=n
  ·rw [if_pos z] at hf
   obtain ⟨a,xs,rfl,hx,hr⟩:=r.tupE
   exact ⟨a,xs,rfl,hx,by rw [hr.length];exact z,G,ow,δ,l,δ',R,hr,hf,q⟩
  ·rw [if_neg z] at hf
   cases hf
 ·cases hf
theorem QT {tg:List Nat} {g:FG} {t:Expr} (h:DE X fl .A e f) (hg:DG X fl tg t g) (hs:swapsWithSole [t] e pos.line X.env=pure false:=by rfl) (hw:swappedStores [t] e X.env=pure none:=by rfl)
 (h1:(assignEach [t] X.env).map (·.2)=[assign t X.env]:=by rfl):DS1 X fl (.Assign [t] e pos) (K8 f g):=PS.imp (Aq h hg hs hw h1) fun Dn σ H h=>by
 obtain ⟨G,ow,δ,o,R,hf,q⟩:=h
 obtain ⟨d,e1,e2⟩:=bind1 hf
 obtain ⟨δ',e3,e4⟩:=bind1 e2
 cases e4
 exact ⟨G,ow,δ,d,R,e1,fun v H' s r=>⟨G,ow,δ,d,δ',R.grow s,r,e3,fun σ' R' _=>q ow σ' H' R'⟩⟩
end
end D3
namespace D3
open PySem PySem.Spec PyProof.Rows L2 My
section
variable {X:Cx} {fl:List Fl} {e a b c:Expr} {es:List Expr} {st:Stmt} {sts body orelse:List Stmt} {k:Kd} {f fa fb fc:FE} {fs gs:FS} {ft gt:FT} {pos:Pos}
theorem Bd {K:PySem.W.Frag} {G:Gh} {ow:Ow} {σ:St} {H:Hp} {δ:DS} {i:Nat} {l:List D} (R:Rel K fl G ow σ H δ) (hfl:fl[i]? = some .O) (h:aD i δ=some (.list l)) :
 ∃ a xs,ow i=some a∧σ[i]? = some (some (.ref a))∧H a=some (.lst xs)∧RAs K (okA ow) true H xs l:=by
 have e:=pC h
 cases ho:ow i with
 | none =>
  have z:=R.oo i _ e (by rw [hfl];rfl) (by rw [hfl];simp) ho
  simp [flat] at z
 | some a =>
  obtain ⟨h0,_,xs,ds,h1,h2,h3,h4⟩:=R.own i a ho
  rw [e] at h4
  cases h4
  exact ⟨a,xs,rfl,h1,h2,h3⟩
theorem Fq {i:Nat} {x:Str} {vpos apos cpos:Pos} (hfl:fl[i]? = some .O) (h:DE X fl .A e f) (hN:X.N[i]? = some x) (hv:Vis X.env.scope x:=by first | exact Or.inl rfl | exact Or.inr (Or.inl rfl) | exact Or.inr (Or.inr rfl)) (hd:(x == ("__debug__" : Str))=false:=by decide)
 (hcd:(x == ("__classdict__" : Str))=false:=by decide)
 (hs:swapsWith (.Call (.Attribute (.Name x vpos) "append" apos) [e] [] cpos) none pos.line X.env=pure false:=by rfl)
 (hbase:attributeBase (.Name x vpos) "append" X.env (eval (.Name x vpos) X.env)=eval (.Name x vpos) X.env:=by rfl)
 (hfew:((backTo cpos (starEach [e] X.env)).all (fun x=>!x.1) && (backToKw cpos (keywordEach [] X.env)).all (fun x=>x.1.isSome)
  && decide (([e]:List Expr).length + ([]:List Keyword).length + (if ([]:List Keyword).isEmpty then 0 else 1) < 30))=true:=by rfl)
 (hline:(apos.endLine == cpos.line)=true:=by rfl) (hst:starEach [e] X.env=(false,eval e X.env) :: starEach [] X.env:=by rfl) (hplain:(backTo cpos (starEach [] X.env)).any (·.1)=false:=by rfl) :
 DS1 X fl (.Expr (.Call (.Attribute (.Name x vpos) "append" apos) [e] [] cpos) pos) (Fi i f) :=
 PS.imp (Dp (Hs PySem.F.plainAttrs_list PySem.F.slot_list_append PySem.F.type_list_append wI (lY hN hv hd hcd) (iu h lZ hst) hbase hfew hline hst hplain) hs) fun Dn σ H h=>by
 obtain ⟨G,ow,δ,o,R,hf,q⟩:=h
 obtain ⟨x,e1,hf1⟩:=bind1 hf
 obtain ⟨d,e2,hf2⟩:=bind1 hf1
 clear hf hf1
 have hf:=hf2
 clear hf2
 split at hf
 case h_2=>cases hf
 next l =>
 by_cases hl:l.length < 1000000
 ·rw [if_pos hl] at hf
  cases hf
  obtain ⟨a,xs,ho,h1,h2,h3⟩:=Bd R hfl e1
  refine ⟨_,h1,.inl ⟨rfl,_,SqL.of h2⟩,G,ow,δ,d,R,e2,fun v H' s r=>?_⟩
  have R':=R.grow s
  refine ⟨a,xs,v,rfl,rfl,s _ _ h2,by rw [h3.length];exact lg hl (by decide),?_⟩
  exact q ow σ _ (R'.mut hfl ho ((h3.same s).append (.cons r .nil)))
 ·rw [if_neg hl] at hf
  cases hf
theorem yh {i:Nat} {x:Str} {vpos spos:Pos} {ke:Expr} {fk:FE} (hfl:fl[i]? = some .O) (h:DE X fl .A e f) (hk:DE X fl .P ke fk) (hN:X.N[i]? = some x) (hv:Vis X.env.scope x:=by first | exact Or.inl rfl | exact Or.inr (Or.inl rfl) | exact Or.inr (Or.inr rfl)) (hd:(x == ("__debug__" : Str))=false:=by decide)
 (hcd:(x == ("__classdict__" : Str))=false:=by decide) (ha:∀ v,assign (.Subscript (.Name x vpos) ke spos) X.env v=(do
  let ov ← holding [v] (eval (.Name x vpos) X.env)
  let iv ← holding [v,ov] (eval ke X.env)
  standAt spos
  holding [v,ov,iv] (setItem ov iv v)
  release [v,ov,iv] []):=by intro _;rfl)
 (hs:swapsWithSole [.Subscript (.Name x vpos) ke spos] e pos.line X.env=pure false:=by rfl) (hw:swappedStores [.Subscript (.Name x vpos) ke spos] e X.env=pure none:=by rfl)
 (h1:(assignEach [.Subscript (.Name x vpos) ke spos] X.env).map (·.2)=[assign (.Subscript (.Name x vpos) ke spos) X.env]:=by rfl) :
 DS1 X fl (.Assign [.Subscript (.Name x vpos) ke spos] e pos) (vV i fk f) :=
 PS.imp (Aq h (Hg (lY hN hv hd hcd) hk set_list ha) hs hw h1) fun Dn σ H h=>by
 obtain ⟨G,ow,δ,o,R,hf,q⟩:=h
 obtain ⟨d,e2,hf1⟩:=bind1 hf
 obtain ⟨x,e1,hf2⟩:=bind1 hf1
 obtain ⟨k,e3,hf3⟩:=bind1 hf2
 clear hf hf1 hf2
 have hf:=hf3
 clear hf3
 split at hf
 case h_2=>cases hf
 next l j =>
 obtain ⟨n,e4,e5⟩:=bind1 hf
 cases e5
 obtain ⟨a,xs,ho,h1,h2,h3⟩:=Bd R hfl e1
 refine ⟨G,ow,δ,d,R,e2,fun v H' s r=>⟨_,h1,G,ow,δ,_,R.grow s,e3,fun u H2 s2 r2=>?_⟩⟩
 obtain rfl:=RA.intE r2
 have R2:=R.grow (s.trans s2)
 refine ⟨a,xs,j,n,rfl,rfl,(s.trans s2) _ _ h2,by rw [h3.length];exact e4,?_⟩
 exact q ow σ _ (R2.mut hfl ho (RAs.set (RA.same s2 r) n (h3.same (s.trans s2))))
def O6 (K:PySem.W.Frag) (ow:Ow) (L:List Nat) (H1:Hp) (J:It) (l:List D):Prop:=∀ H2:Hp,(∀ b o,H1 b=some o→(∀ i,ow i=some b→i ∈ L)→(∀ i,b ∉ ow.n i)→H2 b=some o)→∀ i:Nat,
 (∀ d,l[i]? = some d→J.go i H2∧∀ x H3,J.yld i H2 x H3→Same H2 H3∧RA K (fun b=>okA ow b∧H1 b ≠ none) true H3 x d)∧(l.length ≤ i→J.stop i H2)
def tDI (K:PySem.W.Frag) (fl:List Fl) (L:List Nat) (fi:FA):TI:=fun σ H R'=>∃ G ow δ l,Rel K fl G ow σ H δ∧fi δ=some l∧∀ J H1,Same H H1→O6 K ow L H1 J l→R' J H1
abbrev DI (X:Cx) (fl:List Fl) (L:List Nat) (tg iter:Expr) (fi:FA):Prop:=PI X tg iter (tDI X.K fl L fi)
theorem PI.imp {tg iter:Expr} {t t':TI} (h:PI X tg iter t) (i:∀ σ H R',t' σ H R'→t σ H R'):PI X tg iter t':=fun pins s σ H R' I q=>h pins s σ H R' I (i σ H R' q)
section
variable {K:PySem.W.Frag} {ok:Ok} {pl:Bool} {H1 H2:Hp} {ow:Ow} {L:List Nat}
theorem nm {b:Addr} {o:HO} (hl:∀ i b,ow i=some b→∃ xs,H1 b=some (.lst xs)) (h:H1 b=some o) (hn:∀ xs,o ≠ .lst xs):∀ i,ow i=some b→i ∈ L:=fun i e=>by
 obtain ⟨xs,z⟩:=hl i b e
 rw [h] at z
 exact absurd (cX.inj z) (hn xs)
theorem nm2 {b:Addr} {o:HO} (hl:∀ i b,b ∈ ow.n i→Chd (H1 b)) (h:H1 b=some o) (hn:Chg o→False):∀ i,b ∉ ow.n i:=fun i e=>by
 obtain ⟨u,z,c⟩:=hl i b e
 rw [h] at z
 cases z
 exact hn c
mutual
theorem RA.keep (hk:∀ b o,H1 b=some o→(∀ i,ow i=some b→i ∈ L)→(∀ i,b ∉ ow.n i)→H2 b=some o) (hl:∀ i b,ow i=some b→∃ xs,H1 b=some (.lst xs)) (hm:∀ i b,b ∈ ow.n i→Chd (H1 b)) (ho:∀ b,ok b→okA ow b):∀ {v:V} {d:D},RA K ok pl H1 v d→RA K ok pl H2 v d
 | _,_,.non=>.non
 | _,_,.bl b=>.bl b
 | _,_,.int i=>.int i
 | _,_,.str x=>.str x
 | _,_,.lst e k q=>.lst (hk _ _ e (fun i z=>absurd z ((ho _ k).1 i)) (ho _ k).2) k (RAs.keep hk hl hm ho q)
 | _,_,.lsk e k q=>.lsk (by
  rcases e with ⟨o,e⟩ | e
  ·exact .inl ⟨o,hk _ _ e (nm hl e (by intro xs z;cases z)) (nm2 hm e Chg.frz)⟩
  ·exact .inr e) k (RAs.keep hk hl hm ho q)
 | _,_,.tup e q=>.tup (hk _ _ e (nm hl e (by intro xs z;cases z)) (nm2 hm e Chg.tup)) (RAs.keep hk hl hm ho q)
 | _,_,.dic e g k=>.dic (hk _ _ e (fun i z=>absurd z ((ho _ k).1 i)) (ho _ k).2) (g.imp fun _ _ t=>hk _ _ t (nm hl t (by intro xs z;cases z)) (nm2 hm t Chg.tup)) k
 | _,_,.dik e g k=>.dik (hk _ _ e (nm hl e (by intro xs z;cases z)) (nm2 hm e Chg.frz)) (g.imp fun _ _ t=>hk _ _ t (nm hl t (by intro xs z;cases z)) (nm2 hm t Chg.tup)) k
theorem RAs.keep (hk:∀ b o,H1 b=some o→(∀ i,ow i=some b→i ∈ L)→(∀ i,b ∉ ow.n i)→H2 b=some o) (hl:∀ i b,ow i=some b→∃ xs,H1 b=some (.lst xs)) (hm:∀ i b,b ∈ ow.n i→Chd (H1 b)) (ho:∀ b,ok b→okA ow b):∀ {v:List V} {d:List D},RAs K ok pl H1 v d→RAs K ok pl H2 v d
 | _,_,.nil=>.nil
 | _,_,.cons e q=>.cons (RA.keep hk hl hm ho e) (RAs.keep hk hl hm ho q)
end
end
theorem Rel.ownL {K:PySem.W.Frag} {G:Gh} {ow:Ow} {σ:St} {H:Hp} {δ:DS} (R:Rel K fl G ow σ H δ):∀ i b,ow i=some b→∃ xs,H b=some (.lst xs):=fun i b e=>by
 obtain ⟨_,_,xs,_,_,h2,_⟩:=R.own i b e
 exact ⟨xs,h2⟩
theorem Rel.ownC {K:PySem.W.Frag} {G:Gh} {ow:Ow} {σ:St} {H:Hp} {δ:DS} (R:Rel K fl G ow σ H δ):∀ i b,b ∈ ow.n i→Chd (H b):=fun i b e=>(R.nt i b e).2.1
theorem Bf {K:PySem.W.Frag} {G:Gh} {ow:Ow} {σ:St} {H Hb:Hp} {δ:DS} {L:List Nat} {v:V} {l:List D} (R:Rel K fl G ow σ H δ) (r:Rs K G.H0 ow Hb H (.B L) v (.list l)):∃ a xs,v = .ref a∧SqL K H a xs ∧
 ∀ H2:Hp,(∀ b o,H b=some o→(∀ i,ow i=some b→i ∈ L)→(∀ i,b ∉ ow.n i)→H2 b=some o)→SqL K H2 a xs∧RAs K (fun b=>okA ow b∧H b ≠ none) true H2 xs l:=by
 rcases r with r | ⟨i,hi,a,xs,ds,ho,rfl,e,hx,hr⟩
 ·cases r with
  | lst e k q=>exact ⟨_,_,rfl,SqL.of e,fun H2 hk=>⟨SqL.of (hk _ _ e (fun i z=>absurd z (k.1 i)) k.2),RAs.keep hk R.ownL R.ownC (fun b z=>z.1) q.track⟩⟩
  | lsk e k q=>exact ⟨_,_,rfl,e.sq,fun H2 hk=>⟨SqK.sq (by
   rcases e with ⟨o,e⟩ | e
   ·exact .inl ⟨o,hk _ _ e (nm R.ownL e (by intro xs z;cases z)) (nm2 R.ownC e Chg.frz)⟩
   ·exact .inr e),RAs.keep hk R.ownL R.ownC (fun b z=>z.1) q.track⟩⟩
 ·cases e
  exact ⟨a,xs,rfl,SqL.of hx,fun H2 hk=>⟨SqL.of (hk _ _ hx (fun j z=>by rw [R.inj j i a z ho];exact hi) (fun j z=>R.ns j i a z ho)),RAs.keep hk R.ownL R.ownC (fun b z=>z.1) hr.track⟩⟩
theorem iU {tg:Expr} {L:List Nat} (h:DE X fl (.B L) e f):DI X fl L tg e (lB f):=PI.imp (Dq h) fun σ H R' h=>by
 obtain ⟨G,ow,δ,l,R,hf,q⟩:=h
 obtain ⟨d,e1,e2⟩:=bind1 hf
 cases d <;> first | (cases e2;done) | skip
 cases e2
 refine ⟨G,ow,δ,_,R,e1,fun v H1 s r=>?_⟩
 obtain ⟨a,xs,rfl,hx,keep⟩:=Bf (R.grow s) r
 refine ⟨a,rfl,⟨xs,hx⟩,q _ _ s fun H2 k2 i=>?_⟩
 obtain ⟨k3,k4⟩:=keep H2 k2
 refine ⟨fun d hd=>?_,fun hl=>⟨xs,k3,by rw [k4.length];exact hl⟩⟩
 obtain ⟨y,hy,ry⟩:=k4.get hd
 refine ⟨⟨xs,y,k3,hy⟩,fun x H3 hyl=>?_⟩
 obtain ⟨e,hz⟩:=hyl
 subst e
 have:some y=some x:=hy.symm.trans (hz xs k3)
 cases this
 exact ⟨Same.refl _,ry⟩
theorem H_ (lo hi:Int):(jK lo hi).length=(hi - lo).toNat:=by simp [jK]
theorem Ia {K:PySem.W.Frag} {ow:Ow} {L:List Nat} {H1:Hp} (lo hi:Int):O6 K ow L H1 (Itr lo (hi - lo).toNat) (jK lo hi):=by
 intro H2 _ i
 refine ⟨fun d hd=>?_,fun hl=>by rw [H_] at hl;exact hl⟩
 unfold jK at hd
 rw [bx] at hd
 by_cases hi':i < (hi - lo).toNat
 ·rw [cR hi'] at hd
  cases hd
  refine ⟨hi',fun x H3 hy=>?_⟩
  obtain ⟨e,e2⟩:=hy
  subst e e2
  exact ⟨Same.refl _,.int _⟩
 ·rw [bD (by simpa using hi')] at hd
  cases hd
theorem Dw {i:Int} (h:uO i=true) : -(2 ^ 62) ≤ i∧i < 2 ^ 62:=by
 unfold uO at h
 rw [aU] at h
 exact ⟨of_decide_eq_true h.1,of_decide_eq_true h.2⟩
theorem m9 {tg:Expr} {L:List Nat} {p:Pos} {fa:FA} (hg:Gl X "range") (hm:X.mg "range" = none) (h:DA X fl [a] fa) (hs:starEach [a] X.env=[(false,eval a X.env)]:=by rfl):DI X fl L tg (.Call (.Name "range" p) [a] [] pos) (tK fa) :=
 PI.imp (Ew hg hm h hs) fun σ H R' h=>by
 obtain ⟨G,ow,δ,l,R,hf,q⟩:=h
 obtain ⟨ds,e1,e2⟩:=bind1 hf
 split at e2
 ·next j =>
  by_cases z:uO j=true
  ·rw [if_pos z] at e2
   cases e2
   refine ⟨G,ow,δ,_,R,e1,fun vs H1 s r=>?_⟩
   cases r with
   | cons r1 r2 =>
    cases r2
    obtain rfl:=r1.intE
    refine ⟨j,rfl,(Dw z).1,(Dw z).2,?_⟩
    have w:=Ia (K:=X.K) (ow:=ow) (L:=L) (H1:=H1) 0 j
    rw [qW] at w
    exact q _ _ s w
  ·rw [if_neg z] at e2
   cases e2
 ·cases e2
def lock (L:List Nat) (fl:List Fl):List Fl:=fl.mapIdx fun i x=>if x = .O∧i ∈ L then .L else x
theorem kh {L:List Nat} {i:Nat}:(lock L fl)[i]? = (fl[i]?).map fun x=>if x = .O∧i ∈ L then .L else x:=by
 unfold lock
 rw [iZ]
theorem Ie {L:List Nat} {i:Nat}:(lock L fl)[i]? = some .A↔fl[i]? = some .A:=by
 rw [kh]
 cases h:fl[i]? with
 | none=>simp
 | some x =>
  cases x <;> simp
  by_cases z:i ∈ L <;> simp [z]
theorem yj {L:List Nat} {i:Nat} (h:(lock L fl)[i]? = some .O):fl[i]? = some .O∧i ∉ L:=by
 rw [kh] at h
 cases e:fl[i]? with
 | none=>rw [e] at h;simp at h
 | some x =>
  rw [e] at h
  cases x <;> simp at h
  by_cases z:i ∈ L
  ·simp [z] at h
  ·exact ⟨rfl,z⟩
theorem Bg {L:List Nat} {i:Nat} (h:fl[i]? = some .L):(lock L fl)[i]? = some .L:=by
 rw [kh,h]
 simp
theorem Dy {L:List Nat} {i:Nat} (h:fl[i]? = some .O) (hi:i ∈ L):(lock L fl)[i]? = some .L:=by
 rw [kh,h]
 simp [hi]
theorem Dz {L:List Nat} {i:Nat} (h:fl[i]? = some .O) (hi:i ∉ L):(lock L fl)[i]? = some .O:=by
 rw [kh,h]
 simp [hi]
theorem yq {L:List Nat} {i:Nat}:(lock L fl)[i]? = some .N↔fl[i]? = some .N:=by
 rw [kh]
 cases h:fl[i]? with
 | none=>simp
 | some x =>
  cases x <;> simp
  by_cases z:i ∈ L <;> simp [z]
theorem Bh {L:List Nat} {i:Nat}:(lock L fl)[i]? = some .M↔fl[i]? = some .M:=by
 rw [kh]
 cases h:fl[i]? with
 | none=>simp
 | some x =>
  cases x <;> simp
  by_cases z:i ∈ L <;> simp [z]
theorem m_ {L:List Nat} {i:Nat}:isN (lock L fl)[i]? = isN fl[i]?:=by
 rw [kh]
 cases h:fl[i]? with
 | none=>rfl
 | some x =>
  cases x <;> simp [isN]
  by_cases z:i ∈ L <;> simp [z]
def Let (fl':List Fl) (ow:Ow) (b:Addr):Prop:=(∃ j,ow j=some b∧fl'[j]? = some .O)∨∃ j,b ∈ ow.n j∧fl'[j]? = some .N
open Classical in
noncomputable def ghL (fl':List Fl) (G:Gh) (ow:Ow) (H:Hp):Gh:=⟨G.H0,fun b=>if Let fl' ow b then none else H b,ow,ow.n,G.tb⟩
open Classical in
theorem jY {fl':List Fl} {G:Gh} {ow:Ow} {H:Hp} {b:Addr} (h:¬ Let fl' ow b):(ghL fl' G ow H).HF b=H b:=by
 unfold ghL
 dsimp only
 rw [if_neg h]
open Classical in
theorem Bj {fl':List Fl} {G:Gh} {ow:Ow} {H:Hp} {b:Addr} (h:Let fl' ow b):(ghL fl' G ow H).HF b=none:=by
 unfold ghL
 dsimp only
 rw [if_pos h]
theorem Rel.lock {K:PySem.W.Frag} {G:Gh} {ow:Ow} {σ:St} {H:Hp} {δ:DS} (L:List Nat) (R:Rel K fl G ow σ H δ):Rel K (lock L fl) (ghL (lock L fl) G ow H) ow σ H δ:=by
 refine ⟨fun b o hb=>?_,fun b o hb=>?_,R.len,fun i a h=>?_,R.inj,fun i h=>rfl,fun i d h1 hn h2=>R.dat i d h1 (by rw [m_] at hn;exact hn) h2,fun i d h1 hn h2 h3=>R.oo i d h1 (by rw [m_] at hn;exact hn) (fun z=>h2 (Ie.mpr z)) h3,fun i a h=>?_,R.nd,R.ns,fun i h=>rfl,fun i d hn h1=>R.nr i d (by rw [m_] at hn;exact hn) h1⟩
 ·have hb':G.H0 b=some o:=hb
  rw [jY]
  ·exact R.same0 b o hb'
  ·rintro (⟨j,e,_⟩ | ⟨j,e,_⟩)
   ·have:=(R.own j b e).1
    rw [hb'] at this
    cases this
   ·have:=(R.nt j b e).1
    rw [hb'] at this
    cases this
 ·by_cases z:Let (D3.lock L fl) ow b
  ·rw [Bj z] at hb;cases hb
  ·rw [jY z] at hb;exact hb
 ·obtain ⟨h0,hf,xs,ds,h1,h2,h3,h4⟩:=R.own i a h
  refine ⟨h0,?_,xs,ds,h1,h2,h3,h4⟩
  have out:(D3.lock L fl)[i]? = some .L→(ghL (D3.lock L fl) G ow H).HF a=H a:=fun hl=>jY (by
   rintro (⟨j,e,hj⟩ | ⟨j,e,hj⟩)
   ·rw [R.inj j i a e h,hl] at hj
    cases hj
   ·exact R.ns j i a e h)
  rcases hf with ⟨hf,_⟩ | ⟨hf,_⟩
  ·by_cases hi:i ∈ L
   ·exact .inr ⟨Dy hf hi,xs,by rw [out (Dy hf hi)];exact h2⟩
   ·exact .inl ⟨Dz hf hi,Bj (.inl ⟨i,h,Dz hf hi⟩)⟩
  ·exact .inr ⟨Bg hf,xs,by rw [out (Bg hf)];exact h2⟩
 ·obtain ⟨g1,g2,g3⟩:=R.nt i a h
  refine ⟨g1,g2,?_⟩
  rcases g3 with ⟨z,_⟩ | z
  ·exact .inl ⟨yq.mpr z,Bj (.inr ⟨i,h,yq.mpr z⟩)⟩
  ·exact .inr (Bh.mpr z)
theorem Rel.unlock {K:PySem.W.Frag} {G:Gh} {ow ow':Ow} {σ σ':St} {H H':Hp} {δ δ':DS} {L:List Nat} (R:Rel K fl G ow σ H δ) (R':Rel K (D3.lock L fl) (ghL (D3.lock L fl) G ow H) ow' σ' H' δ'):Rel K fl G ow' σ' H' δ':=by
 have sub:Same G.HF (ghL (D3.lock L fl) G ow H).HF:=fun b o hb=>by
  rw [jY]
  ·exact R.s1 b o hb
  ·rintro (⟨j,e,hj⟩ | ⟨j,e,hj⟩)
   ·rcases (R.own j b e).2.1 with ⟨_,z⟩ | ⟨z,_⟩
    ·rw [hb] at z;cases z
    ·have:=(yj hj).1
     rw [z] at this
     cases this
   ·rcases (R.nt j b e).2.2 with ⟨_,z⟩ | z
    ·rw [hb] at z;cases z
    ·have:=yq.mp hj
     rw [z] at this
     cases this
 refine ⟨R.s0,sub.trans R'.s1,R'.len,fun i a h=>?_,R'.inj,fun i h=>?_,fun i d h1 hn h2=>R'.dat i d h1 (by rw [m_];exact hn) h2,fun i d h1 hn h2 h3=>R'.oo i d h1 (by rw [m_];exact hn) (fun z=>h2 (Ie.mp z)) h3,fun i a h=>?_,R'.nd,R'.ns,fun i h=>?_,fun i d hn h1=>R'.nr i d (by rw [m_];exact hn) h1⟩
 ·obtain ⟨h0,hf,rest⟩:=R'.own i a h
  refine ⟨h0,?_,rest⟩
  rcases hf with ⟨hf,hz⟩ | ⟨hf,_⟩
  ·exact .inl ⟨(yj hf).1,sub.free hz⟩
  ·have e:ow' i=ow i:=R'.pin i hf
   rw [e] at h
   exact (R.own i a h).2.1
 ·have e:ow' i=ow i:=R'.pin i (Bg h)
  rw [e]
  exact R.pin i h
 ·obtain ⟨g1,g2,g3⟩:=R'.nt i a h
  rcases g3 with ⟨z,hz⟩ | z
  ·exact ⟨g1,g2,.inl ⟨yq.mp z,sub.free hz⟩⟩
  ·exact ⟨g1,g2,.inr (Bh.mp z)⟩
 ·have e:ow'.n i=ow.n i:=R'.np i (Bh.mpr h)
  rw [e]
  exact R.np i h
theorem mz {tg iter:Expr} {L:List Nat} {T:List Nat} {fi:FA} {g:FG} (hp:PassesOwn (model X.prog X.w) X.A X.env X.xe) (hc:X.calm=true) (hi:DI X fl L tg iter fi) (hg:DG X (lock L fl) T tg g) (hb:DSs X (lock L fl) body fs)
 (hs:∀ x,foldedSetIterable iter X.env x=pure x:=by intro _;rfl):DS1 X fl (.For tg iter body [] pos) (pO fi g fs):=PS.imp (Hj hp hc hi hg hb hs) fun Dn σ H h=>by
 obtain ⟨G,ow,δ,o,R0,hf,q⟩:=h
 obtain ⟨l,e1,e2⟩:=bind1 hf
 refine ⟨G,ow,δ,l,R0,e1,fun J H1 s wk=>?_⟩
 have R1:=R0.grow s
 have RL:=R1.lock L
 refine ⟨fun i m σ' H'=>m=l.length - i∧∃ ow' δ',Rel X.K (lock L fl) (ghL (lock L fl) G ow H1) ow' σ' H' δ'∧gR g fs (l.drop i) δ'=some o,⟨_,rfl,ow,δ,RL,by simpa using e2⟩,?_⟩
 rintro i m σ' H' ⟨rfl,ow',δ',R',hd⟩
 have kept:∀ b o,H1 b=some o→(∀ i,ow i=some b→i ∈ L)→(∀ i,b ∉ ow.n i)→H' b=some o:=fun b o hb hl hn=>R'.s1 b o (by
  rw [jY]
  ·exact hb
  ·rintro (⟨j,e,hj⟩ | ⟨j,e,_⟩)
   ·exact (yj hj).2 (hl j e)
   ·exact hn j e)
 obtain ⟨w1,w2⟩:=wk H' kept i
 by_cases hlt:i < l.length
 ·have hdrop:l.drop i=l[i] :: l.drop (i + 1):=ji hlt
  rw [hdrop,gR] at hd
  obtain ⟨δ1,e3,hd⟩:=bind1 hd
  obtain ⟨o1,e4,hd⟩:=bind1 hd
  obtain ⟨go,yl⟩:=w1 l[i] (bf hlt)
  refine .inr ⟨go,fun σ' H'=>∃ ow' δ',Rel X.K (lock L fl) (ghL (lock L fl) G ow H1) ow' σ' H' δ'∧gR g fs (l.drop (i + 1)) δ'=some o,fun σ2 H2 ⟨ow2,δ2,R2,h2⟩=>⟨l.length - (i + 1),by omega,rfl,ow2,δ2,R2,h2⟩,fun x H3 hy=>?_⟩
  obtain ⟨s3,r3⟩:=yl x H3 hy
  have sub:∀ b,okA ow b∧H1 b ≠ none→okA ow' b:=fun b z=>by
   obtain ⟨z1,z2⟩:=z
   refine ⟨fun j e=>?_,fun j e=>?_⟩
   ·rcases (R'.own j b e).2.1 with ⟨_,hz⟩ | ⟨hz,_⟩
    ·have:(ghL (lock L fl) G ow H1).HF b=H1 b:=jY (by rintro (⟨j',e',_⟩ | ⟨j',e',_⟩);exact z1.1 j' e';exact z1.2 j' e')
     rw [this] at hz
     exact z2 hz
    ·have e':ow' j=ow j:=R'.pin j hz
     rw [e'] at e
     exact z1.1 j e
   ·rcases (R'.nt j b e).2.2 with ⟨_,hz⟩ | w
    ·have:(ghL (lock L fl) G ow H1).HF b=H1 b:=jY (by rintro (⟨j',e',_⟩ | ⟨j',e',_⟩);exact z1.1 j' e';exact z1.2 j' e')
     rw [this] at hz
     exact z2 hz
    ·have e':ow'.n j=ow.n j:=R'.np j w
     rw [e'] at e
     exact z1.2 j e
  refine ⟨_,ow',δ',_,δ1,R'.grow s3,r3.imp sub (fun z=>z),e3,fun σ4 R4 _=>⟨_,ow',δ1,o1,R4,e4,?_⟩⟩
  ·cases o1 with
   | nx δ2=>exact fun ow2 σ2 H2 R2=>⟨ow2,δ2,R2,hd⟩
   | ct δ2=>exact fun ow2 σ2 H2 R2=>⟨ow2,δ2,R2,hd⟩
   | bk δ2=>cases hd;exact fun ow2 σ2 H2 R2=>q ow2 σ2 H2 (R1.unlock R2)
   | rt d=>cases hd;exact q
   | ex c f v=>cases hd;exact q
 ·have e:l.drop i=[]:=jJ (by omega)
  rw [e,gR] at hd
  cases hd
  exact .inl ⟨w2 (by omega),q ow' σ' H' (R1.unlock R')⟩
end
end D3
namespace D3
open PySem PySem.Spec PyProof.Rows L2 My
def notStar:Expr→Bool
 | .Starred _ _=>false
 | _=>true
theorem fD {e:Expr} {es:List Expr} {env:Env} (h:notStar e=true):starEach (e :: es) env=(false,eval e env) :: starEach es env:=by
 cases e <;> first | rfl | cases h
theorem oZ {es:List Expr} {env:Env} {pos:Pos} (h:es.all notStar=true):(backTo pos (starEach es env)).any (·.1)=false:=by
 induction es with
 | nil=>rfl
 | cons e es ih =>
  rw [List.all_cons,aU] at h
  rw [fD h.1]
  have:=ih h.2
  unfold backTo at this ⊢
  rw [bH,iQ,this]
  rfl
def isR:Kd→Bool
 | .P=>true
 | .A=>true
 | .R=>true
 | .C=>true
 | _=>false
def Ft (H0:Hp) (ow:Ow) (Hb:Hp):Kd→Ok
 | .P=>ok1
 | .A=>okA ow
 | .R=>okN H0
 | _=>okN Hb
def Lj:Kd→Bool
 | .P=>true
 | .A=>true
 | _=>false
section
variable {K:PySem.W.Frag} {H0 Hb Hc H:Hp} {ow:Ow} {v:V} {d:D} {k:Kd}
theorem Rs.ra (hk:isR k=true) (h:Rs K H0 ow Hb H k v d):RA K (Ft H0 ow Hb k) (Lj k) H v d:=by
 cases k <;> first | exact h | cases hk
theorem Rs.of_ra (hk:isR k=true) (h:RA K (Ft H0 ow Hb k) (Lj k) H v d):Rs K H0 ow Hb H k v d:=by
 cases k <;> first | exact h | cases hk
theorem wL (s:Same Hb Hc) (hk:isR k=true):∀ a,Ft H0 ow Hc k a→Ft H0 ow Hb k a:=fun a z=>by
 cases k <;> first | exact z | exact s.free z | cases hk
theorem Rs.of_flat (hf:flat d=true) (h:RA K ok0 false H v d):Rs K H0 ow Hb H k v d:=by
 cases k with
 | P=>exact RA.flat hf h
 | B L=>exact .inl (RA.flat hf h)
 | A=>exact RA.flat hf h
 | R=>exact RA.flat hf h
 | F=>exact .inl ⟨hf,h⟩
 | C=>exact RA.flat hf h
 | FC=>exact .inl ⟨hf,h⟩
 | T =>
  obtain ⟨as,h1,_,h3⟩:=RA.rt h
  cases as with
  | nil=>exact ⟨[],h1,.nil,fun _ z=>by cases z⟩
  | cons a r=>exact (h3 a aG).elim
theorem Rs.back (s:Same Hb Hc) (h:Rs K H0 ow Hc H k v d):Rs K H0 ow Hb H k v d:=by
 cases k with
 | P=>exact h
 | B L=>exact h
 | A=>exact h
 | R=>exact h
 | F =>
  rcases h with h | ⟨a,xs,ds,h1,h2,h3,h4⟩
  ·exact .inl h
  ·exact .inr ⟨a,xs,ds,h1,h2,s.free h3,h4⟩
 | C=>exact RA.imp (fun a z=>s.free z) (fun z=>z) h
 | FC =>
  rcases h with h | ⟨a,xs,ds,h1,h2,h3,h4,h5⟩
  ·exact .inl h
  ·exact .inr ⟨a,xs,ds,h1,h2,s.free h3,h4,h5.imp (fun b z=>⟨s.free z.1,z.2⟩) (fun z=>z)⟩
 | T =>
  obtain ⟨as,h1,h2,h3⟩:=h
  exact ⟨as,h1,h2,fun a z=>s.free (h3 a z)⟩
end
def tDB (K:PySem.W.Frag) (fl:List Fl) (k:Kd) (f:FA):TA:=fun σ H Q=>∃ G ow δ ds,Rel K fl G ow σ H δ∧f δ=some ds∧∀ vs H',Same H H'→RAs K (Ft G.H0 ow H k) (Lj k) H' vs ds→Q vs H'
abbrev DB (X:Cx) (fl:List Fl) (k:Kd) (es:List Expr) (f:FA):Prop:=PA X es (tDB X.K fl k f)
section
variable {X:Cx} {fl:List Fl} {e a b c:Expr} {es rest:List Expr} {k:Kd} {f fa fb fc:FE} {ft gt:FT} {pos:Pos}
theorem Ig:DB X fl k [] aJ:=PA.imp lZ fun σ H Q h=>by
 obtain ⟨G,ow,δ,ds,R,hf,q⟩:=h
 cases hf
 exact q [] H (Same.refl H) .nil
theorem Lk {fr:FA} (hk:isR k=true) (h:DE X fl k e f) (hr:DB X fl k es fr) (hs:starEach (e :: es) X.env=(false,eval e X.env) :: starEach es X.env:=by exact fD rfl):DB X fl k (e :: es) (aj f fr):=PA.imp (iu h hr hs) fun σ H Q h=>by
 obtain ⟨G,ow,δ,ds,R,hf,q⟩:=h
 obtain ⟨d,e1,hf⟩:=bind1 hf
 obtain ⟨r,e2,hf⟩:=bind1 hf
 cases hf
 refine ⟨G,ow,δ,d,R,e1,fun v H1 s1 r1=>⟨G,ow,δ,r,R.grow s1,e2,fun vs H2 s2 r2=>?_⟩⟩
 exact q _ H2 (s1.trans s2) (.cons ((r1.ra hk).same s2) (r2.imp (wL s1 hk) (fun z=>z)))
theorem zH (h:DB X fl .P es fa'):DA X fl es fa':=PA.imp h fun σ H Q h=>by
 obtain ⟨G,ow,δ,ds,R,hf,q⟩:=h
 exact ⟨G,ow,δ,ds,R,hf,fun vs H' s r=>q vs H' s r⟩
theorem dJ {x1} {fa:FA} (hk:isR k=true) (h:DB X fl k es fa):DE X fl k (.Tuple es x1 pos) (dTup fa):=PE.imp (Hq h) fun σ H Q h=>by
 obtain ⟨G,ow,δ,d,R,hf,q⟩:=h
 obtain ⟨l,e1,e2⟩:=bind1 hf
 by_cases z:l.length ≤ sizeLine
 ·rw [if_pos z] at e2
  cases e2
  refine ⟨G,ow,δ,l,R,e1,fun vs H' s r=>⟨by rw [r.length];exact z,fun p hp=>?_⟩⟩
  have g:=fJ hp (.tup vs)
  exact q _ _ (s.trans g) (Rs.of_ra hk (.tup d7 (r.same g)))
 ·rw [if_neg z] at e2
  cases e2
theorem jh {fa:FA} (h:DB X fl .A es fa):DE X fl .F (.List es pos) (d_ fa):=PE.imp (Ay h) fun σ H Q h=>by
 obtain ⟨G,ow,δ,d,R,hf,q⟩:=h
 obtain ⟨l,e1,e2⟩:=bind1 hf
 by_cases z:l.length ≤ sizeLine
 ·rw [if_pos z] at e2
  cases e2
  refine ⟨G,ow,δ,l,R,e1,fun vs H' s r=>⟨by rw [r.length];exact z,fun p hp=>?_⟩⟩
  have g:=fJ hp (.lst vs)
  exact q _ _ (s.trans g) (.inr ⟨p,vs,l,rfl,rfl,s.free hp,d7,(r.track.imp (fun b w=>⟨w.1,fun e=>w.2 (e ▸ hp)⟩) (fun z=>z)).same g⟩)
 ·rw [if_neg z] at e2
  cases e2
theorem lF {fa:FA} (h:DB X fl .C es fa):DE X fl .FC (.List es pos) (d_ fa):=PE.imp (Ay h) fun σ H Q h=>by
 obtain ⟨G,ow,δ,d,R,hf,q⟩:=h
 obtain ⟨l,e1,e2⟩:=bind1 hf
 by_cases z:l.length ≤ sizeLine
 ·rw [if_pos z] at e2
  cases e2
  refine ⟨G,ow,δ,l,R,e1,fun vs H' s r=>⟨by rw [r.length];exact z,fun p hp=>?_⟩⟩
  have g:=fJ hp (.lst vs)
  exact q _ _ (s.trans g) (.inr ⟨p,vs,l,rfl,rfl,s.free hp,d7,(r.track.imp (fun b w=>⟨w.1,fun e=>w.2 (e ▸ hp)⟩) (fun z=>z)).same g⟩)
 ·rw [if_neg z] at e2
  cases e2
theorem RAs.at {K:PySem.W.Frag} {ok:Ok} {pl:Bool} {H:Hp} {vs:List V} {l:List D} {i:Int} {d:D} (r:RAs K ok pl H vs l) (h:pAt l i=some d):∃ v,atI vs i=some v∧RA K ok pl H v d:=by
 unfold pAt at h
 unfold atI
 obtain ⟨j,e1,e2⟩:=bind1 h
 obtain ⟨y,e3,ry⟩:=r.get e2
 exact ⟨y,by rw [r.length,show ixN l.length i=some j from e1];exact e3,ry⟩
theorem Uu {L:List Nat} (ha:DE X fl (.B L) a fa) (hb:DE X fl .P b fb) (hs:xW b):DE X fl .A (.Subscript a b pos) (dOp gIx fa fb):=PE.imp (Ud QD ha hb hs) fun σ H Q h=>by
 obtain ⟨G,ow,δ,d,R,hf,q⟩:=h
 obtain ⟨x,y,e1,e2,e3⟩:=Du hf
 refine ⟨G,ow,δ,x,R,e1,fun v H1 s1 r1=>⟨G,ow,δ,y,R.grow s1,e2,fun u H2 s2 r2=>?_⟩⟩
 unfold gIx at e3
 split at e3
 ·next l i =>
  obtain rfl:=RA.intE r2
  rcases r1 with r1 | ⟨i',_,p,xs,ds,ho,rfl,ez,hx,hr⟩
  ·obtain ⟨p,xs,rfl,hx,hr⟩:=RA.lstE (RA.same s2 r1)
   obtain ⟨z,ez,rz⟩:=hr.at e3
   exact .inl ⟨p,xs,i,z,rfl,rfl,hx,ez,q z H2 (s1.trans s2) rz⟩
  ·cases ez
   obtain ⟨z,ez,rz⟩:=(hr.same s2).at e3
   exact .inl ⟨p,xs,i,z,rfl,rfl,SqL.of (s2 _ _ hx),ez,q z H2 (s1.trans s2) rz⟩
 ·next l i =>
  obtain rfl:=RA.intE r2
  rcases r1 with r1 | ⟨i',_,p,xs,ds,ho,rfl,ez,hx,hr⟩
  ·obtain ⟨p,xs,rfl,hx,hr⟩:=RA.tupE (RA.same s2 r1)
   obtain ⟨z,ez,rz⟩:=hr.at e3
   exact .inr (.inl ⟨p,xs,i,z,rfl,rfl,hx,ez,q z H2 (s1.trans s2) rz⟩)
  ·cases ez
 ·cases e3
theorem nZ {op:BoolOp} (h:DE X fl k a f):DE X fl k (.BoolOp op [a] pos) f:=Qj h
theorem kY (h1:DE X fl .P a fa) (h2:DE X fl k (.BoolOp .And (b :: rest) pos) fb):DE X fl k (.BoolOp .And (a :: b :: rest) pos) (qg fa fb):=PE.imp (Qk h1 h2) fun σ H Q h=>by
 obtain ⟨G,ow,δ,d,R,hf,q⟩:=h
 obtain ⟨x,e1,e2⟩:=bind1 hf
 refine ⟨G,ow,δ,x,R,e1,fun v H1 s1 r1=>?_⟩
 split at e2
 ·obtain rfl:=RA.blE r1
  exact ⟨true,rfl,vR ⟨G,ow,δ,d,R.grow s1,e2,fun u H2 s2 r2=>q u H2 (s1.trans s2) (r2.back s1)⟩⟩
 ·obtain rfl:=RA.blE r1
  cases e2
  exact ⟨false,rfl,vQ (q _ H1 s1 (Rs.of_flat rfl (.bl _)))⟩
 ·cases e2
theorem Ih (h1:DE X fl .P a fa):DE X fl .FC (.UnaryOp .Not a pos) (HD fa):=PE.imp (Ql h1) fun σ H Q h=>by
 obtain ⟨G,ow,δ,d,R,hf,q⟩:=h
 obtain ⟨x,e1,e2⟩:=bind1 hf
 refine ⟨G,ow,δ,x,R,e1,fun v H1 s1 r1=>?_⟩
 split at e2
 ·next c =>
  obtain rfl:=RA.blE r1
  cases e2
  exact ⟨c,rfl,q _ H1 s1 (Rs.of_flat rfl (.bl _))⟩
 ·cases e2
theorem jL (h:DT X fl a ft):DT X fl (.UnaryOp .Not a pos) (dG ft):=PT.imp (G8 h) fun σ H Q h=>by
 obtain ⟨G,ow,δ,t,R,hf,q⟩:=h
 unfold dG at hf
 cases e:ft δ with
 | none=>rw [e] at hf;cases hf
 | some x =>
  rw [e] at hf
  cases hf
  exact ⟨G,ow,δ,x,R,e,fun H' s=>q H' s⟩
theorem n6 (h:DT X fl a ft):DW X fl (.BoolOp .And [a] pos) ft:=Kz h
theorem ql (h:DT X fl a ft):DW X fl (.BoolOp .Or [a] pos) ft:=G7 h
theorem qm (h1:DT X fl a ft) (h2:DW X fl (.BoolOp .And (b :: rest) pos) gt):DW X fl (.BoolOp .And (a :: b :: rest) pos) (mW ft gt):=PW.imp (Qi h1 h2) fun σ H Q h=>by
 obtain ⟨G,ow,δ,t,R,hf,q⟩:=h
 obtain ⟨x,e1,e2⟩:=bind1 hf
 refine ⟨G,ow,δ,x,R,e1,fun H1 s1=>?_⟩
 cases x with
 | true=>exact vR ⟨G,ow,δ,t,R.grow s1,e2,fun H2 s2=>q H2 (s1.trans s2)⟩
 | false=>cases e2;exact vQ (q H1 s1)
theorem oF (h1:DT X fl a ft) (h2:DW X fl (.BoolOp .Or (b :: rest) pos) gt):DW X fl (.BoolOp .Or (a :: b :: rest) pos) (tOr ft gt):=PW.imp (Oz h1 h2) fun σ H Q h=>by
 obtain ⟨G,ow,δ,t,R,hf,q⟩:=h
 obtain ⟨x,e1,e2⟩:=bind1 hf
 refine ⟨G,ow,δ,x,R,e1,fun H1 s1=>?_⟩
 cases x with
 | true=>cases e2;exact vR (q H1 s1)
 | false=>exact vQ ⟨G,ow,δ,t,R.grow s1,e2,fun H2 s2=>q H2 (s1.trans s2)⟩
theorem rM (h:DW X fl a ft):DT X fl a ft:=PW.pt h
theorem uU {op op':CmpOp} {r r':R2} {g g':D→D→Option D} (ho:OpR X (compareOp op) r) (ho':OpR X (compareOp op') r') (hb:BrO X.K r g) (hb':BrO X.K r' g') (h1:DE X fl .P a fa) (h2:DE X fl .P b fb) (h3:DE X fl .P c fc)
 (hm:lastMarks [op,op'] [b,c]=false:=by with_unfolding_all rfl):DE X fl .FC (.Compare a [op,op'] [b,c] pos) (oW g g' fa fb fc):=PE.imp (Ho ho ho' h1 h2 h3 hm) fun σ H Q h=>by
 obtain ⟨G,ow,δ,d,R,hf,q⟩:=h
 obtain ⟨x,e1,hf⟩:=bind1 hf
 obtain ⟨y,e2,hf⟩:=bind1 hf
 obtain ⟨z,e3,hf⟩:=bind1 hf
 refine ⟨G,ow,δ,x,R,e1,fun v H1 s1 r1=>⟨G,ow,δ,y,R.grow s1,e2,fun u H2 s2 r2=>?_⟩⟩
 refine hb H2 v u x y z _ (RA.same s2 r1) r2 e3 fun zv hz rz=>?_
 split at hf
 ·obtain rfl:=rz.blE
  obtain ⟨w,e4,e5⟩:=bind1 hf
  refine ⟨true,rfl,vR ⟨G,ow,δ,w,R.grow (s1.trans s2),e4,fun wv H3 s3 r3=>?_⟩⟩
  exact hb' H3 u wv y w d Q (RA.same s3 r2) r3 e5 fun z hz rz=>q z H3 (s1.trans (s2.trans s3)) (.inl ⟨hz,rz⟩)
 ·obtain rfl:=rz.blE
  cases hf
  exact ⟨false,rfl,vQ (q _ H2 (s1.trans s2) (.inl ⟨rfl,.bl _⟩))⟩
 ·cases hf
theorem Fv {op op' op'':CmpOp} {r r' r'':R2} {g g' g'':D→D→Option D} {d:Expr} {fd:FE} (ho:OpR X (compareOp op) r) (ho':OpR X (compareOp op') r') (ho'':OpR X (compareOp op'') r'') (hb:BrO X.K r g) (hb':BrO X.K r' g') (hb'':BrO X.K r'' g'') (h1:DE X fl .P a fa) (h2:DE X fl .P b fb) (h3:DE X fl .P c fc) (h4:DE X fl .P d fd)
 (hm:lastMarks [op,op',op''] [b,c,d]=false:=by with_unfolding_all rfl):DE X fl .FC (.Compare a [op,op',op''] [b,c,d] pos) (um g g' g'' fa fb fc fd):=PE.imp (Fe ho ho' ho'' h1 h2 h3 h4 hm) fun σ H Q h=>by
 obtain ⟨G,ow,δ,dd,R,hf,q⟩:=h
 obtain ⟨x,e1,hf⟩:=bind1 hf
 obtain ⟨y,e2,hf⟩:=bind1 hf
 obtain ⟨z,e3,hf⟩:=bind1 hf
 refine ⟨G,ow,δ,x,R,e1,fun v H1 s1 r1=>⟨G,ow,δ,y,R.grow s1,e2,fun u H2 s2 r2=>?_⟩⟩
 refine hb H2 v u x y z _ (RA.same s2 r1) r2 e3 fun zv hz rz=>?_
 split at hf
 ·obtain rfl:=rz.blE
  obtain ⟨w,e4,hf⟩:=bind1 hf
  obtain ⟨z',e5,hf⟩:=bind1 hf
  refine ⟨true,rfl,vR ⟨G,ow,δ,w,R.grow (s1.trans s2),e4,fun wv H3 s3 r3=>?_⟩⟩
  refine hb' H3 u wv y w z' _ (RA.same s3 r2) r3 e5 fun zv' hz' rz'=>?_
  split at hf
  ·obtain rfl:=rz'.blE
   obtain ⟨t,e6,e7⟩:=bind1 hf
   refine ⟨true,rfl,vR ⟨G,ow,δ,t,R.grow (s1.trans (s2.trans s3)),e6,fun tv H4 s4 r4=>?_⟩⟩
   exact hb'' H4 wv tv w t dd Q (RA.same s4 r3) r4 e7 fun z hz rz=>q z H4 (s1.trans (s2.trans (s3.trans s4))) (.inl ⟨hz,rz⟩)
  ·obtain rfl:=rz'.blE
   cases hf
   exact ⟨false,rfl,vQ (q _ H3 (s1.trans (s2.trans s3)) (.inl ⟨rfl,.bl _⟩))⟩
  ·cases hf
 ·obtain rfl:=rz.blE
  cases hf
  exact ⟨false,rfl,vQ (q _ H2 (s1.trans s2) (.inl ⟨rfl,.bl _⟩))⟩
 ·cases hf
theorem Bk {K:PySem.W.Frag} {ok:Ok} {pl:Bool} {H:Hp} {v:V} {d:D} (r:RA K ok pl H v d):decide (v = .non)=isNone d:=by
 cases r <;> rfl
theorem Ln {j pos'} (h:DE X fl .P a f):DE X fl .FC (.Compare a [.IsNot] [.Constant .none j pos'] pos) (dUn mq f):=PE.imp (Qh (Dk h)) fun σ H Q h=>by
 obtain ⟨G,ow,δ,d,R,hf,q⟩:=h
 obtain ⟨x,e1,e2⟩:=bind1 hf
 cases e2
 refine ⟨G,ow,δ,x,R,e1,fun v H1 s1 r1=>?_⟩
 show Q (.bl (!decide (v = .non))) H1
 rw [Bk (RA.same (Same.refl H1) r1)]
 exact q _ H1 s1 (.inl ⟨rfl,.bl _⟩)
def BrC (K:PySem.W.Frag) (r:List V→Hp→VK→Prop) (g:List D→Option D):Prop:=∀ (H:Hp) (xs:List V) (ds:List D) (d:D) (Q:VK),RAs K ok1 true H xs ds→g ds=some d→(∀ v,flat d=true→RA K ok0 false H v d→Q v H)→r xs H Q
theorem dM {id:String} {r:List V→Hp→VK→Prop} {g:List D→Option D} {x:Str} {p:Pos} {fa:FA} (hc:mL X (.builtin id) r) (hb:BrC X.K r g) (hg:Gl X x) (hm:X.mg x=none) (hv:bootBuiltins x=some (.builtin id)) (ha:DB X fl .P (e :: es) fa) (hn:x ≠ "__name__" := by decide) (hdb:(x == ("__debug__" : Str))=false:=by decide)
 (he:starEach (e :: es) X.env=(false,eval e X.env) :: starEach es X.env:=by exact fD rfl) (hpl:(backTo pos (starEach es X.env)).any (·.1)=false:=by exact oZ rfl):DE X fl .FC (.Call (.Name x p) (e :: es) [] pos) (dCall g fa) :=
 PE.imp (oU hc hg hm hv ha hn hdb he hpl) fun σ H Q h=>by
 obtain ⟨G,ow,δ,d,R,hf,q⟩:=h
 obtain ⟨ds,e1,e2⟩:=bind1 hf
 exact ⟨G,ow,δ,ds,R,e1,fun vs H' s r'=>hb H' vs ds d Q r' e2 fun v hv rv=>q v H' s (.inl ⟨hv,rv⟩)⟩
theorem ju {K:PySem.W.Frag}:BrC K (fun xs H Q=>∃ p ys,xs=[.ref p]∧(SqL K H p ys∨SqT K H p ys)∧Q (.int ys.length) H) jB:=by
 intro H xs ds d Q r e q
 unfold jB at e
 split at e
 ·next l =>
  cases e
  cases r with
  | cons r1 r2 =>
   cases r2
   obtain ⟨a,ys,rfl,hx,hr⟩:=r1.lstE
   refine ⟨a,ys,rfl,.inl hx,?_⟩
   rw [hr.length]
   exact q _ rfl (.int _)
 ·next l =>
  cases e
  cases r with
  | cons r1 r2 =>
   cases r2
   obtain ⟨a,ys,rfl,hx,hr⟩:=r1.tupE
   refine ⟨a,ys,rfl,.inr hx,?_⟩
   rw [hr.length]
   exact q _ rfl (.int _)
 ·cases e
theorem qp {K:PySem.W.Frag}:BrC K (fun xs H Q=>∃ i j,xs=[.int i,.int j]∧Q (.int (if j > i then j else i)) H) oE:=by
 intro H xs ds d Q r e q
 unfold oE at e
 split at e
 ·cases e
  cases r with
  | cons r1 r2 =>
   cases r2 with
   | cons r2 r3 =>
    cases r3
    obtain rfl:=r1.intE
    obtain rfl:=r2.intE
    exact ⟨_,_,rfl,q _ rfl (.int _)⟩
 ·cases e
theorem qt {K:PySem.W.Frag}:BrC K (fun xs H Q=>∃ i j,xs=[.int i,.int j]∧Q (.int (if j < i then j else i)) H) pW:=by
 intro H xs ds d Q r e q
 unfold pW at e
 split at e
 ·cases e
  cases r with
  | cons r1 r2 =>
   cases r2 with
   | cons r2 r3 =>
    cases r3
    obtain rfl:=r1.intE
    obtain rfl:=r2.intE
    exact ⟨_,_,rfl,q _ rfl (.int _)⟩
 ·cases e
theorem Lp (d:D):tyD d = "NoneType" ∨ tyD d = "bool" ∨ tyD d = "int" ∨ tyD d = "str" ∨ tyD d = "list" ∨ tyD d = "tuple" ∨ tyD d = "dict" := by
 cases d <;> simp [tyD]
def WK (K:PySem.W.Frag):List V→Hp→VK→Prop:=fun xs H Q=>∃ x c d,xs=[x,.ty c]∧(c = "int" ∨ c = "bool" ∨ c = "tuple" ∨ c = "list" ∨ c = "str")∧RA K ok1 true H x d∧Q (.bl (isT c (tyD d))) H
theorem Ii:mL X (.builtin "isinstance") (WK X.K):=by
 intro pins s σ H xs us Q I r h
 obtain ⟨x,c,d,rfl,hc,ra,q⟩:=h
 obtain ⟨u,w',rfl,rx,rc⟩:=vals2 r
 cases rc
 have kn:=QK (K:=X.K) hc (Lp d)
 have fin:∀ tk,EP X pins σ Q (.bool (isT c (tyD d))) { s with toks:=tk }:=fun tk=>⟨.bl _,H,I.tok _,rfl,q⟩
 cases ra with
 | non=>cases (show u=Value.none from rx);exact PySem.W.kia_one PySem.W.kitx_none I.kIn True.intro kn (fun z=>nomatch z) fin
 | bl b=>cases (show u=Value.bool b from rx);exact PySem.W.kia_one PySem.W.kitx_bool I.kIn True.intro kn (fun z=>nomatch z) fin
 | int i=>obtain ⟨t,z⟩:=(show ∃ t,u=Value.int i t from rx);cases z;exact PySem.W.kia_one PySem.W.kitx_int I.kIn True.intro kn (fun z=>nomatch z) fin
 | str y=>obtain ⟨t,z⟩:=(show ∃ t,u=Value.str y t from rx);cases z;exact PySem.W.kia_one PySem.W.kitx_str I.kIn True.intro kn (fun z=>nomatch z) fin
 | @lst a xs ds e k q' =>
  cases (show u=Value.ref a from rx)
  obtain ⟨its,_,⟨o,n,e1,e2,_⟩,_⟩:=I.list (SqL.of e)
  exact PySem.W.kia_one PySem.W.kitx_list I.kIn ⟨_,e1,e2⟩ kn (fun z=>nomatch z) fin
 | @lsk a xs ds e k q' =>
  cases (show u=Value.ref a from rx)
  obtain ⟨its,_,⟨o,n,e1,e2,_⟩,_⟩:=I.list e.sq
  exact PySem.W.kia_one PySem.W.kitx_list I.kIn ⟨_,e1,e2⟩ kn (fun z=>nomatch z) fin
 | @tup a xs ds e q' =>
  cases (show u=Value.ref a from rx)
  obtain ⟨its,_,⟨o,e1,e2,_⟩,_⟩:=I.tuple e.sq
  exact PySem.W.kia_one PySem.W.kitx_tuple I.kIn ⟨_,e1,e2⟩ kn (fun z=>nomatch z) fin
 | @dic a u0 kvs e g k =>
  rcases g.or with ⟨ks,z⟩ | ⟨ks,z⟩
  ·rw [z] at e;exact wD I rx (TyOf.dK e) kn fin
  ·rw [z] at e;exact wD I rx (TyOf.dT e) kn fin
 | @dik a u0 kvs ob e g k =>
  cases (show u=Value.ref a from rx)
  have ob:=(show gB X.prog X.w H s.heap a u0 from (show L2.Rd H a u0 from .inr ⟨_,e⟩).ok I.hok)
  rcases g.or with ⟨ks,z⟩ | ⟨ks,z⟩
  ·rw [z] at ob
   obtain ⟨_,_,vs,_,dd⟩:=ob
   obtain ⟨o1,_,_,h1,h2,_⟩:=dd
   exact PySem.W.kia_one PySem.W.kitx_dict I.kIn ⟨_,h1,h2.1⟩ kn (fun z=>nomatch z) fin
  ·rw [z] at ob
   obtain ⟨_,_,xs,_,o1,_,_,h1,h2,_⟩:=ob
   exact PySem.W.kia_one PySem.W.kitx_dict I.kIn ⟨_,h1,h2.1⟩ kn (fun z=>nomatch z) fin
theorem o7 {T:String} {x:Str} {p p':Pos} (hc:T = "int" ∨ T = "bool" ∨ T = "tuple" ∨ T = "list" ∨ T = "str") (h:DE X fl .P a f) (hg:Gl X "isinstance") (hm:X.mg "isinstance" = none) (hg':Gl X x) (hm':X.mg x=none) (hv':bootBuiltins x=some (.type T))
 (hn':x ≠ "__name__" := by decide) (hd':(x == ("__debug__" : Str))=false:=by decide)
 (he:starEach [a,.Name x p'] X.env=(false,eval a X.env) :: starEach [.Name x p'] X.env:=by rfl) (he2:starEach [.Name x p'] X.env=(false,eval (.Name x p') X.env) :: starEach [] X.env:=by rfl) (hpl:(backTo pos (starEach [.Name x p'] X.env)).any (·.1)=false:=by rfl) :
 DE X fl .FC (.Call (.Name "isinstance" p) [a,.Name x p'] [] pos) (dUn (gIs T) f) :=
 PE.imp (oU Ii hg hm boot_isinstance (iu h (iu (Dj (v:=.ty T) hg' hm' hv' rfl hn' hd') lZ he2) he) (by decide) (by decide) he hpl) fun σ H Q h=>by
 obtain ⟨G,ow,δ,d,R,hf,q⟩:=h
 obtain ⟨x,e1,e2⟩:=bind1 hf
 cases e2
 exact ⟨G,ow,δ,x,R,e1,fun v H1 s1 r1=>⟨v,T,x,rfl,hc,r1,q _ H1 s1 (.inl ⟨rfl,.bl _⟩)⟩⟩
theorem Ij (h:DE X fl .P a f):DE X fl .FC (.UnaryOp .USub a pos) (dUn HN f):=PE.imp (T_ Qx h) fun σ H Q h=>by
 obtain ⟨G,ow,δ,d,R,hf,q⟩:=h
 obtain ⟨x,e1,e2⟩:=bind1 hf
 refine ⟨G,ow,δ,x,R,e1,fun v H1 s1 r1=>?_⟩
 unfold HN at e2
 split at e2
 ·cases e2
  obtain rfl:=RA.intE r1
  exact ⟨_,rfl,q _ H1 s1 (.inl ⟨rfl,.int _⟩)⟩
 ·cases e2
end
def spD (K:PySem.W.Frag) (F:List D→Option D):Sp:=fun vs H Q _=>∃ ds d,(Tb H∧RAs K ok1 true H vs ds)∧F ds=some d∧∀ v H',Same H H'→RA K (okN H) false H' v d→Q v H'
section
variable {P:Program} {w:World} {K:PySem.W.Frag} {mg:Str→Option Value} {base:Heap} {x:Str} {ps N:List Str} {st:Stmt} {k n:Nat} {fs:FS} {fl:List Fl}
theorem iR {vs:List V} {ds:List D} {H:Hp} (p:Nat) (hp:∀ i,i < p→fl[i]? = some .A) (hl:ds.length=p) (hN:p ≤ N.length) (r':Tb H∧RAs K ok1 true H vs ds) :
 Rel K fl ⟨H,H,fun _=>none,fun _=>[],r'.1⟩ ow0 (L2.start N vs) H (ds.map (fun d=>some (.d d))++aK (N.length - p) none):=by
 have r:=r'.2
 have hv:vs.length=p:=by rw [r.length];exact hl
 have get:∀ i d,(ds.map (fun d=>some (U.d d))++aK (N.length - p) none)[i]? = some (some (.d d))→i < p∧ds[i]? = some d:=fun i d h=>by
  by_cases hi:i < p
  ·rw [dR (by rw [aL,hl];exact hi),bx] at h
   cases e:ds[i]? with
   | none=>rw [e] at h;cases h
   | some z=>rw [e] at h;cases h;exact ⟨hi,rfl⟩
  ·rw [dF (by rw [aL,hl];omega),dB] at h
   split at h <;> cases h
 refine ⟨Same.refl H,Same.refl H,?_,fun i a h=>(by cases h),fun i j a h=>(by cases h),fun i h=>rfl,fun i d h _ _=>?_,fun i d h _ h2 _=>?_,fun i a h=>(by cases h),fun i j a h=>(by cases h),fun i j a h=>(by cases h),fun i h=>rfl,fun i d hn h=>?_⟩
 ·unfold L2.start
  simp only [bK,aL,bW,hv,hl]
 ·obtain ⟨hi,e⟩:=get i d h
  obtain ⟨v,e1,e2⟩:=r.get e
  refine ⟨v,?_,e2.imp (fun _ _=>⟨fun i z=>(by cases z),fun i z=>(by cases z)⟩) (fun z=>z)⟩
  unfold L2.start
  rw [dR (by rw [aL,hv];exact hi),bx,e1]
  rfl
 ·exact absurd (hp i (get i d h).1) h2
 ·rw [hp i (get i d h).1] at hn
  cases hn
end
section
variable {X:Cx} {fl:List Fl} {e:Expr} {es:List Expr} {pos p:Pos} {x:Str} {ps:List Str} {n:Nat} {F:List D→Option D} {fa:FA}
theorem bB (h:Has X.prog X.w X.K X.mg X.base n x ps (spD X.K F)) (hr:Room n X.A) (ha:DB X fl .P (e :: es) fa) (hg:Gl X x:=by rfl) (hdb:(x == ("__debug__" : Str))=false:=by decide)
 (he:starEach (e :: es) X.env=(false,eval e X.env) :: starEach es X.env:=by exact fD rfl) (hpl:(backTo pos (starEach es X.env)).any (·.1)=false:=by exact oZ rfl) :
 DE X fl .C (.Call (.Name x p) (e :: es) [] pos) (dCall F fa):=PE.imp (zB h hr ha hg hdb he hpl) fun σ H Q h=>by
 obtain ⟨G,ow,δ,d,R,hf,q⟩:=h
 obtain ⟨ds,e1,e2⟩:=bind1 hf
 refine ⟨G,ow,δ,ds,R,e1,fun vs H' s r=>?_⟩
 show spD X.K F (vs++[]) H' Q E0
 rw [eV]
 exact ⟨ds,d,⟨R.tb.same s,r⟩,e2,fun v H2 s2 r2=>q v H2 (s.trans s2) (RA.imp (fun a z=>s.free z) (fun z=>z) r2)⟩
end
end D3
namespace D3
open PySem PySem.Spec PyProof.Rows L2 My
section
variable {X:Cx} {fl fl':List Fl} {e a b c elt tg iter:Expr} {es ifs:List Expr} {k:Kd} {f fa fb fc:FE} {ft gt:FT} {pos:Pos} {scope:Scope} {ix L TT:List Nat} {fi:FA} {g:FG}
theorem n8:PTs X [] (tDT X.K fl D3.jA):=fun pins s σ H Q I h=>by
 obtain ⟨G,ow,δ,b,R,hf,q⟩:=h
 cases hf
 exact K5 pins s σ H Q I (q H (Same.refl H))
theorem Lq {K:PySem.W.Frag} {G:Gh} {ow:Ow} {σ:St} {H H1:Hp} {δ:DS} (t:Nat) (ix:List Nat) (hfl:∀ i,i < t + ix.length→fl'[i]? = some .A) (R:Rel K fl G ow σ H δ) (s:Same H H1) :
 Rel K fl' ⟨H,H,fun _=>none,fun _=>[],R.tb⟩ ow0 (vU t ix σ) H1 (jH t ix δ):=by
 have get:∀ i d,(jH t ix δ)[i]? = some (some (.d d))→i < t + ix.length∧∃ j,ix[i - t]? = some j∧t ≤ i∧δ[j]? = some (some (.d d)):=fun i d h=>by
  unfold jH at h
  by_cases hi:i < t
  ·rw [dR (by rw [bW];exact hi),dB,if_pos hi] at h
   cases h
  ·rw [dF (by rw [bW];omega),bW,bx] at h
   cases e:ix[i - t]? with
   | none=>rw [e] at h;cases h
   | some j =>
    rw [e] at h
    have hl:i - t < ix.length:=by
     rcases lq (i - t) ix.length with z | z
     ·exact z
     ·rw [bD z] at e;cases e
    refine ⟨by omega,j,rfl,by omega,?_⟩
    have h':(δ[j]?).getD none=some (.d d):=by simpa using h
    cases q:δ[j]? with
    | none=>rw [q] at h';cases h'
    | some o=>rw [q] at h';simp at h';rw [h']
 refine ⟨Same.refl H,s,?_,fun i a h=>(by cases h),fun i j a h=>(by cases h),fun i h=>rfl,fun i d h _ _=>?_,fun i d h _ h2 _=>absurd (hfl i (get i d h).1) h2,fun i a h=>(by cases h),fun i j a h=>(by cases h),fun i j a h=>(by cases h),fun i h=>rfl,fun i d hn h=>(by rw [hfl i (get i d h).1] at hn;cases hn)⟩
 ·unfold vU jH
  simp
 ·obtain ⟨hi,j,ej,ht,ed⟩:=get i d h
  have key:∃ v,σ[j]? = some (some v)∧RA K ok1 true H v d:=by
   cases hN:isN fl[j]? with
   | true =>
    obtain ⟨v,h1,h2,_⟩:=R.nr j d hN ed
    exact ⟨v,h1,h2.ra fun _ _=>trivial⟩
   | false =>
   cases ho:ow j with
   | none =>
    obtain ⟨v,h1,h2⟩:=R.dat j d ed hN ho
    exact ⟨v,h1,h2.imp (fun _ _=>trivial) (fun z=>z)⟩
   | some a =>
    obtain ⟨_,_,xs,ds,h1,h2,h3,h4⟩:=R.own j a ho
    rw [ed] at h4
    cases h4
    exact ⟨_,h1,.lst h2 trivial (h3.imp (fun _ _=>trivial) (fun z=>z))⟩
  obtain ⟨v,h1,h2⟩:=key
  refine ⟨v,?_,(h2.imp (fun _ _=>⟨fun i z=>(by cases z),fun i z=>(by cases z)⟩) (fun z=>z)).same s⟩
  unfold vU
  rw [dF (by rw [bW];omega),bW,bx,ej]
  show some ((σ[j]?).getD none)=_
  rw [h1]
  rfl
theorem tO {σ:St} {H:Hp} {Q:VK} {t:Nat} (hfl:∀ i,i < t + ix.length→fl'[i]? = some .A) (htg:∀ j ∈ TT,j < t)
 (h:tD X.K fl .FC (iT fi g ft f t ix) σ H Q):Dt (tDI X.K fl L fi) (tDG X.K fl' TT g) (tDT X.K fl' ft) (tD X.K fl' .C f) t (vU t ix) σ H Q:=by
 obtain ⟨G,ow,δ,d,R,hf,q⟩:=h
 obtain ⟨l,e1,e2⟩:=bind1 hf
 by_cases hl:l.length ≤ 100000
 case neg=>rw [if_neg hl] at e2;cases e2
 rw [if_pos hl] at e2
 obtain ⟨r,e3,e4⟩:=bind1 e2
 cases e4
 refine ⟨G,ow,δ,l,R,e1,fun J H1 s1 wk Dl hD=>?_⟩
 have R1:=R.grow s1
 let okD:Ok:=fun b=>okN H b∧b ≠ Dl
 refine ⟨fun i m xs H2=>m=l.length - i∧H2 Dl=some (.lst xs)∧Same H1 H2∧xs.length ≤ i∧i ≤ l.length∧∃ ds rest,RAs X.K okD false H2 xs ds∧fK g ft f (jH t ix δ) (l.drop i)=some rest∧r=ds++rest,
  ⟨_,rfl,d7,fJ hD _,bG _,fG _,[],r,.nil,by simpa using e3,rfl⟩,?_⟩
 rintro i m xs H2 ⟨rfl,hDl,s2,hxl,hil,ds,rest,hr,hc,rfl⟩
 refine ⟨hDl,?_⟩
 obtain ⟨w1,w2⟩:=wk H2 (fun b o hb _ _=>s2 b o hb) i
 by_cases hlt:i < l.length
 ·have hdrop:l.drop i=l[i] :: l.drop (i + 1):=ji hlt
  rw [hdrop,fK] at hc
  obtain ⟨δ1,e5,hc⟩:=bind1 hc
  obtain ⟨bb,e6,hc⟩:=bind1 hc
  obtain ⟨go,yl⟩:=w1 l[i] (bf hlt)
  refine .inr ⟨go,qb (bV hxl (bV hil hl)) (by decide),fun x H3 hy=>?_⟩
  obtain ⟨s3,r3⟩:=yl x H3 hy
  have s13:=s2.trans s3
  have Rb:=(Lq t ix hfl R1 (Same.refl H1)).grow s13
  refine ⟨_,_,_,_,δ1,Rb,r3.imp (fun _ _=>⟨fun i z=>(by cases z),fun i z=>(by cases z)⟩) (fun z=>z),e5,fun σ4 R4 keep4=>⟨?_,?_⟩⟩
  ·apply fQ
   intro n
   rw [lW,lW]
   exact keep4 (t + n) fun z=>absurd (htg _ z) (by omega)
  ·refine ⟨_,_,δ1,bb,R4,e6,fun H5 s5=>?_⟩
   cases bb with
   | false =>
    rw [if_neg gA] at hc ⊢
    have s35:=s3.trans s5
    exact ⟨l.length - (i + 1),by omega,rfl,s35 _ _ hDl,s2.trans s35,by omega,hlt,ds,rest,hr.same s35,hc,rfl⟩
   | true =>
    rw [if_pos rfl] at hc ⊢
    obtain ⟨y,e7,hc⟩:=bind1 hc
    obtain ⟨l',e8,hc⟩:=bind1 hc
    cases hc
    refine ⟨_,_,δ1,y,R4.grow s5,e7,fun v H6 s6 r6=>?_⟩
    have s35:=s3.trans s5
    have s36:=s35.trans s6
    refine ⟨s36 _ _ hDl,l.length - (i + 1),by omega,rfl,d7,?_,by rw [bK,oG];omega,hlt,ds++[y],l',?_,e8,by simp⟩
    ·intro b o hb
     rw [cM (fun z=>by subst z;rw [hD] at hb;cases hb)]
     exact (s2.trans s36) b o hb
    ·have nd:¬ okD Dl:=fun z=>z.2 rfl
     have s05:Same H H5:=s1.trans (s2.trans s35)
     have ry:RA X.K okD false H6 v y:=RA.imp (fun b z=>⟨s05.free z,fun e=>by subst e;rw [okN,s35 _ _ hDl] at z;cases z⟩) (fun z=>z) r6
     exact ((hr.same s36).append (.cons ry .nil)).upd (s36 _ _ hDl) nd
 ·have ed:l.drop i=[]:=jJ (by omega)
  rw [ed,fK] at hc
  cases hc
  refine .inl ⟨w2 (by omega),?_⟩
  rw [eV] at q
  exact q (.ref Dl) H2 (s1.trans s2) (.inr ⟨Dl,xs,ds,rfl,rfl,s1.free hD,hDl,hr⟩)
theorem jZ (hc:X.calm=true) (T Vn:List Str) (ix:List Nat) (hi:DI X fl L tg iter fi)
 (hg:∀ cl C s3 H3 fp,DG (blk X (T++Vn) scope cl C s3 H3 fp) fl' TT tg g) (ht:∀ cl C s3 H3 fp,PTs (blk X (T++Vn) scope cl C s3 H3 fp) ifs (tDT X.K fl' ft)) (he:∀ cl C s3 H3 fp,DE (blk X (T++Vn) scope cl C s3 H3 fp) fl' .C elt f)
 (hfl:∀ i,i < T.length + ix.length→fl'[i]? = some .A:=by decide) (htg:∀ j ∈ TT,j < T.length:=by decide)
 (hB:uL X.N X.env.scope.names scope.names Vn ix=true:=by rfl) (hk:scope.kind = .function:=by rfl) (hcell:∀ y ∈ scope.names,y.2 ≠ .cell:=by decide +kernel)
 (hnames:∀ x ∈ scope.names,x.2 = .local→scope.names.lookup x.1=some .local:=by decide +kernel)
 (hfr:∀ x ∈ scope.names,x.2 = .free→x.1 ∈ Vn:=by decide +kernel) (hs:∀ x,foldedSetIterable iter X.env x=pure x:=by intro _;rfl) :
 DE X fl .FC (.ListComp elt [⟨tg,iter,ifs,0⟩] scope pos) (iT fi g ft f T.length ix) :=
 PE.imp (K6 hc T Vn ix hi hg ht he hB hk hcell hnames hfr hs) fun _ _ _ h=>tO hfl htg h
theorem zJ {i:Nat} {x:Str} {pos' spos:Pos} (hfx:fl[i]? = some .A) (hN:X.N.Nodup) (hi':X.N[i]? = some x) (hx:X.env.scope.names.lookup x=some .local) (hc:X.calm=true) (T Vn:List Str) (ix:List Nat) (hi:DI X fl L tg iter fi)
 (hg:∀ cl C s3 H3 fp,DG (blk X (T++Vn) scope cl C s3 H3 fp) fl' TT tg g) (ht:∀ cl C s3 H3 fp,PTs (blk X (T++Vn) scope cl C s3 H3 fp) ifs (tDT X.K fl' ft)) (he:∀ cl C s3 H3 fp,DE (blk X (T++Vn) scope cl C s3 H3 fp) fl' .C elt f)
 (hfl:∀ i,i < T.length + ix.length→fl'[i]? = some .A:=by decide) (htg:∀ j ∈ TT,j < T.length:=by decide)
 (hsw:swapsWith (.ListComp elt [⟨tg,iter,ifs,0⟩] scope pos) (some (.Name x pos')) spos.line X.env=pure true:=by rfl)
 (hB:uL X.N X.env.scope.names scope.names Vn ix=true:=by rfl) (hk:scope.kind = .function:=by rfl) (hcell:∀ y ∈ scope.names,y.2 ≠ .cell:=by decide +kernel)
 (hnames:∀ x ∈ scope.names,x.2 = .local→scope.names.lookup x.1=some .local:=by decide +kernel)
 (hfr:∀ x ∈ scope.names,x.2 = .free→x.1 ∈ Vn:=by decide +kernel) (hs:∀ x,foldedSetIterable iter X.env x=pure x:=by intro _;rfl) :
 DS1 X fl (.Assign [.Name x pos'] (.ListComp elt [⟨tg,iter,ifs,0⟩] scope pos) spos) (bJ i (iT fi g ft f T.length ix)) :=
 PS.imp (K7 hN hi' hx hc T Vn ix hi hg ht he hsw hB hk hcell hnames hfr hs) fun Dn σ H h=>by
 obtain ⟨G,ow,δ,o,R,hf,q⟩:=h
 unfold bJ at hf
 by_cases hl:i < δ.length
 ·rw [if_pos hl] at hf
  obtain ⟨d,e1,e2⟩:=bind1 hf
  cases e2
  exact tO (fl:=fl) hfl htg ⟨G,ow,δ,d,R,e1,fun v H' s r=>q ow _ H' ((R.grow s).setA hfx (nY R hl) ((r.FC_F R).F_A R))⟩
 ·rw [if_neg hl] at hf
  cases hf
theorem DK {K:PySem.W.Frag} {G:Gh} {ow:Ow} {H H1:Hp} {p:Addr} {vs:List V} {l:List D} (s:Same H H1) (hp:H1 p=none) (r:RAs K (okA ow) true H1 vs l):Rs K G.H0 ow H (upd H1 p (.lst vs)) .F (.ref p) (.list l) :=
 .inr ⟨p,vs,l,rfl,rfl,s.free hp,d7,(r.track.imp (fun b w=>⟨w.1,fun e=>w.2 (e ▸ hp)⟩) (fun z=>z)).same (fJ hp _)⟩
theorem Bm {K:PySem.W.Frag} {H0:Hp} {ow:Ow} {Hb H:Hp} {L:List Nat} {v:V} {l:List D} (r:Rs K H0 ow Hb H (.B L) v (.list l)):∃ a xs,v = .ref a∧SqL K H a xs∧RAs K (okA ow) true H xs l:=by
 rcases r with r | ⟨i,hi,a,xs,ds,ho,rfl,e,hx,hr⟩
 ·exact r.lstE
 ·cases e
  exact ⟨a,xs,rfl,SqL.of hx,hr⟩
def Uv (K:PySem.W.Frag):R2:=fun x y H Q=>∃ l b xs zs,x = .ref l∧y = .ref b∧SqL K H l xs∧SqL K H b zs∧xs.length + zs.length ≤ sizeLine∧∀ p,H p=none→Q (.ref p) (upd H p (.lst (xs++zs)))
theorem Lr:OpR X (binaryOp .Add) (Uv X.K):=by
 intro pins s σ H x y v u Q I rx ry h
 obtain ⟨l,b,xs,zs,rfl,rfl,hH,hB,hz,q⟩:=h
 cases rx
 cases ry
 obtain ⟨its,r,p,_⟩:=I.list hH
 obtain ⟨its2,r2,p2,_⟩:=I.list hB
 obtain ⟨⟨cls,dd,data,sl⟩,ho,hc,n,hd⟩:=p.isList
 obtain ⟨⟨cls2,dd2,data2,sl2⟩,ho2,hc2,n2,hd2⟩:=p2.isList
 simp only at hc hd hc2 hd2
 subst hc hd hc2 hd2
 have e1:=r.length
 have e2:=r2.length
 have e:its.toArray++its2.toArray=(its++its2).toArray:=by simp
 refine concat_meets ⟨_,ho,rfl⟩ ⟨_,ho2,rfl⟩ noFill_list_add seq_list_add PySem.F.slot_list_add PySem.F.entry_list_add (PySem.F.args_list_add_2 _ _) (list_addW l b its.toArray its2.toArray n n2 dd dd2 sl sl2 (by simp;omega)) ⟨ho,ho2,?_⟩
 rw [e]
 exact ⟨.ref _,_,I.lnew (t':=s.toks) (r.append r2) (by rw [bK];omega),rfl,q _ I.fresh⟩
theorem o8 {L L':List Nat} (h1:DE X fl (.B L) a fa) (h2:DE X fl (.B L') b fb):DE X fl .F (.BinOp a .Add b pos) (dOp pQ fa fb):=PE.imp (Hl Lr h1 h2) fun σ H Q h=>by
 obtain ⟨G,ow,δ,d,R,hf,q⟩:=h
 obtain ⟨x,y,e1,e2,e3⟩:=Du hf
 refine ⟨G,ow,δ,x,R,e1,fun v H1 s1 r1=>⟨G,ow,δ,y,R.grow s1,e2,fun u H2 s2 r2=>?_⟩⟩
 unfold pQ at e3
 split at e3
 ·next l m =>
  by_cases z:l.length + m.length ≤ 1000000
  ·rw [if_pos z] at e3
   cases e3
   obtain ⟨p,xs,rfl,hx,hr⟩:=Bm r1
   obtain ⟨p',ys,rfl,hy,hr'⟩:=Bm r2
   refine ⟨p,p',xs,ys,rfl,rfl,s2.seq hx,hy,?_,fun pn hp=>q _ _ ((s1.trans s2).trans (fJ hp _)) (DK (G:=G) (s1.trans s2) hp ((hr.same s2).append hr'))⟩
   rw [hr.length,hr'.length]
   exact bV z (by decide)
  ·rw [if_neg z] at e3
   cases e3
 ·cases e3
theorem RAs.rep {K:PySem.W.Frag} {ok:Ok} {pl:Bool} {H:Hp} {vs:List V} {l:List D} (r:RAs K ok pl H vs l):∀ n:Nat,RAs K ok pl H (aK n vs).flatten (aK n l).flatten
 | 0=>.nil
 | n + 1=>by
  rw [cQ,cQ,fP,fP]
  exact r.append (RAs.rep r n)
theorem QV (h1:DE X fl .F a fa) (h2:DE X fl .P b fb):DE X fl .F (.BinOp a .Mult b pos) (dOp HS fa fb):=PE.imp (Hl QG h1 h2) fun σ H Q h=>by
 obtain ⟨G,ow,δ,d,R,hf,q⟩:=h
 obtain ⟨x,y,e1,e2,e3⟩:=Du hf
 refine ⟨G,ow,δ,x,R,e1,fun v H1 s1 r1=>⟨G,ow,δ,y,R.grow s1,e2,fun u H2 s2 r2=>?_⟩⟩
 unfold HS at e3
 split at e3
 ·next l k =>
  by_cases z:l.length * k.toNat ≤ 1000000∧-(2 ^ 63) ≤ k∧k < 2 ^ 63
  ·rw [if_pos z] at e3
   cases e3
   obtain rfl:=RA.intE r2
   rcases r1 with ⟨hz,_⟩ | ⟨p,xs,ds,rfl,ez,h3,h4,h5⟩
   ·simp [flat] at hz
   ·cases ez
    refine ⟨p,k,xs,rfl,rfl,s2 _ _ h4,z.2.1,z.2.2,?_,fun pn hp=>q _ _ ((s1.trans s2).trans (fJ hp _)) (DK (G:=G) (s1.trans s2) hp (((h5.imp (fun b w=>w.1) (fun z=>z)).same s2).rep _))⟩
    rw [h5.length]
    exact bV z.1 (by decide)
  ·rw [if_neg z] at e3
   cases e3
 ·cases e3
theorem uo {L:List Nat} {p:Pos} (h:DE X fl (.B L) a f) (hg:Gl X "list") (hm:X.mg "list" = none)
 (he:starEach [a] X.env=(false,eval a X.env) :: starEach [] X.env:=by rfl) (hpl:(backTo pos (starEach [] X.env)).any (·.1)=false:=by rfl):DE X fl .F (.Call (.Name "list" p) [a] [] pos) (dUn rG f) :=
 PE.imp (sJ xX hg hm boot_list (iu h lZ he) (by decide) (by decide) he hpl) fun σ H Q h=>by
 obtain ⟨G,ow,δ,d,R,hf,q⟩:=h
 obtain ⟨x,e1,e2⟩:=bind1 hf
 refine ⟨G,ow,δ,x,R,e1,fun v H1 s1 r1=>?_⟩
 unfold rG at e2
 split at e2
 ·cases e2
  obtain ⟨p,xs,rfl,hx,hr⟩:=Bm r1
  exact ⟨p,xs,rfl,.inl hx,fun pn hp=>q _ _ (s1.trans (fJ hp _)) (DK (G:=G) s1 hp hr)⟩
 ·cases e2
  rcases r1 with r1 | ⟨i,hi,a,xs,ds,ho,rfl,e,hx,hr⟩
  ·obtain ⟨p,xs,rfl,hx,hr⟩:=r1.tupE
   exact ⟨p,xs,rfl,.inr hx,fun pn hp=>q _ _ (s1.trans (fJ hp _)) (DK (G:=G) s1 hp hr)⟩
  ·cases e
 ·cases e2
end
end D3
namespace D3
open PySem PySem.Spec PyProof.Rows L2 My
section
variable {X:Cx} {pins:List (Addr × Obj)} {σ:St} {H:Hp} {s:Shared} {h':Heap}
theorem Inv.turnedL {t':Nat} {ch:List Addr} (I:Inv X pins σ H s) (k:∀ b o,b ∉ ch→s.heap.get? b=some o→h'.get? b=some o) (hf:∀ b ∈ ch,sH X pins H b):Inv X pins σ H { s with heap:=h',toks:=t' }:=by
 have nit:∀ b u,H b=some u→b ∉ ch:=fun b u e z=>by rw [(hf b z).1] at e;cases e
 refine I.step (g':=s.gens) (d':=s.drawn) (ch:=ch) (fun b hb=>?_) (fun b o _ _ hc e _=>k b o hc e) (fun b o _ _ hc e _=>⟨o.slots,k b o hc e⟩) (fun _ _ _ _ n=>n)
  (fun b o hc e=>⟨o,k b o hc e⟩) (fun _ _ e=>e) (fun _ _ _ e=>e) (fun _ _ _ e=>e) (fun m hm=>?_) (fun b u e=>?_) I.bare
 ·obtain ⟨f0,f1,f2,f3,f4,f5⟩:=hf b hb
  exact ⟨f3,f1,f4,f5⟩
 ·obtain ⟨o,es,ep,ho,r⟩:=hm
  exact ⟨o,es,ep,k _ o (fun z=>(hf _ z).2.1 rfl) ho,r⟩
 ·refine (I.hok b u e).stay (fun c v hc q=>k c v ?_ q) (fun _ q=>q) fun _ _ q=>q
  rcases hc with z | z
  ·rw [z];exact nit b u e
  ·exact nit c _ z
end
def Ite (K:PySem.W.Frag) (a:Addr):It :=
 ⟨fun i H=>∃ xs x,SqL K H a xs∧xs[i]? = some x,fun i H x H'=>∃ p y,H p=none∧H'=upd H p (.tup [.int i,y])∧x = .ref p∧∀ xs,SqL K H a xs→xs[i]? = some y,fun i H=>∃ xs,SqL K H a xs∧xs.length ≤ i⟩
theorem Fw {P:Program} {w:World} {K:PySem.W.Frag} {elts:List Expr} {x1} {tpos:Pos} (a it:Addr) :
 Turn P w K (.Tuple elts x1 tpos) (Ite K a) [it + 1,it] (it + 1) (fun i h=>∃ old,IsEnum h (it + 1) it (i:Int) old∧h.IsListIter it a i) where
 mem:=by simp
 obj:=fun i h st b hb=>by
  obtain ⟨old,he,o,e,c,d⟩:=st
  rcases aO.mp hb with z | z
  ·subst z
   exact ⟨_,he,fun v z=>by cases z⟩
  ·have z:b=it:=by simpa using z
   subst z
   exact ⟨o,e,fun v z=>by rw [d] at z;cases z⟩
 keep:=fun i h h' st k=>by
  obtain ⟨old,he,hi⟩:=st
  exact ⟨old,k _ (by simp) _ he,hi.at fun o e=>k it (by simp) o e⟩
 item:=by
  intro X hP hw hK hc i pins s σ H E I hf st hg
  subst hP hw hK
  obtain ⟨xs,x,hq,hx⟩:=hg
  obtain ⟨its,rv,p,hz⟩:=I.list hq
  obtain ⟨u,hu,ru⟩:=rv.get hx
  obtain ⟨old,he,hi⟩:=st
  have fe:=hf (it + 1) (by simp)
  have fi:=hf it (by simp)
  have hlt:it + 1 < s.heap.objs.size:=Heap.lt_size he
  refine wpAny_pyNext_enum_item he hi p.isList (x:=u) (by simpa using hu) (Nat.succ_ne_self it) fun h1 ho hi1 ht hsz hk=>?_
  refine ⟨_,rfl,wpAny_letOwnedTupleGo_enum ho fun h2 he2 hs2=>?_⟩
  replace hs2:Heap.SameBut (it + 1) h1 h2:=hs2
  have hn:H s.heap.objs.size=none:=I.hok.fresh (bG _)
  have I0:Inv X pins σ (upd H s.heap.objs.size (.tup [.int (i:Int),x])) { s with heap:=s.heap.push { cls:=.type "tuple", data:=.seq #[.int (i:Int) s.toks,u] } } :=
   I.laid (t':=s.toks) (fun b o e=>Heap.get?_push_of_some _ e) (bG _) ⟨show 2 ≤ sizeLine by decide,[.int (i:Int) s.toks,u],.cons ⟨_,rfl⟩ (.cons ru .nil),⟨_,Heap.get?_push_size _ rfl,rfl,_,rfl⟩⟩
  have ne:∀ b,b ∈ [it + 1,it]→b ≠ s.heap.objs.size:=fun b hb=>by
   rcases aO.mp hb with w' | w'
   ·rw [w'];exact bL hlt
   ·rw [show b=it by simpa using w'];exact bL (Nat.lt_of_succ_lt hlt)
  have I1:Inv X pins σ (upd H s.heap.objs.size (.tup [.int (i:Int),x])) { s with heap:=h2,toks:=s.toks + 1 }:=by
   refine Inv.turnedL (s:={ s with heap:=s.heap.push { cls:=.type "tuple", data:=.seq #[.int (i:Int) s.toks,u] } }) (ch:=[it + 1,it]) I0 (fun b o hb e=>?_) fun b hb=>⟨by rw [cM (ne b hb)];exact (hf b hb).1,(hf b hb).2⟩
   have b1:b ≠ it + 1:=fun z=>hb (by simp [z])
   have b2:b ≠ it:=fun z=>hb (by simp [z])
   rcases Heap.get?_push_cases e with ⟨e1,e2⟩ | e1
   ·subst e1 e2
    exact (hs2.2 _ b1).trans ht
   ·exact (hs2.2 _ b1).trans (hk b o b1 b2 e1)
  refine ⟨.ref s.heap.objs.size,_,I1,rfl,⟨_,x,hn,rfl,rfl,fun ys hy=>by rw [I.list_inj hy hq];exact hx⟩,⟨_,he2,hi1.at fun o e=>(hs2.2 _ (bL (Nat.lt_succ_self it))).trans e⟩,fun b hb=>?_⟩
  rw [cM (ne b hb)]
  exact (hf b hb).1
 done:=by
  intro X hP hw hK hc i pins s σ H E I hf st hg
  subst hP hw hK
  obtain ⟨xs,hq,hx⟩:=hg
  obtain ⟨its,rv,p,hz⟩:=I.list hq
  obtain ⟨old,he,hi⟩:=st
  have hl:=rv.length
  refine wpAny_pyNext_enum_end (I.ok.hd hc) he hi p.isList (by simp;omega) fun h' eb=>⟨rfl,Inv.turnedL (t':=s.toks) (ch:=[it + 1,it]) I (fun b o hb e=>eb b o (fun z=>hb (by simp [z])) e) hf⟩
 self:=fun _ _ _ _ _ st h=>by
  obtain ⟨old,he,_⟩:=st
  exact wpAny_pyIter_enum he h
section
variable {X:Cx} {fl:List Fl} {a:Expr} {f:FE} {pos:Pos}
def Uw (K:PySem.W.Frag) (tl:TE):TI:=fun σ H R=>tl σ H fun x H1=>∃ a,x = .ref a∧(∃ xs,SqL K H1 a xs)∧R (Ite K a) H1
theorem Ls {elts:List Expr} {x1} {tpos p:Pos} {tl:TE} (hg:Gl X "enumerate") (hm:X.mg "enumerate" = none) (hl:PE X a tl) (he:starEach [a] X.env=(false,eval a X.env) :: starEach [] X.env:=by rfl)
 (hpl:(backTo pos (starEach [] X.env)).any (·.1)=false:=by rfl):PI X (.Tuple elts x1 tpos) (.Call (.Name "enumerate" p) [a] [] pos) (Uw X.K tl):=by
 intro pins s σ H R I h
 refine wpAny_Call_Name_kw (sG I hg hm boot_enumerate (PyProof.Rows.callWith_type1 (thn ((iu hl lZ he) pos pins s σ H (fun vs H1=>match vs with | [x]=>∃ a,x = .ref a∧(∃ xs,SqL X.K H1 a xs)∧R (Ite X.K a) H1 | _=>False) I h) fun us s1 ⟨vs,H1,I1,r1,q1⟩=>?_) he hpl))
 cases r1 with
 | nil=>exact q1.elim
 | cons r rr =>
  cases rr with
  | cons _ _=>exact q1.elim
  | nil =>
  obtain ⟨l,e,⟨xs,hq⟩,q⟩:=q1
  subst e
  cases r
  obtain ⟨its,rv,pl,hz⟩:=I1.list hq
  refine call_enumerate_list pl.isList fun h' he' hi' hsz hk=>?_
  have I2:Inv X pins σ H1 { s1 with heap:=h' }:=I1.kept (t':=s1.toks) hk
  refine wpAny_pyIter_enum (s:={ s1 with heap:=h' }) he' ?_
  refine ⟨s1.heap.objs.size + 1,[s1.heap.objs.size + 1,s1.heap.objs.size],_,_,H1,rfl,I2,Fw l s1.heap.objs.size,⟨_,he',hi'⟩,fun b hb=>?_,q⟩
  have hb':s1.heap.objs.size ≤ b:=by
   rcases aO.mp hb with z | z
   ·rw [z];exact mH _
   ·rw [show b=s1.heap.objs.size by simpa using z];exact bG _
  exact I1.fpOk hb' (I1.hok.fresh hb')
theorem uq {elts:List Expr} {x1} {tpos p:Pos} {L:List Nat} (h:DE X fl (.B L) a f) (hg:Gl X "enumerate") (hm:X.mg "enumerate" = none) (he:starEach [a] X.env=(false,eval a X.env) :: starEach [] X.env:=by rfl)
 (hpl:(backTo pos (starEach [] X.env)).any (·.1)=false:=by rfl):DI X fl L (.Tuple elts x1 tpos) (.Call (.Name "enumerate" p) [a] [] pos) (oX f):=PI.imp (Ls hg hm h he hpl) fun σ H R' h=>by
 obtain ⟨G,ow,δ,l,R,hf,q⟩:=h
 obtain ⟨d,e1,e2⟩:=bind1 hf
 cases d <;> first | (cases e2;done) | skip
 next l0 =>
 cases e2
 refine ⟨G,ow,δ,_,R,e1,fun v H1 s r=>?_⟩
 obtain ⟨a,xs,rfl,hx,keep⟩:=Bf (R.grow s) r
 refine ⟨a,rfl,⟨xs,hx⟩,q _ _ s fun H2 k2 i=>?_⟩
 obtain ⟨k3,k4⟩:=keep H2 k2
 refine ⟨fun d hd=>?_,fun hl=>⟨xs,k3,by rw [k4.length];simpa [jo] using hl⟩⟩
 have hd':(l0[i]?).map (fun x=>PyData.tuple [.int (i:Int),x])=some d:=by
  have:=hd
  unfold jo at this
  rw [iZ] at this
  exact this
 cases e:l0[i]? with
 | none=>rw [e] at hd';cases hd'
 | some x0 =>
  rw [e] at hd'
  cases hd'
  obtain ⟨y,hy,ry⟩:=k4.get e
  refine ⟨⟨xs,y,k3,hy⟩,fun x H3 hyl=>?_⟩
  obtain ⟨p,y',hp,rfl,rfl,hz⟩:=hyl
  have:some y=some y':=hy.symm.trans (hz xs k3)
  cases this
  have g:=fJ hp (.tup [.int (i:Int),y])
  exact ⟨g,.tup d7 (.cons (.int _) (.cons (ry.same g) .nil))⟩
end
structure Bl (mg:Str→Option Value):Prop where
 len_:mg "len" = none
 range_:mg "range" = none
 abs_:mg "abs" = none
 isinstance_:mg "isinstance" = none
 int_:mg "int" = none
 bool_:mg "bool" = none
 tuple_:mg "tuple" = none
 list_:mg "list" = none
 str_:mg "str" = none
 max_:mg "max" = none
 min_:mg "min" = none
 sorted_:mg "sorted" = none
 sum_:mg "sum" = none
 reversed_:mg "reversed" = none
 enumerate_:mg "enumerate" = none
 zip_:mg "zip" = none
 set_:mg "set" = none
 any_:mg "any" = none
 all_:mg "all" = none
 dict_:mg "dict" = none
end D3
namespace D3
open PySem PySem.Spec PyProof.Rows L2 My
structure FunD (K:PySem.W.Frag) (x:Str) (st:Stmt) (f:Addr) (fd:FuncData):Prop where
 ex:∃ (oc:Value) (od:Option Addr) (dV kV doc pm:Value) (an:Option Addr) (cdv ct:Value) (osl:Array (Option Value)),
  fd=PySem.W.fnOf x x (gQ st) (dI st) (aP st) dV kV doc pm an cdv ct∧K.lookup f=some ⟨oc,od,.func fd,osl⟩∧PySem.W.codeIn K cdv x=true
 kp:PySem.W.keepIn K (.ref f)=true
structure Dg (K:PySem.W.Frag) (mg:Str→Option Value) (x:Str) (st:Stmt) (ps:List Str):Prop where
 ex:∃ (f:Addr) (fd:FuncData),FunD K x st f fd∧Binds K fd ps []∧mg x=some (.ref f)
theorem Ik {K:PySem.W.Frag} {h:Heap} {mg:Str→Option Value} {f T:Addr} {oc kV dc pm cd ct:Value} {od an:Option Addr} {sl:Array (Option Value)} {x:Str} {st:Stmt} {ps:List Str} {o:Obj} {items:Array Value} {n:Nat} (X:K.In h) (G:h.Ns mainGlobals mg)
 (hb:∀ (kV doc pm:Value) (an:Option Addr) (cdv ct:Value) (us:List Value),us.length=ps.length→∃ k,bindArgs (PySem.W.fnOf x x (gQ st) (dI st) (aP st) (.ref T) kV doc pm an cdv ct) ⟨us,[]⟩=(seqItems? (.ref T) >>= k)∧k (some items)=pure (ps.zip us))
 (a:PySem.W.nsIn K mainGlobals x=some (some (.ref f))) (l:K.lookup f=some ⟨oc,od,.func (PySem.W.fnOf x x (gQ st) (dI st) (aP st) (.ref T) kV dc pm an cd ct),sl⟩) (c:PySem.W.codeIn K cd x=true) (k:PySem.W.keepIn K (.ref f)=true)
 (hT:K.lookup T=some o) (hs:o.data = .seq items n):Dg K mg x st ps :=
 ⟨_,_,⟨⟨oc,od,.ref T,kV,dc,pm,an,cd,ct,sl,rfl,l,c⟩,k⟩,fun s us KX hl=>by
  rw [eV] at hl ⊢
  obtain ⟨k,h1,h2⟩:=hb kV dc pm an cd ct us hl
  exact BindsTo.of_defaults (T:=T) rfl (KX T o hT) hs h1 h2,PySem.W.mg_of X G a⟩
theorem fB {K:PySem.W.Frag} {h:Heap} {mg:Str→Option Value} {f:Addr} {oc kV dc pm cd ct:Value} {od an:Option Addr} {sl:Array (Option Value)} {x:Str} {st:Stmt} {ps:List Str} (X:K.In h) (G:h.Ns mainGlobals mg)
 (hb:∀ (kV doc pm:Value) (an:Option Addr) (cdv ct:Value) (us:List Value),us.length=ps.length→bindArgs (PySem.W.fnOf x x (gQ st) (dI st) (aP st) .none kV doc pm an cdv ct) ⟨us,[]⟩=pure (ps.zip us))
 (a:PySem.W.nsIn K mainGlobals x=some (some (.ref f))) (l:K.lookup f=some ⟨oc,od,.func (PySem.W.fnOf x x (gQ st) (dI st) (aP st) .none kV dc pm an cd ct),sl⟩) (c:PySem.W.codeIn K cd x=true) (k:PySem.W.keepIn K (.ref f)=true):Dg K mg x st ps :=
 ⟨_,_,⟨⟨oc,od,.none,kV,dc,pm,an,cd,ct,sl,rfl,l,c⟩,k⟩,.all (hb kV dc pm an cd ct),PySem.W.mg_of X G a⟩
structure Dl (K:PySem.W.Frag) (mg:Str→Option Value) (x y:Str) (st:Stmt):Prop where
 ex:∃ (f:Addr) (fd:FuncData),FunD K x st f fd∧(∀ (s:Shared) (u:Value),BindsTo s fd ⟨[u],[]⟩ [(y,u)])∧mg x=some (.ref f)
theorem Ux {K:PySem.W.Frag} {h:Heap} {mg:Str→Option Value} {f:Addr} {oc kV dc pm cd ct:Value} {od an:Option Addr} {sl:Array (Option Value)} {x y:Str} {st:Stmt} (X:K.In h) (G:h.Ns mainGlobals mg)
 (hb:∀ (kV doc pm:Value) (an:Option Addr) (cdv ct:Value) (u:Value),bindArgs (PySem.W.fnOf x x (gQ st) (dI st) (aP st) .none kV doc pm an cdv ct) ⟨[u],[]⟩=pure [(y,u)])
 (a:PySem.W.nsIn K mainGlobals x=some (some (.ref f))) (l:K.lookup f=some ⟨oc,od,.func (PySem.W.fnOf x x (gQ st) (dI st) (aP st) .none kV dc pm an cd ct),sl⟩) (c:PySem.W.codeIn K cd x=true) (k:PySem.W.keepIn K (.ref f)=true):Dl K mg x y st :=
 ⟨_,_,⟨⟨oc,od,.none,kV,dc,pm,an,cd,ct,sl,rfl,l,c⟩,k⟩,fun s u=>.of_eq (hb kV dc pm an cd ct u),PySem.W.mg_of X G a⟩
section
variable {P:Program} {w:World} {K:PySem.W.Frag} {mg:Str→Option Value} {base:Heap} {x:Str} {ps N:List Str} {st:Stmt} {k n:Nat} {fs:FS} {fl:List Fl}
theorem FunD.ok {f:Addr} {fd:FuncData} {sp:Sp} (F:FunD K x st f fd) (S:FnScope N ps (aP st)) (len:∀ vs H Q E,sp vs H Q E→vs.length=ps.length)
 (hbody:∀ (cdv:Value) (A:Around) (outer:List Env) (s:Shared) (H:Hp) (vs:List V) (Q:VK) (E:XK),Room k (A.deeper (envOfC x (aP st) s.heap.objs.size f cdv))→sp vs H Q E →
  ∃ t,PSs (gW CX0 P w K mg base N x (aP st) f cdv A outer s H E).nox (dI st) t∧t { nx:=fun _ H'=>Q .non H',rt:=Q } (L2.start N vs) H):FnOk P w K mg base CX0 (k + 1) f fd ps sp:=by
 obtain ⟨oc,od,dV,kV,doc,pm,an,cdv,ct,osl,rfl,lk,hcd⟩:=F.ex
 refine Hr lk hcd S len fun A outer s H vs Q E hr hsp=>?_
 obtain ⟨t,h,q⟩:=hbody cdv A outer s H vs Q E hr hsp
 exact ⟨t,h.nox,q⟩
theorem Il {f:Addr} {fd:FuncData} (Fn:FunD K x st f fd) (S:FnScope N ps (aP st)) (hp:∀ i,i < ps.length→fl[i]? = some .A) (hN:ps.length ≤ N.length)
 (hbody:∀ (f:Addr) (cdv:Value) (A:Around) (outer:List Env) (s:Shared) (H:Hp) (E:XK),Room k (A.deeper (envOfC x (aP st) s.heap.objs.size f cdv))→DSs (cx P w K mg base N x st f cdv A outer s H E) fl (dI st) fs) :
 FnOk P w K mg base CX0 (k + 1) f fd ps (spD K (fnD ps.length (N.length - ps.length) fs)):=by
 refine Fn.ok S (fun vs H Q E h=>?_) (fun cdv A outer s H vs Q E hr h=>?_)
 ·obtain ⟨ds,d,r,hf,_⟩:=h
  unfold fnD at hf
  by_cases z:ds.length=ps.length
  ·rw [r.2.length];exact z
  ·rw [if_neg z] at hf;cases hf
 ·obtain ⟨ds,d,r,hf,q⟩:=h
  refine ⟨_,hbody f cdv A outer s H E hr,?_⟩
  unfold fnD at hf
  by_cases z:ds.length=ps.length
  ·rw [if_pos z] at hf
   split at hf
   ·next d' e =>
    cases hf
    exact ⟨_,_,_,_,iR ps.length hp z hN r,e,fun v H' s r=>q v H' s r⟩
   ·next δ' e =>
    cases hf
    exact ⟨_,_,_,_,iR ps.length hp z hN r,e,fun ow' σ' H' R'=>q .non H' R'.same0 .non⟩
   ·cases hf
  ·rw [if_neg z] at hf;cases hf
theorem gk (Dd:Dg K mg x st ps) (S:FnScope N ps (aP st)) (hp:∀ i,i < ps.length→fl[i]? = some .A) (hN:ps.length ≤ N.length)
 (hbody:∀ (f:Addr) (cdv:Value) (A:Around) (outer:List Env) (s:Shared) (H:Hp) (E:XK),Room k (A.deeper (envOfC x (aP st) s.heap.objs.size f cdv))→DSs (cx P w K mg base N x st f cdv A outer s H E) fl (dI st) fs) :
 Has P w K mg base (k + 1) x ps (spD K (fnD ps.length (N.length - ps.length) fs)):=by
 obtain ⟨f,fd,Fn,b,m⟩:=Dd.ex
 exact ⟨f,fd,Il Fn S hp hN hbody,b,Fn.kp,m⟩
end
def Im (K:PySem.W.Frag):Sp:=fun vs H Q _=>∃ (a:Addr) (ns:List Int),Tb H∧vs=[.ref a]∧SqL K H a (ns.map V.int)∧ns.length ≤ 63∧∀ H',Q (.bl true) H'
theorem rN {K:PySem.W.Frag} {ok:Ok} {pl:Bool} {H:Hp}:∀ ns:List Int,RAs K ok pl H (ns.map V.int) (ns.map PyData.int)
 | []=>.nil
 | n :: r=>.cons (.int n) (rN r)
theorem Lw {K:PySem.W.Frag} {F:List D→Option D} (hF:∀ ns:List Int,ns.length ≤ 63→F [.list (ns.map .int)]=some (.bool true)) (vs:List V) (H:Hp) (Q:VK) (E:XK) (h:Im K vs H Q E):spD K F vs H Q E:=by
 obtain ⟨a,ns,tb,rfl,hS,hl,q⟩:=h
 refine ⟨_,_,⟨tb,.cons ?_ .nil⟩,hF ns hl,fun v H' s r=>?_⟩
 ·rcases hS with (h | ⟨o,h⟩) | h
  ·exact .lst h trivial (rN ns)
  ·exact .lsk (.inl ⟨o,h⟩) rfl (rN ns)
  ·exact .lsk (.inr h) rfl (rN ns)
 ·obtain rfl:=r.blE
  exact q H'
end D3
namespace D3
open PySem PySem.Spec PyProof.Rows L2 My
section
variable {prog:Program} {w:World} {A:Around} {E:Value→Shared→Prop} {s:Shared}
end
section
variable {X:Cx} {fl:List Fl} {a:Expr} {f:FE} {pos p p2 pos2:Pos}
end
section
variable {X:Cx} {fl:List Fl} {a b:Expr} {pos p p2 pos2:Pos} {fa:FA}
end
end D3
namespace D3
open PySem PySem.Spec PyProof.Rows L2 My
section
variable {X:Cx}
theorem zK:∀ {ns:List Int} {its:List Value},Vals (ns.map V.int) its→IntsAre its ns
 | [],_,.nil=>.nil
 | n :: r,_,.cons h t=>by
  obtain ⟨k,rfl⟩:=h
  exact .cons _ _ (zK t)
theorem uV {K:PySem.W.Frag} {ok:Ok} {pl:Bool} {H:Hp}:∀ {l:List D} {ns:List Int} {ys:List V},jm l=some ns→RAs K ok pl H ys l→ys=ns.map V.int
 | [],_,_,e,.nil=>by cases e;rfl
 | d :: r,ns,_,e,.cons h t=>by
  cases d <;> first | (cases e;done) | skip
  obtain rfl:=h.intE
  cases e2:jm r with
  | none=>rw [jm,e2] at e;cases e
  | some m =>
   rw [jm,e2] at e
   cases e
   rw [uV e2 t]
   rfl
theorem O7 {K:PySem.W.Frag}:BrC K (fun xs H Q=>∃ (p:Addr) (ns:List Int),xs=[.ref p]∧SqL K H p (ns.map V.int)∧Q (.int ns.sum) H) Um:=by
 intro H xs ds d Q r e q
 unfold Um at e
 split at e
 ·next l =>
  cases e2:jm l with
  | none=>rw [e2] at e;cases e
  | some ns =>
   rw [e2] at e
   cases e
   cases r with
   | cons r1 r2 =>
    cases r2
    obtain ⟨a,ys,rfl,hx,hr⟩:=r1.lstE
    obtain rfl:=uV e2 hr
    exact ⟨a,ns,rfl,hx,q _ rfl (.int _)⟩
 ·cases e
theorem wM:∀ {l m:List Int},l.Perm m→l.Pairwise (· ≤ ·)→m.Pairwise (· ≤ ·)→l=m
 | [],m,p,_,_=>p.nil_eq
 | a :: l,m,p,h1,h2=>by
  cases m with
  | nil=>exact absurd p.length_eq (by simp)
  | cons b m =>
   obtain ⟨a1,a2⟩:=eZ.mp h1
   obtain ⟨b1,b2⟩:=eZ.mp h2
   have e:a=b:=by
    have x1:a ∈ b :: m:=p.mem_iff.mp aG
    have x2:b ∈ a :: l:=p.mem_iff.mpr aG
    rcases aO.mp x1 with z | z
    ·exact z
    ·rcases aO.mp x2 with y | y
     ·exact y.symm
     ·exact Int.le_antisymm (a1 b y) (b1 a z)
   subst e
   rw [wM (List.Perm.cons_inv p) a2 b2]
theorem m7:∀ {ns:List Int} {its:List Value},IntsAre its ns→Vals (ns.map V.int) its
 | _,_,.nil=>.nil
 | _,_,.cons n t r=>.cons ⟨t,rfl⟩ (m7 r)
theorem yr:mL X (.builtin "sorted") (fun xs H Q=>∃ (p:Addr) (ns:List Int),xs=[.ref p]∧SqL X.K H p (ns.map V.int)∧ns.length < 64∧∀ l,H l=none→Q (.ref l) (upd H l (.lst ((m8 ns).map V.int)))):=by
 intro pins s σ H xs us Q I r h
 obtain ⟨p,ns,rfl,hx,h64,q⟩:=h
 obtain ⟨u,rfl,rx⟩:=vals1 r
 cases rx
 obtain ⟨its,rvs,pl,hz⟩:=I.list hx
 have hi:=zK rvs
 refine sorted_ints pl.isList hi (by rw [hi.length];exact h64) fun out ns' a1 a2 a3=>?_
 obtain rfl:=wM (a2.trans (jg ns).symm) a3 (mQ ns)
 obtain ⟨e,he⟩:=sortedAll_at s.heap its out
 have hn:H (s.heap.objs.size + 1)=none:=I.hok.fresh (mH _)
 have ll:(m8 ns).length=ns.length:=(jg ns).length_eq
 have I2:=I.laid (h':=sortedAll s.heap its out) (t':=s.toks) (a:=s.heap.objs.size + 1) (o:=.lst ((m8 ns).map V.int)) (fun b u e=>sortedAll_old e) (mH _)
  ⟨by rw [aL,ll];exact bV (h_ h64) (by decide),out.toList,e,m7 a1,by simpa [seqObj] using he⟩
 exact ⟨.ref _,_,I2,rfl,q _ hn⟩
theorem wN {fl:List Fl} {e:Expr} {fa:FA} {p pos:Pos} (ha:DB X fl .P [e] fa) (hg:Gl X "sorted") (hm:X.mg "sorted" = none)
 (he:starEach [e] X.env=(false,eval e X.env) :: starEach [] X.env:=by rfl) (hpl:(backTo pos (starEach [] X.env)).any (·.1)=false:=by rfl):DE X fl .FC (.Call (.Name "sorted" p) [e] [] pos) (dCall pU fa) :=
 PE.imp (oU yr hg hm (show bootBuiltins "sorted" = some (.builtin "sorted") by decide +kernel) ha (by decide) (by decide) he hpl) fun σ H Q h=>by
 obtain ⟨G,ow,δ,d,R,hf,q⟩:=h
 obtain ⟨ds,e1,e2⟩:=bind1 hf
 refine ⟨G,ow,δ,ds,R,e1,fun vs H' s r'=>?_⟩
 unfold pU at e2
 split at e2
 ·next l =>
  cases e3:jm l with
  | none=>rw [e3] at e2;cases e2
  | some ns =>
   rw [e3,aH] at e2
   by_cases h64:ns.length < 64
   ·rw [if_pos h64] at e2
    cases e2
    cases r' with
    | cons r1 r2 =>
     cases r2
     obtain ⟨a,ys,rfl,hx,hr⟩:=r1.lstE
     obtain rfl:=uV e3 hr
     exact ⟨a,ns,rfl,hx,h64,fun l hn=>q _ _ (s.trans (fJ hn _)) (.inr ⟨_,_,_,rfl,rfl,s.free hn,d7,rN _⟩)⟩
   ·rw [if_neg h64] at e2;cases e2
 ·cases e2
end
end D3
namespace D3
open PySem PySem.Spec PyProof.Rows L2 My
def gK (n:Nat) (us ws:List α):List α:=if ws.length=n then us++ws else []
structure HasD (P:Program) (w:World) (K:PySem.W.Frag) (mg:Str→Option Value) (base:Heap) (n:Nat) (x:Str) (ps:List Str) (sp:Sp) (dvs:List V) (ks:List Str):Prop where
 ex:∃ (f:Addr) (fd:FuncData) (ds:List Value),FnOk P w K mg base CX0 n f fd ps sp∧Binds K fd ps ds∧Vals dvs ds∧KBinds K fd ps ks (gK ks.length) (gK ks.length)∧PySem.W.keepIn K (.ref f)=true∧mg x=some (.ref f)
structure DgD (K:PySem.W.Frag) (mg:Str→Option Value) (x:Str) (st:Stmt) (ps:List Str) (dvs:List V) (ks:List Str):Prop where
 ex:∃ (f:Addr) (fd:FuncData) (ds:List Value),FunD K x st f fd∧Binds K fd ps ds∧Vals dvs ds∧KBinds K fd ps ks (gK ks.length) (gK ks.length)∧mg x=some (.ref f)
theorem QW {n:Nat} {vs zs:List V} {us ws:List Value} (h:Vals vs us) (h':Vals zs ws):Vals (gK n vs zs) (gK n us ws):=by
 unfold gK
 rw [h'.length]
 split
 ·exact h.append h'
 ·exact .nil
section
variable {P:Program} {w:World} {K:PySem.W.Frag} {mg:Str→Option Value} {base:Heap} {x:Str} {ps N ks:List Str} {st:Stmt} {k n:Nat} {fs:FS} {fl:List Fl} {dvs:List V}
end
theorem QX {K:PySem.W.Frag} {h:Heap} {mg:Str→Option Value} {f T:Addr} {oc kV dc pm cd ct:Value} {od an:Option Addr} {sl:Array (Option Value)} {x:Str} {st:Stmt} {ps ks:List Str} {o:Obj} {items:Array Value} {n:Nat} {ds:List Value} {dvs:List V} (X:K.In h) (G:h.Ns mainGlobals mg)
 (hb:∀ (kV doc pm:Value) (an:Option Addr) (cdv ct:Value) (us:List Value),(us++ds).length=ps.length→∃ k,bindArgs (PySem.W.fnOf x x (gQ st) (dI st) (aP st) (.ref T) kV doc pm an cdv ct) ⟨us,[]⟩=(seqItems? (.ref T) >>= k)∧k (some items)=pure (ps.zip (us++ds)))
 (hk:∀ (kV doc pm:Value) (an:Option Addr) (cdv ct:Value) (us ws:List Value),ws.length=ks.length→(us++ws).length=ps.length→∃ k,bindArgs (PySem.W.fnOf x x (gQ st) (dI st) (aP st) (.ref T) kV doc pm an cdv ct) ⟨us,ks.zip ws⟩=(seqItems? (.ref T) >>= k)∧k (some items)=pure (ps.zip (us++ws)))
 (hp:ps ≠ [])
 (a:PySem.W.nsIn K mainGlobals x=some (some (.ref f))) (l:K.lookup f=some ⟨oc,od,.func (PySem.W.fnOf x x (gQ st) (dI st) (aP st) (.ref T) kV dc pm an cd ct),sl⟩) (c:PySem.W.codeIn K cd x=true) (k:PySem.W.keepIn K (.ref f)=true)
 (hT:K.lookup T=some o) (hs:o.data = .seq items n) (hv:Vals dvs ds):DgD K mg x st ps dvs ks :=
 ⟨_,_,ds,⟨⟨oc,od,.ref T,kV,dc,pm,an,cd,ct,sl,rfl,l,c⟩,k⟩,fun s us KX hl=>by
  obtain ⟨k,h1,h2⟩:=hb kV dc pm an cd ct us hl
  exact BindsTo.of_defaults (T:=T) rfl (KX T o hT) hs h1 h2,hv,
  ⟨fun s us ws KX hl=>by
   unfold gK at hl ⊢
   by_cases e:ws.length=ks.length
   ·rw [if_pos e] at hl ⊢
    obtain ⟨k,h1,h2⟩:=hk kV dc pm an cd ct us ws e hl
    exact BindsTo.of_defaults (T:=T) rfl (KX T o hT) hs h1 h2
   ·rw [if_neg e] at hl
    exact absurd (List.length_eq_zero_iff.mp hl.symm) hp,QW⟩,PySem.W.mg_of X G a⟩
theorem Lx {K:PySem.W.Frag} {h:Heap} {mg:Str→Option Value} {f T:Addr} {oc kV dc pm cd ct:Value} {od an:Option Addr} {sl:Array (Option Value)} {x:Str} {st:Stmt} {ps ks:List Str} {o:Obj} {items:Array Value} {n:Nat} {dvs:List V} (X:K.In h) (G:h.Ns mainGlobals mg)
 (hb:∀ (kV doc pm:Value) (an:Option Addr) (cdv ct:Value) (us:List Value),(us++items.toList).length=ps.length→∃ k,bindArgs (PySem.W.fnOf x x (gQ st) (dI st) (aP st) (.ref T) kV doc pm an cdv ct) ⟨us,[]⟩=(seqItems? (.ref T) >>= k)∧k (some items)=pure (ps.zip (us++items.toList)))
 (hk:∀ (kV doc pm:Value) (an:Option Addr) (cdv ct:Value) (us ws:List Value),ws.length=ks.length→(us++ws).length=ps.length→∃ k,bindArgs (PySem.W.fnOf x x (gQ st) (dI st) (aP st) (.ref T) kV doc pm an cdv ct) ⟨us,ks.zip ws⟩=(seqItems? (.ref T) >>= k)∧k (some items)=pure (ps.zip (us++ws)))
 (hp:ps ≠ [])
 (a:PySem.W.nsIn K mainGlobals x=some (some (.ref f))) (l:K.lookup f=some ⟨oc,od,.func (PySem.W.fnOf x x (gQ st) (dI st) (aP st) (.ref T) kV dc pm an cd ct),sl⟩) (c:PySem.W.codeIn K cd x=true) (k:PySem.W.keepIn K (.ref f)=true)
 (hT:K.lookup T=some o) (hs:o.data = .seq items n) (hv:Vals dvs items.toList):DgD K mg x st ps dvs ks :=
 QX (ds:=items.toList) X G hb hk hp a l c k hT hs hv
section
variable {X:Cx} {fl:List Fl} {e ke:Expr} {es:List Expr} {pos p kpos:Pos} {x kn:Str} {ps:List Str} {n:Nat} {F:List D→Option D} {fa:FA} {fk:FE} {i:Int} {dvs:List V}
theorem QZ {K:PySem.W.Frag}:BrC K (fun xs H Q=>(∃ i,xs=[.int i]∧Q (.int i) H)∨∃ k,xs=[.bl k]∧Q (.int (if k then 1 else 0)) H) HJ:=by
 intro H xs ds d Q r e q
 unfold HJ at e
 split at e
 ·cases e
  cases r with
  | cons r1 r2 =>
   cases r2
   obtain rfl:=r1.intE
   exact .inl ⟨_,rfl,q _ rfl (.int _)⟩
 ·cases e
  cases r with
  | cons r1 r2 =>
   cases r2
   obtain rfl:=r1.blE
   exact .inr ⟨_,rfl,q _ rfl (.int _)⟩
 ·cases e
theorem uW {j pos'} {a:Expr} {f:FE} (h:DE X fl .P a f):DT X fl (.Compare a [.Is] [.Constant .none j pos'] pos) (aM (dUn vW f)):=PT.imp (G5 (Qg h)) fun σ H Q h=>by
 obtain ⟨G,ow,δ,c,R,hf,q⟩:=h
 obtain ⟨d,e1,e2⟩:=bind1 hf
 obtain ⟨x,e3,e4⟩:=bind1 e1
 cases e4
 cases e2
 refine ⟨G,ow,δ,x,R,e3,fun v H1 s1 r1=>?_⟩
 refine ⟨decide (v = .non),rfl,?_⟩
 rw [Bk (RA.same (Same.refl H1) r1)]
 exact q H1 s1
theorem Ly {p:Pos} (ha:DB X fl .P [e] fa) (hg:Gl X "int") (hm:X.mg "int" = none)
 (he:starEach [e] X.env=(false,eval e X.env) :: starEach [] X.env:=by rfl) (hpl:(backTo pos (starEach [] X.env)).any (·.1)=false:=by rfl):DE X fl .FC (.Call (.Name "int" p) [e] [] pos) (dCall HJ fa) :=
 PE.imp (sJ Ez hg hm boot_int ha (by decide) (by decide) he hpl) fun σ H Q h=>by
 obtain ⟨G,ow,δ,d,R,hf,q⟩:=h
 obtain ⟨ds,e1,e2⟩:=bind1 hf
 exact ⟨G,ow,δ,ds,R,e1,fun vs H' s r'=>QZ H' vs ds d Q r' e2 fun v hv rv=>q v H' s (.inl ⟨hv,rv⟩)⟩
end
end D3
namespace D3
open PySem PySem.Spec PyProof.Rows L2 My
section
variable {X:Cx}
theorem zL:∀ {bs:List Bool} {its:List Value},Vals (bs.map V.bl) its→its=bs.map Value.bool
 | [],_,.nil=>rfl
 | b :: r,_,.cons h t=>by
  cases h
  rw [zL t]
  rfl
theorem all_range (bs:List Bool):(aN bs.length).all (fun i=>bs.getD i false)=bs.all id:=by
 rw [Bool.eq_iff_iff,fj,fj]
 constructor
 ·intro h b hb
  obtain ⟨i,hi,rfl⟩:=List.getElem_of_mem hb
  have:=h i (cA.mpr hi)
  rw [bR,bf hi] at this
  exact this
 ·intro h i hi
  have hi:=cA.mp hi
  rw [bR,bf hi]
  exact h _ (gq hi)
theorem zM {prog:Program} {w:World} {A:Around} (bs:List Bool):TruthOf prog w A (fun i v=>(bs.map Value.bool).toArray[i]? = some v) (fun i=>bs.getD i false):=by
 intro i v s Q E hv hQ
 have hv':(bs.map Value.bool)[i]? = some v:=by simpa using hv
 rw [bx] at hv'
 cases e:bs[i]? with
 | none=>rw [e] at hv';cases hv'
 | some b =>
  rw [e] at hv'
  cases hv'
  have eb:bs.getD i false=b:=by rw [bR,e];rfl
  have hQ':Q (bs.getD i false) s:=hQ
  rw [eb] at hQ'
  exact wpAny_truthy_bool hQ'
theorem Fx (hc:X.calm=true):mL X (.builtin "all") (fun xs H Q=>∃ (p:Addr) (bs:List Bool),xs=[.ref p]∧SqL X.K H p (bs.map V.bl)∧Q (.bl (bs.all id)) H):=by
 intro pins s σ H xs us Q I r h
 obtain ⟨p,bs,rfl,hx,q⟩:=h
 obtain ⟨u,rfl,rx⟩:=vals1 r
 cases rx
 obtain ⟨its,rvs,pl,hz⟩:=I.list hx
 obtain rfl:=zL rvs
 have hl:s.heap.IsList p (bs.map Value.bool).toArray:=pl.isList
 have hlt:p < s.heap.objs.size:=by obtain ⟨_,e,_⟩:=id hl;exact Heap.lt_size e
 refine call_all_walk (wpAny_pyIter_list hl ?_)
 refine ⟨_,_,_,_,_,_,_,rfl,Walks.list (A:=X.A.in1) (I.ok.hd hc) _ p (bL hlt) (bs.map Value.bool).toArray,⟨⟨_,Heap.get?_push_size _ rfl,rfl,rfl⟩,hl.push _⟩,zM bs,fun h' tk hk=>?_⟩
 have e:(bs.map Value.bool).toArray.size=bs.length:=by simp
 rw [e,all_range]
 exact ⟨.bl _,H,I.kept (old_kept hk),rfl,q⟩
theorem sS {K:PySem.W.Frag} {ok:Ok} {pl:Bool} {H:Hp}:∀ {l:List D} {bs:List Bool} {ys:List V},kO l=some bs→RAs K ok pl H ys l→ys=bs.map V.bl
 | [],_,_,e,.nil=>by cases e;rfl
 | d :: r,bs,_,e,.cons h t=>by
  cases d <;> first | (cases e;done) | skip
  obtain rfl:=h.blE
  cases e2:kO r with
  | none=>rw [kO,e2] at e;cases e
  | some m =>
   rw [kO,e2] at e
   cases e
   rw [sS e2 t]
   rfl
theorem Io {K:PySem.W.Frag}:BrC K (fun xs H Q=>∃ (p:Addr) (bs:List Bool),xs=[.ref p]∧SqL K H p (bs.map V.bl)∧Q (.bl (bs.all id)) H) HW:=by
 intro H xs ds d Q r e q
 unfold HW at e
 split at e
 ·next l =>
  cases e2:kO l with
  | none=>rw [e2] at e;cases e
  | some bs =>
   rw [e2] at e
   cases e
   cases r with
   | cons r1 r2 =>
    cases r2
    obtain ⟨a,ys,rfl,hx,hr⟩:=r1.lstE
    obtain rfl:=sS e2 hr
    exact ⟨a,bs,rfl,hx,q _ rfl (.bl _)⟩
 ·cases e
end
section
variable {X:Cx} {fl:List Fl} {a:Expr} {f:FE} {pos:Pos} {ta:TE}
end
section
variable {X:Cx} {fl:List Fl} {a b c:Expr} {f fa fb fc:FE} {pos:Pos}
theorem pF {j pos'} (h:DE X fl .P a f):DT X fl (.Compare a [.IsNot] [.Constant .none j pos'] pos) (aM (dUn mq f)):=PT.imp (G5 (Dk h)) fun σ H Q h=>by
 obtain ⟨G,ow,δ,bb,R,hf,q⟩:=h
 obtain ⟨d,hf,hd⟩:=bind1 hf
 obtain ⟨x,e1,e2⟩:=bind1 hf
 cases e2
 cases hd
 refine ⟨G,ow,δ,x,R,e1,fun v H1 s1 r1=>?_⟩
 refine ⟨!decide (v = .non),rfl,?_⟩
 rw [Bk (RA.same (Same.refl H1) r1)]
 exact q H1 s1
end
section
variable {X:Cx} {fl:List Fl} {a b:Expr} {f g:FE} {pos:Pos}
end
end D3
namespace D3
open PySem PySem.Spec PyProof.Rows L2 My
section
variable {X:Cx} {fl:List Fl} {e a b c:Expr} {es rest:List Expr} {k:Kd} {f fa fb fc:FE} {ft gt:FT} {pos:Pos}
theorem DN:DE X fl .T (.Dict [] [] pos) (dC (.dict [])):=PE.imp HB fun σ H Q h=>by
 obtain ⟨G,ow,δ,d,R,hf,q⟩:=h
 cases hf
 intro p hp
 exact q _ _ (fJ hp _) ⟨[p],.dic d7 (.inl ⟨rfl,rfl⟩),cU.mpr ⟨List.not_mem_nil,.nil⟩,fun x hx=>by rw [aQ.mp hx];exact hp⟩
theorem Uy (h:DE X fl .T e f):DE X fl .C e f:=lD h fun Hb H G ow σ δ v d R r=>by
 obtain ⟨as,h1,h2,h3⟩:=r
 exact h1.ra h3
theorem Lz (i:Nat) (hn:isN fl[i]? = true) {x:Str} (hN:X.N[i]? = some x:=by rfl) (hv:Vis X.env.scope x:=by first | exact Or.inl rfl | exact Or.inr (Or.inl rfl) | exact Or.inr (Or.inr rfl)) (hd:(x == ("__debug__" : Str))=false:=by decide)
 (hcd:(x == ("__classdict__" : Str))=false:=by decide):DE X fl .P (.Name x pos) (aD i):=by
 refine PE.imp (lY hN hv hd hcd) fun σ H Q h=>?_
 obtain ⟨G,ow,δ,d,R,hf,q⟩:=h
 obtain ⟨v,h1,h2,_⟩:=R.nr i d hn (pC hf)
 exact ⟨v,h1,q v H (Same.refl H) (h2.ra fun _ _=>trivial)⟩
end
section
variable {K:PySem.W.Frag} {fl:List Fl}
def owN (ow:Ow) (i:Nat) (as:List Addr):Ow:=⟨ow.s,fun j=>if j=i then as else ow.n j⟩
theorem jX {ow:Ow} {i:Nat} {as:List Addr}:(owN ow i as).n i=as:=if_pos rfl
theorem jF {ow:Ow} {i j:Nat} {as:List Addr} (h:j ≠ i):(owN ow i as).n j=ow.n j:=if_neg h
theorem Rel.setN {G:Gh} {ow:Ow} {σ:St} {H H':Hp} {δ:DS} {i:Nat} {v:V} {d:D} (R:Rel K fl G ow σ H δ) (s:Same H H') (hfl:fl[i]? = some .N) (hi:i < σ.length) (r:Rs K G.H0 ow H H' .T v d) :
 ∃ ow',Rel K fl G ow' (σ.set i (some v)) H' (δ.set i (some (.d d))):=by
 have R':=R.grow s
 obtain ⟨as,h1,h2,h3⟩:=r
 have no:∀ a,ow i ≠ some a:=fun a z=>by
  obtain ⟨_,hz,_⟩:=R.own i a z
  rw [hfl] at hz
  rcases hz with ⟨z,_⟩ | ⟨z,_⟩ <;> cases z
 have sub:∀ b,okA ow b∧H b ≠ none→okA (owN ow i as) b:=fun b z=>⟨z.1.1,fun j e=>by
  by_cases hj:j=i
  ·subst hj
   rw [jX] at e
   exact z.2 (h3 b e)
  ·rw [jF hj] at e
   exact z.1.2 j e⟩
 have old:∀ {v:V} {d:D},RA K (okA ow) true H v d→RA K (okA (owN ow i as)) true H' v d:=fun r=>(r.track.imp sub (fun z=>z)).same s
 have olds:∀ {v:List V} {d:List D},RAs K (okA ow) true H v d→RAs K (okA (owN ow i as)) true H' v d:=fun r=>(r.track.imp sub (fun z=>z)).same s
 refine ⟨owN ow i as,R'.s0,R'.s1,by rw [bU,bU];exact R.len,fun j a h=>?_,R.inj,R.pin,fun j d' g1 gn g2=>?_,fun j d' g1 gn g2 g3=>?_,fun j a h=>?_,fun j j' a h h'=>?_,fun j j' a h=>?_,fun j h=>?_,fun j d' gn g1=>?_⟩
 ·have hj:j ≠ i:=fun z=>no a (z ▸ h)
  obtain ⟨h0,hf,xs,ds,g1,g2,g3,g4⟩:=R.own j a h
  exact ⟨h0,hf,xs,ds,by rw [aV (Ne.symm hj)];exact g1,s _ _ g2,olds g3,by rw [aV (Ne.symm hj)];exact g4⟩
 ·rcases gJ g1 with ⟨rfl,e⟩ | ⟨hj,e⟩
  ·rw [hfl] at gn;cases gn
  ·obtain ⟨v',g3,g4⟩:=R.dat j d' e gn g2
   exact ⟨v',by rw [aV (Ne.symm hj)];exact g3,old g4⟩
 ·rcases gJ g1 with ⟨rfl,e⟩ | ⟨hj,e⟩
  ·rw [hfl] at gn;cases gn
  ·exact R.oo j d' e gn g2 g3
 ·by_cases hj:j=i
  ·subst hj
   rw [jX] at h
   exact ⟨R.same0.free (h3 a h),h1.chd a h,.inl ⟨hfl,R.s1.free (h3 a h)⟩⟩
  ·rw [jF hj] at h
   exact R'.nt j a h
 ·by_cases hj:j=i
  ·by_cases hj':j'=i
   ·rw [hj,hj']
   ·subst hj
    rw [jX] at h
    rw [jF hj'] at h'
    exact absurd (h3 a h) (R.nt j' a h').2.1.ne
  ·rw [jF hj] at h
   by_cases hj':j'=i
   ·subst hj'
    rw [jX] at h'
    exact absurd (h3 a h') (R.nt j a h).2.1.ne
   ·rw [jF hj'] at h'
    exact R.nd j j' a h h'
 ·by_cases hj:j=i
  ·subst hj
   rw [jX] at h
   exact fun z=>by
    obtain ⟨_,_,_,_,_,g2,_⟩:=R.own j' a z
    rw [h3 a h] at g2
    cases g2
  ·rw [jF hj] at h
   exact R.ns j j' a h
 ·have hj:j ≠ i:=fun z=>by subst z;rw [hfl] at h;cases h
  rw [jF hj]
  exact R.np j h
 ·rcases gJ g1 with ⟨rfl,e⟩ | ⟨hj,e⟩
  ·cases e
   exact ⟨v,by rw [cj hi],by rw [jX];exact h1,by rw [jX];exact h2⟩
  ·obtain ⟨v',g3,g4⟩:=R'.nr j d' gn e
   exact ⟨v',by rw [aV (Ne.symm hj)];exact g3,by rw [jF hj];exact g4⟩
theorem Rel.mutN {G:Gh} {ow:Ow} {σ:St} {H:Hp} {δ:DS} {i:Nat} {a:Addr} {u u':HO} [cu:Chg u] [cu':Chg u'] {d:D} {v:V} {as:List Addr} (R:Rel K fl G ow σ H δ) (hfl:fl[i]? = some .N) (hi:i < δ.length) (ha:a ∈ ow.n i) (hx:H a=some u) (hv:σ[i]? = some (some v))
 (hr:RT K (upd H a u') v d as) (hs:∀ b ∈ as,b ∈ ow.n i) (hd:as.Nodup):∃ ow',Rel K fl G ow' σ (upd H a u') (δ.set i (some (.d d))):=by
 have na:¬ okA ow a:=fun z=>z.2 i ha
 have hF:G.HF a=none:=by
  rcases (R.nt i a ha).2.2 with ⟨_,z⟩ | z
  ·exact z
  ·rw [hfl] at z;cases z
 have no:∀ a,ow i ≠ some a:=fun a z=>by
  obtain ⟨_,hz,_⟩:=R.own i a z
  rw [hfl] at hz
  rcases hz with ⟨z,_⟩ | ⟨z,_⟩ <;> cases z
 have sub:∀ b,okA ow b→okA (owN ow i as) b:=fun b z=>⟨z.1,fun j e=>by
  by_cases hj:j=i
  ·subst hj
   rw [jX] at e
   exact z.2 j (hs b e)
  ·rw [jF hj] at e
   exact z.2 j e⟩
 have tr:∀ b,Chd (H b)→Chd (upd H a u' b):=fun b z=>by
  by_cases hb:b=a
  ·rw [hb,d7];exact ⟨_,rfl,cu'⟩
  ·rw [cM hb];exact z
 refine ⟨owN ow i as,R.s0,fun b o hb=>?_,by rw [bU];exact R.len,fun j b h=>?_,R.inj,R.pin,fun j d' g1 gn g2=>?_,fun j d' g1 gn g2 g3=>?_,fun j b h=>?_,fun j j' b h h'=>?_,fun j j' b h=>?_,fun j h=>?_,fun j d' gn g1=>?_⟩
 ·rw [cM (fun z=>by subst z;rw [hF] at hb;cases hb)]
  exact R.s1 b o hb
 ·have hj:j ≠ i:=fun z=>no b (z ▸ h)
  obtain ⟨h0,hf,zs,ds,g1,g2,g3,g4⟩:=R.own j b h
  have hb:b ≠ a:=fun z=>R.ns i j a ha (z ▸ h)
  exact ⟨h0,hf,zs,ds,g1,by rw [cM hb];exact g2,(g3.upd hx na).imp sub (fun z=>z),by rw [aV (Ne.symm hj)];exact g4⟩
 ·rcases gJ g1 with ⟨rfl,e⟩ | ⟨hj,e⟩
  ·rw [hfl] at gn;cases gn
  ·obtain ⟨v',g3,g4⟩:=R.dat j d' e gn g2
   exact ⟨v',g3,(g4.upd hx na).imp sub (fun z=>z)⟩
 ·rcases gJ g1 with ⟨rfl,e⟩ | ⟨hj,e⟩
  ·rw [hfl] at gn;cases gn
  ·exact R.oo j d' e gn g2 g3
 ·by_cases hj:j=i
  ·subst hj
   rw [jX] at h
   obtain ⟨g1,g2,g3⟩:=R.nt j b (hs b h)
   exact ⟨g1,tr b g2,g3⟩
  ·rw [jF hj] at h
   obtain ⟨g1,g2,g3⟩:=R.nt j b h
   exact ⟨g1,tr b g2,g3⟩
 ·have old:∀ j b,b ∈ (owN ow i as).n j→b ∈ ow.n j:=fun j b h=>by
   by_cases hj:j=i
   ·subst hj;rw [jX] at h;exact hs b h
   ·rw [jF hj] at h;exact h
  exact R.nd j j' b (old j b h) (old j' b h')
 ·by_cases hj:j=i
  ·subst hj;rw [jX] at h;exact R.ns j j' b (hs b h)
  ·rw [jF hj] at h;exact R.ns j j' b h
 ·have hj:j ≠ i:=fun z=>by subst z;rw [hfl] at h;cases h
  rw [jF hj]
  exact R.np j h
 ·rcases gJ g1 with ⟨rfl,e⟩ | ⟨hj,e⟩
  ·cases e
   exact ⟨v,hv,by rw [jX];exact hr,by rw [jX];exact hd⟩
  ·obtain ⟨v',g3,g4,g5⟩:=R.nr j d' gn e
   exact ⟨v',g3,by rw [jF hj];exact g4.upd hx (fun z=>hj (R.nd j i a z ha)),by rw [jF hj];exact g5⟩
end
section
variable {K:PySem.W.Frag} {H:Hp}
end
section
variable {X:Cx} {fl:List Fl} {e ke:Expr} {f fk:FE} {pos:Pos}
theorem LC {i:Nat} {x:Str} {pos':Pos} (hfl:fl[i]? = some .N) (hN:X.N.Nodup) (hi:X.N[i]? = some x) (hv:X.env.scope.names.lookup x=some .local∨X.env.scope.names.lookup x=some .cell) (h:DE X fl .T e f)
 (hs:swapsWith e (some (.Name x pos')) pos.line X.env=pure false:=by rfl) (hfn:X.fn x=true∨X.env.scope.names.lookup x=some .local:=by first | exact .inl rfl | exact .inr rfl) :
 DS1 X fl (.Assign [.Name x pos'] e pos) (bJ i f):=PS.imp (uF (i:=i) hN hi hv h hs hfn) fun Dn σ H h=>by
 obtain ⟨G,ow,δ,o,R,hf,q⟩:=h
 unfold bJ at hf
 by_cases hl:i < δ.length
 ·rw [if_pos hl] at hf
  obtain ⟨d,e1,e2⟩:=bind1 hf
  cases e2
  refine ⟨G,ow,δ,d,R,e1,fun v H' s r=>?_⟩
  obtain ⟨ow',R'⟩:=R.setN s hfl (nY R hl) r
  exact q ow' _ H' R'
 ·rw [if_neg hl] at hf
  cases hf
end
end D3
namespace D3
open PySem
def qM (g:List D→Option (List D)) (i:Nat) (x:Option D) (δ:DS):Option Oc:=match x with
 | some (.list l)=>match g l with
  | some m=>some (.nx (δ.set i (some (.d (.list m)))))
  | none=>none
 | _=>none
def vY (n:Nat) (j:Int):Nat:=if j < 0 then (j + n).toNat else min j.toNat n
def Bo (j:Int) (d:D) (l:List D):Option (List D):=if l.length < 1000000∧-(2 ^ 62) ≤ j∧j < 2 ^ 62 then some (l.take (vY l.length j)++d :: l.drop (vY l.length j)) else none
def qIn (i:Nat) (k d x:Option D) (δ:DS):Option Oc:=match k,d with
 | some (.int j),some d=>qM (Bo j d) i x δ
 | _,_=>none
def zN (i:Nat) (fk f:FE):FS:=fun δ=>qIn i (fk δ) (f δ) (aD i δ) δ
def zO:D→Bool
 | .list _=>true
 | .tuple _=>true
 | .dict _=>true
 | _=>false
def iiD:List (D × D)→Option (List (Int × Int))
 | []=>some []
 | (.int i,.int j) :: r=>(iiD r).map ((i,j) :: ·)
 | _=>none
mutual
def noK:D→Bool
 | .none=>true
 | .bool _=>true
 | .int _=>true
 | .str _=>true
 | .list xs=>zP xs
 | .tuple xs=>zP xs
 | .dict kvs=>(iiD kvs).isSome
def zP:List D→Bool
 | []=>true
 | x :: r=>noK x && zP r
end
theorem uX:∀ l:List D,(∀ d ∈ l,noK d=true)→zP l=true
 | [],_=>rfl
 | a :: r,h=>by
  rw [zP,h a (aG ..),uX r fun d hd=>h d (aF _ hd)]
  rfl
noncomputable def o9:D→D→Option D:=fun x y=>if (SeqAt.shaped x && SeqAt.shaped y)=true then some (.bool (PyData.eqv x y)) else @ite _ (x=y∧zO x=true∧x.depth ≤ 64∧noK x=true) (Classical.propDecidable _) (some (.bool true)) none
theorem ur {x y d:D} (h:gEq x y=some d):o9 x y=some d:=by
 unfold gEq at h
 unfold o9
 split at h
 ·next z=>rw [if_pos z];exact h
 ·cases h
theorem Ip {x:D} (hs:SeqAt.shaped x=false) (hb:zO x=true) (hd:x.depth ≤ 64) (hn:noK x=true):o9 x x=some (.bool true):=by
 unfold o9
 rw [hs,if_neg (by decide),if_pos ⟨rfl,hb,hd,hn⟩]
def O8:D→Option (List D)
 | .list l=>some l
 | .tuple l=>some l
 | _=>none
def qSq (x:Option D):Option (List D):=x.bind O8
def Q0 (f:FE):FA:=fun δ=>(f δ).bind O8
theorem Uz {f:FE} {δ:DS}:Q0 f δ=qSq (f δ):=rfl
theorem Q5 {l:List D}:qSq (some (.list l))=some l:=rfl
theorem Q6 {l:List D}:qSq (some (.tuple l))=some l:=rfl
theorem Q7 {g:List D→Option (List D)} {i:Nat} {x:Option D} {δ:DS} {o:Oc} (h:qM g i x δ=some o):∃ l m,x=some (.list l)∧g l=some m∧o = .nx (δ.set i (some (.d (.list m)))):=by
 unfold qM at h
 split at h
 ·next l =>
  split at h
  ·next m e=>cases h;exact ⟨l,m,rfl,e,rfl⟩
  ·cases h
 ·cases h
theorem zQ {i:Nat} {fk f:FE} {δ:DS}:zN i fk f δ=qIn i (fk δ) (f δ) (aD i δ) δ:=rfl
theorem rO {i:Nat} {j:Int} {d:D} {x:Option D} {δ:DS}:qIn i (some (.int j)) (some d) x δ=qM (Bo j d) i x δ:=rfl
theorem Ir {g:List D→Option (List D)} {i:Nat} {l m:List D} {δ:DS} (h:g l=some m):qM g i (some (.list l)) δ=some (.nx (δ.set i (some (.d (.list m))))):=by
 show (match g l with
  | some m=>some (Oc.nx (δ.set i (some (.d (.list m)))))
  | none=>none)=_
 rw [h]
def gIn:D→D→Option D:=fun x y=>match y with
 | .list l=>if (SeqAt.shaped x && SeqAt.shaped (.list l))=true then some (.bool (l.any fun z=>PyData.eqv z x)) else none
 | .tuple l=>if (SeqAt.shaped x && SeqAt.shaped (.tuple l))=true then some (.bool (l.any fun z=>PyData.eqv z x)) else none
 | _=>none
def qRL (a:Option D):Option Oc:=match a with
 | some d=>some (.ex "" "" d)
 | none=>none
def zR (fe:FE):FS:=fun δ=>(fe δ).bind fun d=>some (.ex "" "" d)
theorem sU {fe:FE} {δ:DS}:zR fe δ=qRL (fe δ):=by
 unfold zR qRL
 cases fe δ <;> rfl
theorem ni {d:D}:qRL (some d)=some (.ex "" "" d):=rfl
def LK (o:Option Oc):Option D:=match o with
 | some (.rt d)=>some d
 | some (.ex _ _ d)=>some d
 | some (.nx _)=>some .none
 | _=>none
def fnL (p q:Nat) (b:FS):List D→Option D:=fun ds=>if ds.length=p then LK (b (ds.map (fun d=>some (.d d))++aK q none)) else none
theorem wO {p q:Nat} {b:FS} {ds:List D}:fnL p q b ds=if ds.length=p then LK (b (ds.map (fun d=>some (.d d))++aK q none)) else none:=rfl
theorem nj {c f:Str} {d:D}:LK (some (.ex c f d))=some d:=rfl
end D3
namespace D3
open PySem PySem.Spec PyProof.Rows L2 My
section
variable {X:Cx}
def LQ:V→List V→Hp→VK→Prop:=fun x vs H Q=>∃ l xs i y,x = .ref l∧vs=[.int i,y]∧H l=some (.lst xs)∧-(2 ^ 63) ≤ i∧i < 2 ^ 63∧xs.length < sizeLine∧Q .non (upd H l (.lst (xs.take (vY xs.length i)++y :: xs.drop (vY xs.length i))))
theorem LR (li:List Value) (k:Nat) (y:Value):(li.toArray.extract 0 k).push y++li.toArray.extract k=(li.take k++y :: li.drop k).toArray:=by
 apply Array.ext'
 simp [List.extract_eq_drop_take]
 exact List.take_of_length_le (by simp)
theorem Fy:MtM X "list.insert" LQ:=by
 intro pins s σ H x vs v us Q I rx rv h
 obtain ⟨l,xs,i,y,rfl,rfl,hH,h1,h2,hz,q⟩:=h
 cases rx
 obtain ⟨u1,u2,rfl,ru1,ru2⟩:=rv.two
 obtain ⟨t,rfl⟩:=ru1
 obtain ⟨z,its,n,r,hl,e⟩:=I.lstM hH
 refine call_meets F.slot_list_insert ⟨_,e,rfl⟩ F.entry_list_insert (F.args_list_insert_3 _ _ _) (AutoSeq1.list_insert_list_int_val_1 l its.toArray n i t u2 (by simp [fitsIndex_both h1 h2]) (by rw [aZ];omega)) ⟨e,?_⟩
 refine ⟨.non,_,I.lset (its':=its.take (vY xs.length i)++u2 :: its.drop (vY xs.length i)) hH e ?_ ((r.take _).append (.cons ru2 (r.drop _))) ?_,rfl,q⟩
 ·show (its.toArray.extract 0 (if i < 0 then (i + (its.toArray.size:Int)).toNat else min i.toNat its.toArray.size)).push u2++its.toArray.extract (if i < 0 then (i + (its.toArray.size:Int)).toNat else min i.toNat its.toArray.size)=_
  rw [hl]
  exact LR its (vY its.length i) u2
 ·rw [bK,bZ,List.length_take,List.length_drop]
  omega
end
section
variable {X:Cx} {fl:List Fl} {e ke:Expr} {f fk:FE} {pos:Pos}
theorem Bp {i:Nat} {x:Str} {vpos apos cpos:Pos} (hfl:fl[i]? = some .O) (hk:DE X fl .P ke fk) (h:DE X fl .A e f) (hN:X.N[i]? = some x) (hv:Vis X.env.scope x:=by first | exact Or.inl rfl | exact Or.inr (Or.inl rfl) | exact Or.inr (Or.inr rfl)) (hd:(x == ("__debug__" : Str))=false:=by decide)
 (hcd:(x == ("__classdict__" : Str))=false:=by decide)
 (hs:swapsWith (.Call (.Attribute (.Name x vpos) "insert" apos) [ke,e] [] cpos) none pos.line X.env=pure false:=by rfl)
 (hbase:attributeBase (.Name x vpos) "insert" X.env (eval (.Name x vpos) X.env)=eval (.Name x vpos) X.env:=by rfl)
 (hfew:((backTo cpos (starEach [ke,e] X.env)).all (fun x=>!x.1) && (backToKw cpos (keywordEach [] X.env)).all (fun x=>x.1.isSome)
  && decide (([ke,e]:List Expr).length + ([]:List Keyword).length + (if ([]:List Keyword).isEmpty then 0 else 1) < 30))=true:=by rfl)
 (hline:(apos.endLine == cpos.line)=true:=by rfl) (hst:starEach [ke,e] X.env=(false,eval ke X.env) :: starEach [e] X.env:=by exact fD rfl) (hst2:starEach [e] X.env=(false,eval e X.env) :: starEach [] X.env:=by exact fD rfl) (hplain:(backTo cpos (starEach [e] X.env)).any (·.1)=false:=by exact oZ rfl) :
 DS1 X fl (.Expr (.Call (.Attribute (.Name x vpos) "insert" apos) [ke,e] [] cpos) pos) (zN i fk f) :=
 PS.imp (Dp (Hs PySem.F.plainAttrs_list PySem.F.slot_list_insert PySem.F.type_list_insert Fy (lY hN hv hd hcd) (iu hk (iu h lZ hst2) hst) hbase hfew hline hst hplain) hs) fun Dn σ H hh=>by
 obtain ⟨G,ow,δ,o,R,hf,q⟩:=hh
 unfold zN qIn at hf
 split at hf
 case h_2=>cases hf
 next j d ek ed =>
 obtain ⟨l,m,e1,e2,rfl⟩:=Q7 hf
 unfold Bo at e2
 by_cases hl:l.length < 1000000∧-(2 ^ 62) ≤ j∧j < 2 ^ 62
 case neg=>rw [if_neg hl] at e2;cases e2
 rw [if_pos hl] at e2
 cases e2
 obtain ⟨a,xs,ho,h1,h2,h3⟩:=Bd R hfl e1
 refine ⟨_,h1,.inl ⟨rfl,_,SqL.of h2⟩,G,ow,δ,_,R,ek,fun v H' s r=>?_⟩
 obtain rfl:=RA.intE r
 refine ⟨G,ow,δ,d,R.grow s,ed,fun u H2 s2 r2=>?_⟩
 have S:=s.trans s2
 refine ⟨a,xs,j,u,rfl,rfl,S _ _ h2,by omega,by omega,by rw [h3.length];exact lg hl.1 (by decide),?_⟩
 have R':=R.grow S
 have h3':=h3.same S
 refine q ow σ _ (R'.mut hfl ho ?_)
 rw [h3.length]
 exact (h3'.take _).append (.cons r2 (h3'.drop _))
end
section
variable {X:Cx} {fl:List Fl} {a:Expr} {pos p p2 pos2:Pos} {fa:FA}
end
end D3
namespace D3
open PySem PySem.Spec PyProof.Rows L2 My
section
variable {X:Cx} {pins:List (Addr × Obj)} {σ:L2.St} {H:Hp} {s:Shared}
theorem Iu:∀ {kvs:List (D × D)} {qs:List (Int × Int)},iiD kvs=some qs→dk0 kvs=qs.map fun q=>(.inl q.1,.int q.2)
 | [],_,e=>by cases e;rfl
 | (k,v) :: r,qs,e=>by
  unfold iiD at e
  split at e
  ·next h=>cases h
  ·next i j r' h =>
   cases h
   cases e3:iiD r with
   | none=>rw [e3] at e;cases e
   | some q2 =>
    rw [e3] at e
    cases e
    rw [dk0,Iu e3]
    rfl
  ·cases e
theorem Iv:∀ {kvs:List (D × D)} {qs:List (Int × Int)},iiD kvs=some qs→vX kvs=true
 | [],_,_=>rfl
 | (a,b) :: r,qs,h=>by
  unfold iiD at h
  split at h
  ·next e=>cases e
  ·next e =>
   cases e
   cases e3:iiD r with
   | none=>rw [e3] at h;cases h
   | some S=>exact (show vX r=true from Iv e3)
  ·cases h
theorem uw {kvs:List (D × D)} (h:(iiD kvs).isSome=true):vX kvs=true:=by
 obtain ⟨_,h⟩:=dZ.mp h
 exact Iv h
theorem Q8 {kvs:List (D × D)} {qs:List (Int × Int)} (h:iiD kvs=some qs):dh0 kvs = .dK (dk0 kvs):=by
 cases kvs with
 | nil=>rfl
 | cons q r =>
  obtain ⟨k,v⟩:=q
  unfold dh0
  cases k with
  | int i=>rfl
  | _=>unfold iiD at h;cases h
theorem wQ {P P':Program} {w w':World}:∀ {es:List DictEntry} {kvs:List (Key × Value)},Pairs (dD P w) es kvs→Pairs (dD P' w') es kvs
 | _,_,.nil=>.nil
 | _,_,.cons h1 h2 q=>.cons h1 h2 (wQ q)
theorem wR {P:Program} {w:World}:∀ {es:List DictEntry} {kvs:List (Key × Value)},Pairs (dD P w) es kvs→∀ x ∈ es,∃ kv ∈ kvs,(dD P w).is kv.1 x.key=true
 | _,_,.nil,_,h=>by cases h
 | _,_,.cons h1 h2 q,x,h=>by
  rcases aO.mp h with rfl | z
  ·exact ⟨_,aG,h1⟩
  ·obtain ⟨kv,m,e⟩:=wR q x z
   exact ⟨kv,aF _ m,e⟩
theorem Bq {h:Heap} {a:Addr} {P P':Program} {w w':World} {kvs:List (Key × Value)} (hi:∀ kv ∈ kvs,∃ i,kv.1 = .inl i) (d:h.DictOf (dD P w) a kvs):h.DictOf (dD P' w') a kvs:=by
 obtain ⟨o,es,ep,e,c1,c2,c3,c4,c5⟩:=d
 refine ⟨o,es,ep,e,c1,c2,fun x hx=>?_,wQ c4,c5⟩
 obtain ⟨k,k1,k2⟩:=c3 x hx
 obtain ⟨kv,m,k3⟩:=wR c4 x (Array.mem_def.mp hx)
 have ek:=(dD P w).inj _ _ _ k1 k3
 obtain ⟨i,ei⟩:=hi kv m
 rw [ek,ei] at k1 k2
 exact ⟨.inl i,k1,k2⟩
theorem mR:∀ {qs:List (Int × Int)} {vs:List (Key × Value)},KV (qs.map fun q=>((.inl q.1,.int q.2):Key × V)) vs→vs.map (·.1)=qs.map (fun q=>.inl q.1)∧∀ k v,(k,v) ∈ vs→∃ i j t,k = .inl i∧v = .int j t∧(i,j) ∈ qs
 | [],_,h=>by cases h;exact ⟨rfl,fun _ _ h=>by cases h⟩
 | q :: qs,_,h=>by
  cases h with
  | cons h1 h2 =>
   rename_i b bs
   obtain ⟨e1,e2⟩:=mR h2
   obtain ⟨e3,e4⟩:=h1
   obtain ⟨t,e4⟩:=e4
   refine ⟨by rw [bH,bH,e1,← e3],fun k v hm=>?_⟩
   rcases aO.mp hm with z | z
   ·subst z
    exact ⟨q.1,q.2,t,e3.symm,e4,aG⟩
   ·obtain ⟨i,j,t',z1,z2,z3⟩:=e2 k v z
    exact ⟨i,j,t',z1,z2,aF _ z3⟩
theorem O9 (I:L2.Inv X pins σ H s) {a:Addr} {kvs:List (D × D)} {qs:List (Int × Int)} (hq:iiD kvs=some qs) (h:L2.Rd H a (dh0 kvs)):(a == sysModules)=false∧∃ vs,KV (qs.map fun q=>((.inl q.1,.int q.2):Key × V)) vs∧∀ P w,s.heap.DictOf (dD P w) a vs:=by
 rw [Q8 hq,Iu hq] at h
 obtain ⟨_,hs,vs,kv,hd⟩:=(show gB X.prog X.w H s.heap a (.dK _) from h.ok I.hok)
 exact ⟨hs,vs,kv,fun P w=>Bq (fun x hx=>by obtain ⟨i,_,_,z,_⟩:=(mR kv).2 x.1 x.2 hx;exact ⟨i,z⟩) hd⟩
theorem Iw {A:Around} {s:Shared} {qs:List (Int × Int)} {ka kb:List (Key × Value)} (ra:KV (qs.map fun q=>((.inl q.1,.int q.2):Key × V)) ka) (rb:KV (qs.map fun q=>((.inl q.1,.int q.2):Key × V)) kb) (hn:(kb.map (·.1)).Nodup):PySem.W.KeqHits A s kb ka true:=by
 have hnq:(qs.map fun q=>(Sum.inl q.1:Key)).Nodup:=by rw [← (mR rb).1];exact hn
 have step:∀ (l:List (Key × Value)),(∀ x ∈ l,x ∈ ka)→PySem.W.KeqHits A s kb l true:=by
  intro l
  induction l with
  | nil=>intro _;exact .nil
  | cons x l ih =>
   intro hl
   obtain ⟨k,v⟩:=x
   obtain ⟨i,j,t,rfl,rfl,hm⟩:=(mR ra).2 k v (hl _ aG)
   have hk:(Sum.inl i:Key) ∈ kb.map (·.1):=by rw [(mR rb).1];exact cT.mpr ⟨(i,j),hm,rfl⟩
   obtain ⟨⟨k',y⟩,hy,ek⟩:=cT.mp hk
   have ek:k' = .inl i:=ek
   subst ek
   obtain ⟨i',j',t',e1,rfl,hm'⟩:=(mR rb).2 _ y hy
   cases e1
   have ej:j'=j:=by
    have inj:∀ {l:List (Int × Int)},(l.map fun q=>(Sum.inl q.1:Key)).Nodup→(i,j) ∈ l→(i,j') ∈ l→j'=j:=by
     intro l hnd h1 h2
     induction l with
     | nil=>cases h1
     | cons p l ih =>
      rw [bH,cU] at hnd
      rcases aO.mp h1 with z1 | z1 <;> rcases aO.mp h2 with z2 | z2
      ·rw [← z1] at z2;cases z2;rfl
      ·subst z1;exact absurd (cT.mpr ⟨_,z2,rfl⟩) hnd.1
      ·subst z2;exact absurd (cT.mpr ⟨_,z1,rfl⟩) hnd.1
      ·exact ih hnd.2 z1 z2
    exact inj hnq hm hm'
   subst ej
   obtain ⟨n,hn',en⟩:=j9.mp hy
   have hv:valueAt kb (.inl i)=some (.int j' t'):=valueAt_of_get hn (i:=n) (by rw [bf hn',en])
   have:=SeqAt.EqAt.int_int (A:=A) (s:=s) j' t j' t'
   rw [beq_self_eq_true] at this
   have q:=PySem.W.KeqHits.hit hv this (ih fun x hx=>hl x (aF _ hx))
   rwa [Bool.and_true] at q
 exact step ka fun _ h=>h
theorem wU (I:L2.Inv X pins σ H s) {a b:Addr} {kvs:List (D × D)} (hk:(iiD kvs).isSome=true) (ha:L2.Rd H a (dh0 kvs)) (hb:L2.Rd H b (dh0 kvs)) {A:Around} (hu:A.units < cLine):SeqAt.RcAt A s (.ref a) (.ref b) true:=by
 obtain ⟨qs,hq⟩:=dZ.mp hk
 obtain ⟨ma,va,ka,da⟩:=O9 I hq ha
 obtain ⟨mb,vb,kb,db⟩:=O9 I hq hb
 intro prog w E Q h
 have hn:(vb.map (·.1)).Nodup:=by obtain ⟨_,_,_,_,_,_,_,_,c⟩:=db prog w;exact c
 refine PySem.W.keq_eq (knd:=dD prog w) (r:=true) ma mb (da prog w) (db prog w) hu (fun _=>Iw ka kb hn) ?_
 have e:va.length=vb.length:=by
  have h1:=congrArg oK (mR ka).1
  have h2:=congrArg oK (mR kb).1
  simp at h1 h2
  omega
 rw [e,beq_self_eq_true,mV]
 exact h
theorem Fz (I:L2.Inv X pins σ H s) {a b:Addr} {kvs:List (D × D)} (hk:(iiD kvs).isSome=true) (ha:L2.Rd H a (dh0 kvs)) (hb:L2.Rd H b (dh0 kvs)) {A:Around} (hu:A.units < cLine):SeqAt.EqAt A s (.ref a) (.ref b) true:=by
 by_cases e:a=b
 ·subst e;exact SeqAt.EqAt.same _
 ·exact SeqAt.EqAt.of_refs e (wU I hk ha hb hu)
mutual
theorem L_ (I:L2.Inv X pins σ H s) {ok ok':Ok} {pl pl':Bool}:∀ (d:D) {x y:V} (r1:RA X.K ok pl H x d) (r2:RA X.K ok' pl' H y d) {v u:Value} (_:RelV x v) (_:RelV y u) (A:Around) (hu:A.units + d.depth < cLine) (hn:noK d=true),SeqAt.EqAt A s v u true
 | .none,_,_,r1,r2,_,_,h1,h2,A,hu,hn=>by cases r1;cases r2;cases h1;cases h2;exact SeqAt.EqAt.same _
 | .bool b,_,_,r1,r2,_,_,h1,h2,A,hu,hn=>by cases r1;cases r2;cases h1;cases h2;exact SeqAt.EqAt.same _
 | .int i,_,_,r1,r2,_,_,h1,h2,A,hu,hn=>by
  cases r1;cases r2
  obtain ⟨t,rfl⟩:=h1
  obtain ⟨t',rfl⟩:=h2
  have:=SeqAt.EqAt.int_int (A:=A) (s:=s) i t i t'
  rwa [beq_self_eq_true] at this
 | .str z,_,_,r1,r2,_,_,h1,h2,A,hu,hn=>by
  cases r1;cases r2
  obtain ⟨t,rfl⟩:=h1
  obtain ⟨t',rfl⟩:=h2
  have:=SeqAt.EqAt.str_str (A:=A) (s:=s) z t z t'
  rwa [beq_self_eq_true] at this
 | .list ds,_,_,r1,r2,_,_,h1,h2,A,hu,hn=>by
  obtain ⟨a,xs,rfl,s1,q1⟩:=r1.lstE
  obtain ⟨b,ys,rfl,s2,q2⟩:=r2.lstE
  cases h1;cases h2
  by_cases e:a=b
  ·subst e;exact SeqAt.EqAt.same _
  obtain ⟨its,v1,p1,z1⟩:=I.list s1
  obtain ⟨its2,v2,p2,z2⟩:=I.list s2
  have hd:(PyData.list ds).depth=PyData.depthAll ds + 1:=by simp [PyData.depth]
  have l1:its.length=ds.length:=by rw [← v1.length,q1.length]
  have l2:its2.length=ds.length:=by rw [← v2.length,q2.length]
  refine SeqAt.EqAt.of_refs e ?_
  have R:=SeqAt.RcAt.lists (A:=A) (e:=fun _=>true) p1.isList p2.isList (by rw [aZ,aZ,l1,l2]) (by omega) (fun j g1 g2=>nq I ds q1 q2 v1 v2 A.in1 (by simp only [Around.in1_units];omega) hn j (by simpa using g1) (by simpa using g2))
  rwa [show (aN its.toArray.size).all (fun _=>true)=true by simp] at R
 | .tuple ds,_,_,r1,r2,_,_,h1,h2,A,hu,hn=>by
  obtain ⟨a,xs,rfl,s1,q1⟩:=r1.tupE
  obtain ⟨b,ys,rfl,s2,q2⟩:=r2.tupE
  cases h1;cases h2
  by_cases e:a=b
  ·subst e;exact SeqAt.EqAt.same _
  obtain ⟨its,v1,p1,z1⟩:=I.tuple s1
  obtain ⟨its2,v2,p2,z2⟩:=I.tuple s2
  have hd:(PyData.tuple ds).depth=PyData.depthAll ds + 1:=by simp [PyData.depth]
  have l1:its.length=ds.length:=by rw [← v1.length,q1.length]
  have l2:its2.length=ds.length:=by rw [← v2.length,q2.length]
  refine SeqAt.EqAt.of_refs e ?_
  have R:=SeqAt.RcAt.tuples (A:=A) (e:=fun _=>true) p1 p2 (by omega) (fun j g1 g2=>nq I ds q1 q2 v1 v2 A.in1 (by simp only [Around.in1_units];omega) hn j (by simpa using g1) (by simpa using g2))
  rwa [show ((aN (min its.toArray.size its2.toArray.size)).all (fun _=>true) && its.toArray.size == its2.toArray.size)=true by simp [l1,l2]] at R
 | .dict kvs,_,_,r1,r2,_,_,h1,h2,A,hu,hn=>by
  obtain ⟨a,rfl,ha⟩:=r1.dicE (uw hn)
  obtain ⟨b,rfl,hb⟩:=r2.dicE (uw hn)
  cases h1;cases h2
  exact Fz I hn ha hb (by omega)
theorem nq (I:L2.Inv X pins σ H s) {ok ok':Ok} {pl pl':Bool}:∀ (ds:List D) {xs ys:List V} (_:RAs X.K ok pl H xs ds) (_:RAs X.K ok' pl' H ys ds) {us ws:List Value} (_:Vals xs us) (_:Vals ys ws) (A:Around) (_:A.units + PyData.depthAll ds < cLine) (_:zP ds=true) (j:Nat) (g1:j < us.length) (g2:j < ws.length),SeqAt.EqAt A s us[j] ws[j] true
 | [],_,_,q1,q2,_,_,v1,v2,A,hu,hn,j,g1,g2=>by
  cases q1;cases v1
  exact absurd g1 (ou _)
 | d :: ds,_,_,q1,q2,_,_,v1,v2,A,hu,hn,j,g1,g2=>by
  cases q1 with
  | cons a1 b1 =>
   cases q2 with
   | cons a2 b2 =>
    cases v1 with
    | cons c1 d1 =>
     cases v2 with
     | cons c2 d2 =>
      have hd:PyData.depthAll (d :: ds)=max d.depth (PyData.depthAll ds):=by simp [PyData.depthAll]
      rw [zP,aU] at hn
      cases j with
      | zero=>exact L_ I d a1 a2 c1 c2 A (by omega) hn.1
      | succ j=>exact nq I ds b1 b2 d1 d2 A (by omega) hn.2 j (by simpa using g1) (by simpa using g2)
end
end
section
variable {X:Cx} {K:PySem.W.Frag}
theorem Ma {pins:List (Addr × Obj)} {σ:L2.St} {H:Hp} {s:Shared} (I:L2.Inv X pins σ H s) {ok ok':Ok} {pl pl':Bool} {d:D} {x y:V} (r1:RA X.K ok pl H x d) (r2:RA X.K ok' pl' H y d) {v u:Value} (h1:RelV x v) (h2:RelV y u) (hb:zO d=true) (hn:noK d=true) (A:Around) (hu:A.units + d.depth < cLine):SeqAt.RcAt A s v u true:=by
 cases d with
 | none=>cases hb
 | bool _=>cases hb
 | int _=>cases hb
 | str _=>cases hb
 | list ds =>
  obtain ⟨a,xs,rfl,s1,q1⟩:=r1.lstE
  obtain ⟨b,ys,rfl,s2,q2⟩:=r2.lstE
  cases h1;cases h2
  obtain ⟨its,v1,p1,z1⟩:=I.list s1
  obtain ⟨its2,v2,p2,z2⟩:=I.list s2
  have hd:(PyData.list ds).depth=PyData.depthAll ds + 1:=by simp [PyData.depth]
  have l1:its.length=ds.length:=by rw [← v1.length,q1.length]
  have l2:its2.length=ds.length:=by rw [← v2.length,q2.length]
  have R:=SeqAt.RcAt.lists (A:=A) (e:=fun _=>true) p1.isList p2.isList (by rw [aZ,aZ,l1,l2]) (by omega) (fun j g1 g2=>nq I ds q1 q2 v1 v2 A.in1 (by simp only [Around.in1_units];omega) hn j (by simpa using g1) (by simpa using g2))
  rwa [show (aN its.toArray.size).all (fun _=>true)=true by simp] at R
 | tuple ds =>
  obtain ⟨a,xs,rfl,s1,q1⟩:=r1.tupE
  obtain ⟨b,ys,rfl,s2,q2⟩:=r2.tupE
  cases h1;cases h2
  obtain ⟨its,v1,p1,z1⟩:=I.tuple s1
  obtain ⟨its2,v2,p2,z2⟩:=I.tuple s2
  have hd:(PyData.tuple ds).depth=PyData.depthAll ds + 1:=by simp [PyData.depth]
  have l1:its.length=ds.length:=by rw [← v1.length,q1.length]
  have l2:its2.length=ds.length:=by rw [← v2.length,q2.length]
  have R:=SeqAt.RcAt.tuples (A:=A) (e:=fun _=>true) p1 p2 (by omega) (fun j g1 g2=>nq I ds q1 q2 v1 v2 A.in1 (by simp only [Around.in1_units];omega) hn j (by simpa using g1) (by simpa using g2))
  rwa [show ((aN (min its.toArray.size its2.toArray.size)).all (fun _=>true) && its.toArray.size == its2.toArray.size)=true by simp [l1,l2]] at R
 | dict kvs =>
  obtain ⟨a,rfl,ha⟩:=r1.dicE (uw hn)
  obtain ⟨b,rfl,hb'⟩:=r2.dicE (uw hn)
  cases h1;cases h2
  exact wU I hn ha hb' (by omega)
def UG (K:PySem.W.Frag):R2:=fun x y H Q=>QH K x y H Q∨∃ d,RA K ok1 true H x d∧RA K ok1 true H y d∧zO d=true∧d.depth ≤ 64∧noK d=true∧Q (.bl true) H
theorem Br (hu:X.A.units + 64 < cLine):OpR X (compareOp .Eq) (UG X.K):=by
 intro pins s σ H x y v u Q I rx ry h
 rcases h with h | ⟨d,r1,r2,hb,hd,hn,q⟩
 ·exact mY hu pins s σ H x y v u Q I rx ry h
 ·exact Ma I r1 r2 rx ry hb hn X.A (by omega) _ _ _ _ ⟨.bl true,H,I,rfl,q⟩
theorem Iz:BrO K (UG K) o9:=by
 intro H x y dx dy d Q rx ry e q
 unfold o9 at e
 by_cases z:(SeqAt.shaped dx && SeqAt.shaped dy)=true
 ·rw [if_pos z] at e
  cases e
  rw [aU] at z
  exact .inl ⟨dx,dy,rx.rd (SeqAt.canLay_of_shaped z.1),ry.rd (SeqAt.canLay_of_shaped z.2),z.1,z.2,q _ rfl (.bl _)⟩
 ·rw [if_neg z] at e
  split at e
  ·next c =>
   obtain ⟨c1,c2,c3,c4⟩:=c
   subst c1
   cases e
   exact .inr ⟨dx,rx,ry,c2,c3,c4,q _ rfl (.bl _)⟩
  ·cases e
end
section
variable {X:Cx} {fl:List Fl} {es:List Expr} {pos:Pos}
end
section
variable {X:Cx} {fl:List Fl} {e:Expr} {f:FE}
theorem UJ {tg l:Expr} {t1 t2:TI} (h1:PI X tg l t1) (h2:PI X tg l t2):PI X tg l (fun σ H R=>t1 σ H R∨t2 σ H R):=fun pins s σ H R I h=>by
 rcases h with h | h
 ·exact h1 pins s σ H R I h
 ·exact h2 pins s σ H R I h
theorem Q9 {K:PySem.W.Frag} {G:Gh} {ow:Ow} {σ:St} {H Hb:Hp} {δ:DS} {L:List Nat} {v:V} {l:List D} (R:Rel K fl G ow σ H δ) (r:Rs K G.H0 ow Hb H (.B L) v (.tuple l)):∃ a xs,v = .ref a∧SqT K H a xs ∧
 ∀ H2:Hp,(∀ b o,H b=some o→(∀ i,ow i=some b→i ∈ L)→(∀ i,b ∉ ow.n i)→H2 b=some o)→SqT K H2 a xs∧RAs K (fun b=>okA ow b∧H b ≠ none) true H2 xs l:=by
 rcases r with r | ⟨i,hi,a,xs,ds,ho,rfl,e,hx,hr⟩
 ·cases r with
  | tup e q =>
   refine ⟨_,_,rfl,e.sq,fun H2 hk=>⟨?_,RAs.keep hk R.ownL R.ownC (fun b z=>z.1) q.track⟩⟩
   exact .inl (.inl (hk _ _ e (nm R.ownL e (by intro xs z;cases z)) (nm2 R.ownC e Chg.tup)))
 ·cases e
theorem Q_ {tg:Expr} {L:List Nat} (h:DE X fl (.B L) e f):DI X fl L tg e (Q0 f):=PI.imp (UJ (Dq h) (Qs h)) fun σ H R' h=>by
 obtain ⟨G,ow,δ,l,R,hf,q⟩:=h
 obtain ⟨d,e1,e2⟩:=bind1 hf
 cases d with
 | list l' =>
  cases e2
  refine .inl ⟨G,ow,δ,_,R,e1,fun v H1 s r=>?_⟩
  obtain ⟨a,xs,rfl,hx,keep⟩:=Bf (R.grow s) r
  refine ⟨a,rfl,⟨xs,hx⟩,q _ _ s fun H2 k2 i=>?_⟩
  obtain ⟨k3,k4⟩:=keep H2 k2
  refine ⟨fun d hd=>?_,fun hl=>⟨xs,k3,by rw [k4.length];exact hl⟩⟩
  obtain ⟨y,hy,ry⟩:=k4.get hd
  refine ⟨⟨xs,y,k3,hy⟩,fun x H3 hyl=>?_⟩
  obtain ⟨e,hz⟩:=hyl
  subst e
  have:some y=some x:=hy.symm.trans (hz xs k3)
  cases this
  exact ⟨Same.refl _,ry⟩
 | tuple l' =>
  cases e2
  refine .inr ⟨G,ow,δ,_,R,e1,fun v H1 s r=>?_⟩
  obtain ⟨a,xs,rfl,hx,keep⟩:=Q9 (R.grow s) r
  refine ⟨a,rfl,⟨xs,hx⟩,q _ _ s fun H2 k2 i=>?_⟩
  obtain ⟨k3,k4⟩:=keep H2 k2
  refine ⟨fun d hd=>?_,fun hl=>⟨xs,k3,by rw [k4.length];exact hl⟩⟩
  obtain ⟨y,hy,ry⟩:=k4.get hd
  refine ⟨⟨xs,y,k3,hy⟩,fun x H3 hyl=>?_⟩
  obtain ⟨e,hz⟩:=hyl
  subst e
  have:some y=some x:=hy.symm.trans (hz xs k3)
  cases this
  exact ⟨Same.refl _,ry⟩
 | none=>cases e2
 | bool _=>cases e2
 | int _=>cases e2
 | str _=>cases e2
 | dict _=>cases e2
end
section
variable {X:Cx} {fl:List Fl} {a:Expr} {f:FE} {pos p:Pos}
end
section
variable {X:Cx} {fl:List Fl} {a b:Expr} {fa fb:FE} {pos:Pos}
end
end D3
namespace D3
open PySem PySem.Spec PyProof.Rows L2 My
section
variable {X:Cx} {K:PySem.W.Frag}
def UL (K:PySem.W.Frag):R2:=fun x y H Q=>∃ da l,RdV K H x da∧((RdV K H y (.list l)∧SeqAt.shaped (.list l)=true)∨(RdV K H y (.tuple l)∧SeqAt.shaped (.tuple l)=true))∧SeqAt.shaped da=true∧Q (.bl (l.any fun z=>PyData.eqv z da)) H
theorem DP {A:Around} {l:List D} {d:D} (hu:A.units + 64 < cLine) (h:PyData.depthAll l + 1 ≤ 64):A.units + 1 + min (PyData.depthAll l) d.depth < cLine:=by
 have:=Nat.min_le_left (PyData.depthAll l) d.depth
 omega
theorem tQ {l:List D} (h:SeqAt.shaped (.list l)=true):PyData.canLayAll0 l=true∧PyData.depthAll l + 1 ≤ 64:=by
 unfold SeqAt.shaped at h
 rw [aU] at h
 refine ⟨by simpa [PyData.canLay0] using h.1,?_⟩
 have:=of_decide_eq_true h.2
 simpa [PyData.depth] using this
theorem rP {l:List D} (h:SeqAt.shaped (.tuple l)=true):PyData.canLayAll0 l=true∧PyData.depthAll l + 1 ≤ 64:=by
 unfold SeqAt.shaped at h
 rw [aU] at h
 refine ⟨by simpa [PyData.canLay0] using h.1,?_⟩
 have:=of_decide_eq_true h.2
 simpa [PyData.depth] using this
theorem Ra (hu:X.A.units + 64 < cLine):OpR X (compareOp .In) (UL X.K):=by
 intro pins s σ H x y v u Q I rx ry h
 obtain ⟨da,l,ha,hb,sa,q⟩:=h
 obtain ⟨as,za⟩:=ha.reads I rx
 rcases hb with ⟨hb,sb⟩ | ⟨hb,sb⟩
 ·obtain ⟨bs,zb⟩:=hb.reads I ry
  exact SeqAt.in_list_reads zb za (tQ sb).1 (SeqAt.canLay_of_shaped sa) (DP hu (tQ sb).2) ⟨.bl _,H,I,rfl,q⟩
 ·obtain ⟨bs,zb⟩:=hb.reads I ry
  exact SeqAt.in_tuple_reads zb za (rP sb).1 (SeqAt.canLay_of_shaped sa) (DP hu (rP sb).2) ⟨.bl _,H,I,rfl,q⟩
theorem WL:BrO K (UL K) gIn:=by
 intro H x y dx dy d Q rx ry e q
 cases dy with
 | list l =>
  by_cases z:(SeqAt.shaped dx && SeqAt.shaped (.list l))=true
  ·have e:(if (SeqAt.shaped dx && SeqAt.shaped (.list l))=true then some (PyData.bool (l.any fun z=>PyData.eqv z dx)) else none)=some d:=e
   rw [if_pos z] at e
   cases e
   rw [aU] at z
   exact ⟨dx,l,rx.rd (SeqAt.canLay_of_shaped z.1),.inl ⟨ry.rd (SeqAt.canLay_of_shaped z.2),z.2⟩,z.1,q _ rfl (.bl _)⟩
  ·have e:(if (SeqAt.shaped dx && SeqAt.shaped (.list l))=true then some (PyData.bool (l.any fun z=>PyData.eqv z dx)) else none)=some d:=e
   rw [if_neg z] at e
   cases e
 | tuple l =>
  by_cases z:(SeqAt.shaped dx && SeqAt.shaped (.tuple l))=true
  ·have e:(if (SeqAt.shaped dx && SeqAt.shaped (.tuple l))=true then some (PyData.bool (l.any fun z=>PyData.eqv z dx)) else none)=some d:=e
   rw [if_pos z] at e
   cases e
   rw [aU] at z
   exact ⟨dx,l,rx.rd (SeqAt.canLay_of_shaped z.1),.inr ⟨ry.rd (SeqAt.canLay_of_shaped z.2),z.2⟩,z.1,q _ rfl (.bl _)⟩
  ·have e:(if (SeqAt.shaped dx && SeqAt.shaped (.tuple l))=true then some (PyData.bool (l.any fun z=>PyData.eqv z dx)) else none)=some d:=e
   rw [if_neg z] at e
   cases e
 | _=>cases e
end
section
variable {X:Cx} {fl:List Fl} {a:Expr} {f:FE} {pos:Pos}
end
def spL (K:PySem.W.Frag) (F:List D→Option D):Sp:=fun vs H Q _=>∃ ds d,(Tb H∧RAs K ok1 true H vs ds)∧F ds=some d∧∀ v H',Same H H'→RA K ok1 true H' v d→Q v H'
section
variable {X:Cx} {fl:List Fl} {e:Expr} {es:List Expr} {f:FE} {pos p:Pos} {x:Str} {n:Nat} {F:List D→Option D} {fa:FA}
theorem DQ (h:DE X fl .P e f):DS1 X fl (.Return (some e) pos) (zR f):=PS.imp (Ao h) fun Dn σ H h=>by
 obtain ⟨G,ow,δ,o,R,hf,q⟩:=h
 obtain ⟨d,e1,e2⟩:=bind1 hf
 cases e2
 exact ⟨G,ow,δ,d,R,e1,fun v H' s r=>q v H' (R.same0.trans s) r⟩
theorem Rc (hA:(fl.all fun x=>decide (x = .A))=true) (h:DE X fl .P e f):DE X fl .A e f:=lD h fun Hb H G ow σ δ v d R r=>by
 have hA':∀ (i:Nat) (c:Fl),fl[i]? = some c→c=Fl.A:=fun i c e=>by simpa using fj.mp hA c (iY e)
 have ok:∀ a,okA ow a:=fun a=>by
  constructor
  ·intro i z
   rcases (R.own i a z).2.1 with ⟨w,_⟩ | ⟨w,_⟩
   ·cases hA' i _ w
   ·cases hA' i _ w
  ·intro i z
   rcases (R.nt i a z).2.2 with ⟨w,_⟩ | w
   ·cases hA' i _ w
   ·cases hA' i _ w
 exact RA.imp (fun a _=>ok a) (fun z=>z) r
theorem rQ {ps:List Str} (h:Has X.prog X.w X.K X.mg X.base n x ps (spL X.K F)) (hr:Room n X.A) (ha:DB X fl .P (e :: es) fa) (hg:Gl X x:=by rfl) (hdb:(x == ("__debug__" : Str))=false:=by decide)
 (he:starEach (e :: es) X.env=(false,eval e X.env) :: starEach es X.env:=by exact fD rfl) (hpl:(backTo pos (starEach es X.env)).any (·.1)=false:=by exact oZ rfl) :
 DE X fl .P (.Call (.Name x p) (e :: es) [] pos) (dCall F fa):=PE.imp (zB h hr ha hg hdb he hpl) fun σ H Q h=>by
 obtain ⟨G,ow,δ,d,R,hf,q⟩:=h
 obtain ⟨ds,e1,e2⟩:=bind1 hf
 refine ⟨G,ow,δ,ds,R,e1,fun vs H' s r=>?_⟩
 show spL X.K F (vs++[]) H' Q E0
 rw [eV]
 exact ⟨ds,d,⟨R.tb.same s,r⟩,e2,fun v H2 s2 r2=>q v H2 (s.trans s2) r2⟩
end
section
variable {P:Program} {w:World} {K:PySem.W.Frag} {mg:Str→Option Value} {base:Heap} {x:Str} {ps N:List Str} {st:Stmt} {k n:Nat} {fs:FS} {fl:List Fl}
theorem Mf {f:Addr} {fd:FuncData} (Fn:FunD K x st f fd) (S:FnScope N ps (aP st)) (hp:∀ i,i < ps.length→fl[i]? = some .A) (hN:ps.length ≤ N.length)
 (hbody:∀ (f:Addr) (cdv:Value) (A:Around) (outer:List Env) (s:Shared) (H:Hp) (E:XK),Room k (A.deeper (envOfC x (aP st) s.heap.objs.size f cdv))→DSs (cx P w K mg base N x st f cdv A outer s H E) fl (dI st) fs) :
 FnOk P w K mg base CX0 (k + 1) f fd ps (spL K (fnL ps.length (N.length - ps.length) fs)):=by
 refine Fn.ok S (fun vs H Q E h=>?_) (fun cdv A outer s H vs Q E hr h=>?_)
 ·obtain ⟨ds,d,r,hf,_⟩:=h
  unfold fnL at hf
  by_cases z:ds.length=ps.length
  ·rw [r.2.length];exact z
  ·rw [if_neg z] at hf;cases hf
 ·obtain ⟨ds,d,r,hf,q⟩:=h
  refine ⟨_,hbody f cdv A outer s H E hr,?_⟩
  unfold fnL LK at hf
  by_cases z:ds.length=ps.length
  ·rw [if_pos z] at hf
   split at hf
   ·next d' e =>
    cases hf
    exact ⟨_,_,_,_,iR ps.length hp z hN r,e,fun v H' s r=>q v H' s (RA.imp (fun _ _=>trivial) (fun _=>rfl) r)⟩
   ·next c' f' d' e =>
    cases hf
    exact ⟨_,_,_,_,iR ps.length hp z hN r,e,fun v H' s r=>q v H' s r⟩
   ·next δ' e =>
    cases hf
    exact ⟨_,_,_,_,iR ps.length hp z hN r,e,fun ow' σ' H' R'=>q .non H' R'.same0 .non⟩
   ·cases hf
  ·rw [if_neg z] at hf;cases hf
theorem IK (Dd:Dg K mg x st ps) (S:FnScope N ps (aP st)) (hp:∀ i,i < ps.length→fl[i]? = some .A) (hN:ps.length ≤ N.length)
 (hbody:∀ (f:Addr) (cdv:Value) (A:Around) (outer:List Env) (s:Shared) (H:Hp) (E:XK),Room k (A.deeper (envOfC x (aP st) s.heap.objs.size f cdv))→DSs (cx P w K mg base N x st f cdv A outer s H E) fl (dI st) fs) :
 Has P w K mg base (k + 1) x ps (spL K (fnL ps.length (N.length - ps.length) fs)):=by
 obtain ⟨f,fd,Fn,b,m⟩:=Dd.ex
 exact ⟨f,fd,Mf Fn S hp hN hbody,b,Fn.kp,m⟩
end
section
variable {P:Program} {w:World} {K:PySem.W.Frag} {mg:Str→Option Value} {base:Heap} {x:Str} {ps:List Str} {st:Stmt} {n:Nat}
end
end D3
namespace D3
open PySem PySem.Spec PyProof.Rows L2 My
section
variable {K:PySem.W.Frag} {fl flA:List Fl} {G:Gh} {ow:Ow} {σ σ':St} {H H1:Hp} {δ:DS} {T:List Nat}
end
section
variable {X:Cx} {fl flA:List Fl} {e:Expr} {es:List Expr} {f:FE} {fa:FA} {pos:Pos}
end
section
variable {X:Cx} {fl:List Fl} {pos:Pos}
end
end D3
namespace D3
open PySem
inductive Or where
 | o (x:Oc)
 | ex (c:Str) (v:D)
abbrev FX:=DS→Option Or
def xOf (f:FS):FX:=fun δ=>(f δ).bind fun o=>some (.o o)
def nu (f g:FX):FX:=fun δ=>(f δ).bind fun o=>match o with
 | .o (.nx δ')=>g δ'
 | o=>some o
def xIf (c:FT) (f g:FX):FX:=fun δ=>(c δ).bind fun b=>if b=true then f δ else g δ
def mC (c:Str) (f:FE):FX:=fun δ=>(f δ).bind fun d=>some (.ex c d)
def fnX (p q:Nat) (b:FX):List D→Option Or:=fun ds=>if ds.length=p then match b (ds.map (fun d=>some (.d d))++aK q none) with
    | some (.o (.rt d))=>some (.o (.rt d))
    | some (.o (.nx _))=>some (.o (.rt .none))
    | some (.ex c d)=>some (.ex c d)
    | _=>none
 else none
def nA (g:FG) (b:FX):List D→DS→Option Or
 | [],δ=>some (.o (.nx δ))
 | d :: r,δ=>(g d δ).bind fun δ1=>(b δ1).bind fun o=>match o with
  | .o (.nx δ')=>nA g b r δ'
  | .o (.ct δ')=>nA g b r δ'
  | .o (.bk δ')=>some (.o (.nx δ'))
  | .o (.rt v)=>some (.o (.rt v))
  | .o (.ex c f v)=>some (.o (.ex c f v))
  | .ex c v=>some (.ex c v)
def Mg (fi:FA) (g:FG) (b:FX):FX:=fun δ=>(fi δ).bind fun l=>nA g b l δ
def jM (F:List D→Option Or) (dd:List D) (fa:FA):FX:=fun δ=>(fa δ).bind fun ds=>match F (ds++dd) with
 | some (.o (.rt _))=>some (.o (.nx δ))
 | some (.ex c d)=>some (.ex c d)
 | _=>none
end D3
namespace XC
open PySem
open Sem (wp)
structure Two (h:Heap) (C N I:Addr) (bmB:List Value) (mN mI:Str→Option Value) (B newId:String):Prop where
 ex:∃ (nm q:Str) (bs:List Value) (sn:List Str) (sub:List Value) (ab:Bool) (col:Option Bool) (dd:Option Addr) (k0 k1 k2 k3 k5:Option Value),
  h.get? C=some (excClassObj nm q C N bs (.ref I :: bmB) true sn sub ab col dd k0 k1 k2 k3 k5 newId)
 nsC:h.Ns N mN
 up:∃ (nm q:Str) (NI:Addr) (bs:List Value) (sn:List Str) (sub:List Value) (ab:Bool) (col:Option Bool) (dd:Option Addr) (k0 k1 k2 k3 k5:Option Value) (nid:String),
  h.get? I=some (excClassObj nm q I NI bs bmB true sn sub ab col dd k0 k1 k2 k3 k5 nid)∧h.Ns NI mI
 mro:mroOf (.type B)=pure bmB
section
variable {M:Model} {A:Around} {E:Value→Shared→Prop} {h:Heap} {g:Array GenState} {d:Drawn} {t:Nat} {os:OsState}
variable {C N I:Addr} {bmB:List Value} {mN mI:Str→Option Value} {B newId initId:String}
theorem Two.keeps {h':Heap} (T:Two h C N I bmB mN mI B newId) (k:∀ b o,h.get? b=some o→h'.get? b=some o):Two h' C N I bmB mN mI B newId:=by
 obtain ⟨⟨nm,q,bs,sn,sub,ab,col,dd,k0,k1,k2,k3,k5,hC⟩,hn,⟨jnm,jq,NI,jbs,jsn,jsub,jab,jcol,jdd,j0,j1,j2,j3,j5,nid,hI,hm⟩,hb⟩:=T
 exact ⟨⟨nm,q,bs,sn,sub,ab,col,dd,k0,k1,k2,k3,k5,k _ _ hC⟩,hn.keeps k,⟨jnm,jq,NI,jbs,jsn,jsub,jab,jcol,jdd,j0,j1,j2,j3,j5,nid,k _ _ hI,hm.keeps k⟩,hb⟩
theorem Two.tail (T:Two h C N I bmB mN mI B newId) (hi:mI "__init__" = none):OwnTail h bmB (.ref I :: bmB):=by
 obtain ⟨jnm,jq,NI,jbs,jsn,jsub,jab,jcol,jdd,j0,j1,j2,j3,j5,nid,hI,hm⟩:=T.up
 exact .own hI hm hi .base
theorem Two.look {name:Str} {y:Option Value} {Q:Option Value→Shared→Prop} (T:Two h C N I bmB mN mI B newId) (hB:typeLookup (.type B) name=pure y)
 (hq:Q (match mN name with
  | some v=>some v
  | none=>match mI name with
   | some v=>some v
   | none=>y) ⟨h,g,d,t,os⟩):wpAny M A (typeLookup (.ref C) name) Q E ⟨h,g,d,t,os⟩:=by
 obtain ⟨⟨nm,q,bs,sn,sub,ab,col,dd,k0,k1,k2,k3,k5,hC⟩,hn,⟨jnm,jq,NI,jbs,jsn,jsub,jab,jcol,jdd,j0,j1,j2,j3,j5,nid,hI,hm⟩,hb⟩:=T
 have rest:lookupAlong bmB name=pure y:=by
  rw [typeLookup_eq,hb] at hB
  exact hB
 rw [typeLookup_eq]
 refine wpAny_bind (wpAny_mroOf_exc hC ?_)
 rw [lookupAlong_cons]
 refine wpAny_bind (wpAny_classOwn_exc hC hn ?_)
 cases e1:mN name with
 | some v =>
  rw [e1] at hq
  exact wpAny_pure hq
 | none =>
  rw [e1] at hq
  show wpAny M A (lookupAlong (.ref I :: bmB) name) Q E _
  rw [lookupAlong_cons]
  refine wpAny_bind (wpAny_classOwn_cls hI hm ?_)
  cases e2:mI name with
  | some v =>
   rw [e2] at hq
   exact wpAny_pure hq
  | none =>
   rw [e2] at hq
   show wpAny M A (lookupAlong bmB name) Q E _
   rw [rest]
   exact wpAny_pure hq
end
section
variable {prog:Program} {w:World} {A:Around} {E:Value→Shared→Prop} {h:Heap} {g:Array GenState} {d:Drawn} {t:Nat} {os:OsState}
variable {C N I:Addr} {bmB:List Value} {mN mI:Str→Option Value} {B newId initId:String}
theorem Two.make {rest:List Value} {fI:Addr} {oI:Obj} {Q:Fin→Shared→Prop} (T:Two h C N I bmB mN mI B newId) (F:ExcBaseFacts B newId initId bmB) (hi:mI "__init__" = none) (hN:mN "__init__" = some (.ref fI))
 (hf:h.get? fI=some oI) (hfc:oI.cls = .type "function") (hrest:rest.length ≤ sizeLine)
 (hq:∀ h' e,h.objs.size ≤ e→Heap.MadeExcOf h h' e (.ref C) rest→wpAny (model prog w) A (call (.ref fI) (.ref e :: rest)) (fun r s'=>r = .none∧Q (.done (.ret (.ref e))) s') E ⟨h',g,d,t,os⟩) :
 wpAny (model prog w) A (Builtin.«type.__call__» ⟨.ref C :: rest,[]⟩) Q E ⟨h,g,d,t,os⟩:=by
 have TT:=T.tail hi
 have T0:=T
 obtain ⟨⟨nm,q,bs,sn,sub,ab,col,dd,k0,k1,k2,k3,k5,hC⟩,hn,⟨jnm,jq,NI,jbs,jsn,jsub,jab,jcol,jdd,j0,j1,j2,j3,j5,nid,hI,hm⟩,hb⟩:=T
 repeat (first
  | with_reducible refine wpAny_loadPart_at hC ?_
  | with_reducible refine wpAny_madeBy_exc hC ?_
  | wp_step)
 refine codeAny_call_builtin_code (Code.quiet_builtin _ F.quiet) (wpAny_check_new_subT F TT hC ?_)
 refine codeAny_exc_new_subT F TT hC ?_ hrest
 show wpAny _ _ _ _ _ _
 obtain ⟨h2,e2⟩:∃ h2,h2=(h.push { cls:=.type "tuple", data:=.seq rest.toArray }).push { cls:=.ref C,data:=.fields #[.ref h.objs.size,.none,.none,.none,.bool false,.none] }:=⟨_,rfl⟩
 rw [← e2]
 have kp:∀ b o,h.get? b=some o→h2.get? b=some o:=fun b o z=>by
  rw [e2];exact Heap.get?_push_of_some _ (Heap.get?_push_of_some _ z)
 have hx:h2.get? (h.objs.size + 1)=some { cls:=.ref C,data:=.fields #[.ref h.objs.size,.none,.none,.none,.bool false,.none] }:=by
  rw [e2];heap_get
 have ht:h2.get? h.objs.size=some { cls:=.type "tuple", data:=.seq rest.toArray }:=by
  rw [e2];exact Heap.get?_push_of_some _ (Heap.get?_push_at rfl rfl)
 have hC2:=kp _ _ hC
 have cc:(Value.ref C :: .ref I :: bmB).contains (.ref C)=true:=by simp
 unfold isInstance
 repeat (first
  | with_reducible refine wpAny_loadPart_at hx ?_
  | (with_reducible refine wpAny_isSubtype_exc hC2 ?_;rw [cc])
  | wp_step)
 show wpAny _ _ (typeLookup (.ref C) _) _ _ _
 refine (T0.keeps kp).look F.init.lookup ?_
 rw [hN]
 refine wpAny_holding (wpAny_bind ?_)
 unfold bindSpecial
 refine wpAny_bind (wpAny_typeOf (T := "function") ⟨_,kp _ _ hf,hfc⟩ ?_)
 rw [if_pos (by decide)]
 refine wpAny_pure (wpAny_bind (wpAny_mono (hq h2 (h.objs.size + 1) (mH _) ⟨kp,Heap.get?_none_of_le (mH _),h.objs.size,hx,Heap.get?_none_of_le (bG _),ht⟩) (fun r s' hr=>?_) fun _ _ z=>z))
 obtain ⟨rfl,hQ⟩:=hr
 wp_walk
 exact hQ
end
end XC
namespace XC
open PySem Builtin Builtin.ObjectAttr
open Sem (wp)
section
variable {prog:Program} {w:World} {A:Around} {E:Value→Shared→Prop} {h:Heap} {g:Array GenState} {d:Drawn} {t:Nat} {os:OsState}
variable {C N I x:Addr} {bmB:List Value} {mN mI:Str→Option Value} {B newId initId sa owner:String} {name:Str} {v:Value}
theorem Two.store0 {tk:Tok} {o:Obj} {Q:Fin→Shared→Prop} (T:Two h C N I bmB mN mI B newId) (SF:StoreFacts B bmB sa owner) (n1:mN name=none) (n2:mI name=none) (hB:typeLookup (.type B) name=pure none)
 (hx:h.get? x=some o) (hc:o.cls = .ref C) (hnc:∀ c,o.data ≠ .cls c) (hdn:o.dict=none)
 (hq:∀ h' tk' dx,h'.get? x=some { o with dict:=some dx }→h.objs.size ≤ dx→dx ≠ x→h'.Ns1 dx (fun y=>if y=name then some v else none)→(∀ b u,b ≠ x→h.get? b=some u→h'.get? b=some u)→Q (.done (.ret .none)) ⟨h',g,d,tk',os⟩) :
 wpAny (model prog w) A (Builtin.«object.__setattr__» ⟨[.ref x,.str name tk,v],[]⟩) Q E ⟨h,g,d,t,os⟩:=by
 have T0:=T
 obtain ⟨⟨nm,q,bs,sn,sub,ab,col,dd,k0,k1,k2,k3,k5,hC⟩,hn,⟨jnm,jq,NI,jbs,jsn,jsub,jab,jcol,jdd,j0,j1,j2,j3,j5,nid,hI,hm⟩,hb⟩:=T
 have pass:refuseLoop (.ref x) "__setattr__" (.ref C :: .ref I :: bmB)=pure ():=by
  rw [refuseLoop_ref,refuseLoop_ref];exact SF.passes _
 unfold Builtin.«object.__setattr__»
 repeat (first
  | rw [refuse_eq]
  | rw [pass]
  | (with_reducible refine wpAny_loadPart_at hx ?_;rw [hc])
  | with_reducible refine wpAny_mroOf_exc hC ?_
  | (with_reducible refine T0.look hB ?_;rw [n1,n2])
  | wp_step)
 rw [hdn,if_neg (by simp [typeHasDict])]
 split
 ·rename_i z
  cases z
 split
 ·rename_i c z
  exact absurd z (hnc c)
 obtain ⟨h1,e1⟩:∃ h1,h1=h.push { cls:=.type "dict", data:=.dict #[] }:=⟨_,rfl⟩
 have x1:h1.get? x=some o:=by rw [e1];exact Heap.get?_push_of_some _ hx
 have ne:x ≠ h.objs.size:=bL (Heap.lt_size hx)
 refine wpAny_bind (wpAny_alloc' ?_)
 rw [← e1]
 refine wpAny_bind (wpAny_update' x1 (wpAny_pure ?_))
 obtain ⟨h2,e2⟩:∃ h2,h2=h1.update x fun o=>{ cls:=o.cls,dict:=some h.objs.size,data:=o.data,slots:=o.slots }:=⟨_,rfl⟩
 rw [← e2]
 have d2:h2.get? h.objs.size=some { cls:=.type "dict", data:=.dict #[] }:=by
  rw [e2,e1]
  exact (Heap.get?_update_ne _ _ _ _ ne.symm).trans (Heap.get?_push_at rfl rfl)
 have x2:h2.get? x=some { cls:=o.cls,dict:=some h.objs.size,data:=o.data,slots:=o.slots }:=by
  rw [e2]
  refine Heap.get?_update_self _ x1 ?_
  have fr:=(Heap.get?_some_iff.mp hx).2
  obtain ⟨oc,od,odt,osl⟩:=o
  cases odt <;> first | rfl | exact fr
 have k2:∀ b u,b ≠ x→h.get? b=some u→h2.get? b=some u:=fun b u z q=>by
  rw [e2,e1]
  exact (Heap.get?_update_ne _ _ _ _ z).trans (Heap.get?_push_of_some _ q)
 have n0:h2.Ns h.objs.size (fun _=>none):=⟨_,#[],_,d2,rfl,fun e z=>absurd z (by simp),fun _=>rfl⟩
 show wpAny _ _ (storeInDict h.objs.size (.str name tk) name v) _ _ _
 unfold storeInDict newKeyGuard
 refine wpAny_bind (wpAny_pure (wpAny_bind (wpAny_nsSet1 (Heap.Ns1.of_empty n0) fun h3 n3 hs=>?_)))
 obtain ⟨oD,esD,epD,a1,a2,a3⟩:=n3.count (Within.cons name v Within.nil)
 refine wpAny_bind (wpAny_lookBehind a1 (by rw [a2];exact pastItsLine_dict (bV a3 (show 1 ≤ sizeLine + 1 by decide))) ?_)
 wp_walk
 exact hq h3 _ h.objs.size ((hs.2 x ne).trans x2) (bG _) ne.symm n3 fun b u z q=>(hs.2 b (bL (Heap.lt_size q))).trans (k2 b u z q)
theorem Two.set0 {o:Obj} {Q:Unit→Shared→Prop} (T:Two h C N I bmB mN mI B newId) (SF:StoreFacts B bmB sa owner) (s1:mN "__setattr__" = none) (s2:mI "__setattr__" = none) (n1:mN name=none) (n2:mI name=none) (hB:typeLookup (.type B) name=pure none)
 (hx:h.get? x=some o) (hc:o.cls = .ref C) (hnc:∀ c,o.data ≠ .cls c) (hdn:o.dict=none)
 (hq:∀ h' tk' dx,h'.get? x=some { o with dict:=some dx }→h.objs.size ≤ dx→dx ≠ x→h'.Ns1 dx (fun y=>if y=name then some v else none)→(∀ b u,b ≠ x→h.get? b=some u→h'.get? b=some u)→Q () ⟨h',g,d,tk',os⟩) :
 wpAny (model prog w) A (setAttr (.ref x) name v) Q E ⟨h,g,d,t,os⟩:=by
 have T0:=T
 obtain ⟨⟨nm,q,bs,sn,sub,ab,col,dd,k0,k1,k2,k3,k5,hC⟩,hn,⟨jnm,jq,NI,jbs,jsn,jsub,jab,jcol,jdd,j0,j1,j2,j3,j5,nid,hI,hm⟩,hb⟩:=T
 have f3:=SF.slot.bind (.ref x)
 have own:(Value.ref C :: .ref I :: bmB).contains (.type owner)=true:=by
  rw [eG,eG,SF.hasOwner,jf,jf]
 unfold setAttr callSpecial? specialOf
 repeat (any_goals (first
  | assumption
  | (with_reducible refine wpAny_loadPart_at hx ?_;rw [hc])
  | (with_reducible refine T0.look SF.slot.lookup ?_;rw [s1,s2])
  | wp_step))
 refine codeAny_call_builtin SF.slot.plain SF.entry ?_
 have ck:∀ {A:Around} {E:Value→Shared→Prop} (tk:Tok) (Q:Unit→Shared→Prop) (t:Nat),Q () ⟨h,g,d,t,os⟩→wpAny (model prog w) A (checkBuiltinCall sa ⟨[.ref x,.str name tk,v],[]⟩) Q E ⟨h,g,d,t,os⟩:=by
  intro A E tk Q t z
  have ha:=SF.args (.ref x) (.str name tk) v
  simp only [checkBuiltinCall,SF.kind,SF.split]
  refine wpAny_bind ?_
  unfold isInstance
  repeat (first
   | (with_reducible refine wpAny_loadPart_at hx ?_;rw [hc])
   | (with_reducible refine wpAny_isSubtype_exc hC ?_;rw [own])
   | wp_step)
  cases sg:Manifest.signature? sa with
  | none=>exact wpAny_pure z
  | some sig =>
   simp only [argsOk,sg] at ha
   have ha:Bind.checkArgs sa sig ⟨[.ref x,.str name tk,v],[]⟩=pure ():=ha
   show wpAny _ _ (Bind.checkArgs sa sig ⟨[.ref x,.str name tk,v],[]⟩) _ _ _
   rw [ha]
   exact wpAny_pure z
 refine ck _ _ _ (T0.store0 SF n1 n2 hB hx hc hnc hdn fun h' tk' dx z1 z2 z3 z4 z5=>?_)
 repeat (any_goals (first | assumption | wp_step))
 exact hq h' tk' dx z1 z2 z3 z4 z5
end
end XC
namespace XC
open PySem PySem.Spec PyProof.Rows L2 My
section
variable {P:Program} {w:World} {K:PySem.W.Frag} {mg:Str→Option Value} {base:Heap}
variable {C N I x:Addr} {bmB:List Value} {mN mI:Str→Option Value} {B newId initId sa owner:String}
theorem IV {k:Nat} {fI:Addr} {name qual f:Str} {params:Arguments} {scope:Scope} {dV kV doc pm cdv ct oc:Value} {an od:Option Addr} {osl:Array (Option Value)} {p1 p2 p3 p4:Pos}
 (lk:K.lookup fI=some ⟨oc,od,.func (PySem.W.fnOf name qual params [.Assign [.Attribute (.Name "self" p1) f p2] (.Name f p3) p4] scope dV kV doc pm an cdv ct),osl⟩) (hcd:PySem.W.codeIn K cdv qual=true)
 (S:FnScope ["self", f] ["self", f] scope) (l1:scope.names.lookup ("self" : Str)=some NameKind.local) (l2:scope.names.lookup f=some .local) (fs:("self" : Str) ≠ f) (fd:(f == ("__debug__" : Str))=false) (fc:(f == ("__classdict__" : Str))=false)
 (hb:Binds K (PySem.W.fnOf name qual params [.Assign [.Attribute (.Name "self" p1) f p2] (.Name f p3) p4] scope dV kV doc pm an cdv ct) ["self", f] [])
 {A:Around} {outer:List Env} {s:Shared} {H:Hp} (hr:Room (k + 1) A) (e0:Env0 P w K mg base A outer s H)
 (T:Two s.heap C N I bmB mN mI B newId) (SF:StoreFacts B bmB sa owner) (s1:mN "__setattr__" = none) (s2:mI "__setattr__" = none) (n1:mN f=none) (n2:mI f=none) (hB:typeLookup (.type B) f=pure none)
 {o:Obj} (hx:s.heap.get? x=some o) (hc:o.cls = .ref C) (hnc:∀ c,o.data ≠ .cls c) (hdn:o.dict=none) {v:V} {u:Value} (rv:RelV v u) {R:Result→Shared→Prop}
 (hq:∀ h' tk' dx,h'.get? x=some { o with dict:=some dx }→s.heap.objs.size ≤ dx→dx ≠ x→h'.Ns1 dx (fun y=>if y=f then some u else none)→(∀ b ob,b ≠ x→s.heap.get? b=some ob→h'.get? b=some ob)→R (.ok (.ret .none)) { s with heap:=h',toks:=tk' }) :
 codeAny (model P w) A (.call (.ref fI) ⟨[.ref x,u],[]⟩) R s:=by
 have KX:K.In s.heap:=e0.mod.kin.keeps fun b o e=>(e0.bs b o e).1
 have lim:s.heap.NoLimit:=e0.mod.nolimit.keeps fun b o e=>(e0.bs b o e).1
 have kinds:∀ y ∈ (["self", f]:List Str).zip [Value.ref x,u],scope.names.lookup y.1=some .local∨(scope.names.lookup y.1=some .cell∧((cellsFrom (s.heap.objs.size + 1) scope.names []).lookup y.1).isSome=true):=by
  rintro ⟨n,z⟩ hy
  rcases S.par n (kI hy).1 with q | q
  ·exact .inl q
  ·exact .inr ⟨q,PySem.W.cellsFrom_some _ _ _ (.inl q)⟩
 refine codeAny_call_function hr.depth (KX _ _ lk) rfl S.co S.gen rfl (PySem.W.codeRec_of KX hcd) (hb s [.ref x,u] KX rfl _ _ _ _ ?_)
 refine wpAny_newFunctionEnv_cells S.kind kinds fun env he s3 y=>?_
 subst he
 refine ⟨lim.keeps y.toInCall.keep,codeAny_func ?_⟩
 obtain ⟨h3,tk3,rfl,kp⟩:=y.done
 have ns:=y.toInCall.ns
 have m1:bindL (envOfC qual scope s.heap.objs.size fI cdv).kindOf ((["self", f]:List Str).zip [Value.ref x,u]) (fun _=>none) "self" = some (.ref x) :=
  pB S.nd (i:=0) rfl rfl l1
 have m2:bindL (envOfC qual scope s.heap.objs.size fI cdv).kindOf ((["self", f]:List Str).zip [Value.ref x,u]) (fun _=>none) f=some u :=
  pB S.nd (i:=1) rfl rfl l2
 refine wpAny_execs_cons (plainObj_wpAny_Assign_Attribute (wpAny_Name (wpAny_loadName_local S.kind l2 ns m2 (wpAny_Name (wpAny_loadName_local S.kind l1 ns m1 ?_))) fd))
 refine (T.keeps kp).set0 SF s1 s2 n1 n2 hB (kp _ _ hx) hc hnc hdn fun h' tk' dx z1 z2 z3 z4 z5=>?_
 refine wpAny_execs_nil ?_
 exact hq h' tk' dx z1 (bV (bV y.toInCall.fresh (h_ ns.lt)) z2) z3 z4 fun b ob e q=>z5 b ob e (kp _ _ q)
end
end XC
namespace XC
open PySem PySem.Spec PyProof.Rows L2 My
structure Fly (h:Heap) (a C dx:Addr) (f:Str) (u:Value) (tb:Option Addr):Prop where
 obj:∃ vs sl,h.get? a=some ⟨.ref C,some dx,.fields vs,sl⟩∧vs[1]? = some (tb.elim .none .ref)
 dic:h.Ns1 dx (fun y=>if y=f then some u else none)
 ne:dx ≠ a
 hd:∀ T,tb=some T→T ≠ a∧T ≠ dx∧∃ oT ts,h.get? T=some oT∧oT.data = .fields ts∧ts[3]? = some .none
section
variable {M:Model} {A:Around} {E:Value→Shared→Prop} {s:Shared}
theorem wV {base:Heap} {env:Env} {outer:List Env} {L a:Addr} {oe:Obj} {vs:Array Value} {head:Value} {hn:Bool} {Q:Unit→Shared→Prop}
 (hfr:A.frames=some (env :: outer)) (hl:s.heap.FunFrames base (env :: outer)) (hf:env.frame=some L) (he:s.heap.get? a=some oe) (hd:oe.data = .fields vs) (hsz:1 < vs.size)
 (h:∀ h' T,s.heap.objs.size ≤ T→h'.get? a=some (oe.mapFields (·.setIfInBounds 1 (.ref T)))→(∃ oT ts,h'.get? T=some oT∧oT.data = .fields ts∧ts[3]? = some .none) →
  (∀ b o,b ≠ a→b ∉ frs (env :: outer)→s.heap.get? b=some o→h'.get? b=some o)→(∀ b o,b ≠ a→s.heap.get? b=some o→∃ sl,h'.get? b=some { o with slots:=sl })→Q () { s with heap:=h' }) :
 wpAny M A (do let z ← frameOf env;let pl ← entryPlaceOf L hn;let b ← EntryCells.newEntry head z .none (rawInt L) .none pl;setField (.ref a) 1 b) (fun _ s'=>wpAny M A (setFlight (.ref a) none) Q E s') E s:=by
 have nf:a ∉ (env :: outer).filterMap (·.frame):=fun z=>by
  obtain ⟨_,o,ho,q⟩:=hl.mem z
  rw [he] at ho
  cases ho
  exact q vs hd
 refine wpAny_bind (wpAny_frameOf_fun hfr hl hf fun h1 hs=>?_)
 refine wpAny_bind (wpAny_entryPlaceOf fun pl hpl=>?_)
 unfold EntryCells.newEntry newFields
 refine wpAny_bind (wpAny_newObj_type ?_ (hpl.sizeOk5 _ _ _ _ _))
 obtain ⟨ob,eob⟩:∃ ob:Obj,ob = { cls:=.type "traceback", dict:=none,data:=.fields ([head,.ref L,.none,rawInt L,.none]++(if pl.isEmpty then aK 6 Value.none else pl)).toArray }:=⟨_,rfl⟩
 rw [← eob]
 have od:ob.data = .fields ([head,.ref L,.none,rawInt L,.none]++(if pl.isEmpty then aK 6 Value.none else pl)).toArray:=by rw [eob]
 have ofr:ob.isFreed=false:=by rw [eob];rfl
 have a1:h1.get? a=some oe:=(hs.2.1 a nf).trans he
 have a2:(h1.push ob).get? a=some oe:=Heap.get?_push_of_some _ a1
 refine wpAny_setField a2 hd hsz ?_
 have sz:h1.objs.size=s.heap.objs.size:=hs.1
 have ne:h1.objs.size ≠ a:=nO (Heap.lt_size a1)
 have d3:=Obj.data_mapFields hd (·.setIfInBounds 1 (Value.ref h1.objs.size))
 obtain ⟨h3,e3⟩:∃ h3,h3=(h1.push ob).update a (Obj.mapFields (·.setIfInBounds 1 (Value.ref h1.objs.size))):=⟨_,rfl⟩
 rw [← e3]
 have a3:h3.get? a=some (oe.mapFields (·.setIfInBounds 1 (.ref h1.objs.size))):=by
  rw [e3];exact Heap.get?_update_self _ a2 (Obj.isFreed_of_fields d3)
 have t3:h3.get? h1.objs.size=some ob:=by
  rw [e3];exact (Heap.get?_update_other _ _ ne.symm).trans (Heap.get?_push_size h1 ofr)
 have o3:∀ b,b ≠ a→b ≠ h1.objs.size→h3.get? b=h1.get? b:=fun b z1 z2=>by
  rw [e3,Heap.get?_update_other _ _ (Ne.symm z1)]
  exact Heap.get?_push_ne _ _ _ z2
 unfold setFlight
 refine wpAny_bind (wpAny_field a3 d3 (x:=.ref h1.objs.size) (by simp [hsz]) ?_)
 rw [if_pos (show (Value.ref h1.objs.size != Value.none)=true by simp)]
 have d4:=Obj.data_mapFields od (·.setIfInBounds 3 ((none:Option Addr).elim Value.none fun f=>rawInt f))
 refine wpAny_setField t3 od (by simp only [aZ,bK,bZ,iH] <;> omega) ?_
 obtain ⟨h4,e4⟩:∃ h4,h4=h3.update h1.objs.size (Obj.mapFields (·.setIfInBounds 3 ((none:Option Addr).elim Value.none fun f=>rawInt f))):=⟨_,rfl⟩
 rw [← e4]
 have o4:∀ b,b ≠ h1.objs.size→h4.get? b=h3.get? b:=fun b z=>by rw [e4];exact Heap.get?_update_other _ _ (Ne.symm z)
 refine h h4 h1.objs.size (qJ sz.symm) ((o4 a (Ne.symm ne)).trans a3) ⟨_,_,by rw [e4];exact Heap.get?_update_self _ t3 (Obj.isFreed_of_fields d4),d4,?_⟩ (fun b o z1 z2 q=>?_) fun b o z1 q=>?_
 ·rcases hpl with rfl | ⟨_,_,_,_,_,_,_,rfl⟩ <;> simp
 ·have q1:h1.get? b=some o:=(hs.2.1 b z2).trans q
  have z3:b ≠ h1.objs.size:=bL (Heap.lt_size q1)
  exact (o4 b z3).trans ((o3 b z1 z3).trans q1)
 ·obtain ⟨sl,q1⟩:=hs.2.2 b o q
  have z3:b ≠ h1.objs.size:=bL (Heap.lt_size q1)
  exact ⟨sl,(o4 b z3).trans ((o3 b z1 z3).trans q1)⟩
end
end XC
namespace XC
open PySem PySem.Spec PyProof.Rows L2 My
section
variable {M:Model} {A:Around} {E:Value→Shared→Prop} {s:Shared}
theorem IW {base:Heap} {env:Env} {outer:List Env} {L a C dx:Addr} {f:Str} {u:Value} {tb:Option Addr} {Q:Unit→Shared→Prop}
 (hfr:A.frames=some (env :: outer)) (hl:s.heap.FunFrames base (env :: outer)) (hf:env.frame=some L) (F:Fly s.heap a C dx f u tb) (nd:dx ∉ frs (env :: outer))
 (h:∀ h' T,s.heap.objs.size ≤ T→Fly h' a C dx f u (some T)→(∀ b o,b ≠ a→tb ≠ some b→b ∉ frs (env :: outer)→s.heap.get? b=some o→h'.get? b=some o) →
  (∀ b o,b ≠ a→tb ≠ some b→s.heap.get? b=some o→∃ sl,h'.get? b=some { o with slots:=sl })→Q () { s with heap:=h' }) :
 wpAny M A (noteFrame (.ref a) env) (fun _ s'=>wpAny M A (setFlight (.ref a) none) Q E s') E s:=by
 obtain ⟨⟨vs,sl,ea,e1⟩,hdic,hne,hhd⟩:=F
 have hsz:1 < vs.size:=(cL.mp e1).1
 have dlt:dx < s.heap.objs.size:=by
  obtain ⟨o,_,_,q,_⟩:=hdic
  exact Heap.lt_size q
 unfold noteFrame
 simp only [hf]
 cases tb with
 | none =>
  refine wpAny_bind (wpAny_field ea rfl e1 ?_)
  rw [if_neg (by decide)]
  refine wV hfr hl hf ea rfl hsz fun h' T hT q1 q2 q3 q4=>h h' T hT ⟨⟨_,sl,q1,by simp [hsz]⟩,?_,hne,fun T' z=>?_⟩ (fun b o z1 _ z2 z3=>q3 b o z1 z2 z3) fun b o z1 _ z2=>q4 b o z1 z2
  ·obtain ⟨o,es,ep,r1,r2⟩:=hdic
   exact ⟨o,es,ep,q3 dx o hne nd r1,r2⟩
  ·cases z
   refine ⟨fun z=>?_,fun z=>?_,q2⟩
   ·rw [z] at hT
    exact absurd (Heap.lt_size ea) (eO.mpr hT)
   ·rw [z] at hT
    exact absurd dlt (eO.mpr hT)
 | some T =>
  obtain ⟨Ta,Td,oT,ts,t1,t2,t3⟩:=hhd T rfl
  refine wpAny_bind (wpAny_field ea rfl e1 ?_)
  rw [if_pos (show ((tH (some T) Value.none Value.ref) != Value.none)=true by simp)]
  refine wpAny_bind (wpAny_field t1 t2 t3 ?_)
  rw [if_neg (show ¬ ((Value.none == rawInt L)=true) by simp [rawInt])]
  refine wpAny_bind (wpAny_setField t1 t2 (cL.mp t3).1 ?_)
  obtain ⟨h2,e2⟩:∃ h2,h2=s.heap.update T (Obj.mapFields (·.setIfInBounds 3 Value.none)):=⟨_,rfl⟩
  rw [← e2]
  have o2:∀ b,b ≠ T→h2.get? b=s.heap.get? b:=fun b z=>by rw [e2];exact Heap.get?_update_other _ _ (Ne.symm z)
  have sz2:h2.objs.size=s.heap.objs.size:=by rw [e2];exact Heap.size_update ..
  have nT:T ∉ frs (env :: outer):=fun z=>by
   obtain ⟨_,o,ho,q⟩:=hl.mem z
   rw [t1] at ho
   cases ho
   exact q ts t2
  have hl2:h2.FunFrames base (env :: outer):=hl.of_keeps fun b o hb q=>⟨o,(o2 b fun z=>by rw [z,t1] at hb;cases hb;exact q ts t2).trans hb,rfl⟩
  refine wV (s:={ s with heap:=h2 }) hfr hl2 hf ((o2 a (Ne.symm Ta)).trans ea) rfl hsz fun h' T' hT q1 q2 q3 q4=>h h' T' (by rw [← sz2];exact hT) ⟨⟨_,sl,q1,by simp [hsz]⟩,?_,hne,fun T2 z=>?_⟩
   (fun b o z1 z0 z2 z3=>q3 b o z1 z2 ((o2 b fun z=>z0 (by rw [z])).trans z3)) fun b o z1 z0 z2=>q4 b o z1 ((o2 b fun z=>z0 (by rw [z])).trans z2)
  ·obtain ⟨o,es,ep,r1,r2⟩:=hdic
   exact ⟨o,es,ep,q3 dx o hne nd ((o2 dx (Ne.symm Td)).trans r1),r2⟩
  ·cases z
   have hT:s.heap.objs.size ≤ T':=by rw [← sz2];exact hT
   refine ⟨fun z=>?_,fun z=>?_,q2⟩
   ·rw [z] at hT
    exact absurd (Heap.lt_size ea) (eO.mpr hT)
   ·rw [z] at hT
    exact absurd dlt (eO.mpr hT)
end
end XC
namespace XC
open PySem PySem.Spec PyProof.Rows L2 My
structure Loose (X:Cx) (pins:List (Addr × Obj)) (H:Hp) (b:Addr):Prop where
 new:X.s₀.heap.objs.size ≤ b
 loc:b ≠ X.env.locals
 cel:∀ x c,X.env.cells.lookup x=some c→c ≠ b
 pin:∀ p ∈ X.pn++pins,p.1 ≠ b
 out:H b=none
section
variable {X:Cx} {pins:List (Addr × Obj)} {σ:L2.St} {H H':Hp} {s:Shared}
theorem Loose.of (I:Inv X pins σ H s) {b:Addr} (hb:s.heap.objs.size ≤ b) (hH:H' b=none):Loose X pins H' b:=by
 refine ⟨bV I.sz hb,fun z=>?_,fun x c e z=>?_,fun p hp z=>?_,hH⟩
 ·rw [z] at hb;exact absurd I.lt (eO.mpr hb)
 ·obtain ⟨v,o,ho,_⟩:=I.cell x c e
  rw [z] at ho
  exact absurd (Heap.lt_size ho) (eO.mpr hb)
 ·have:=(I.pin p hp).1
  rw [z] at this
  exact absurd (Heap.lt_size this) (eO.mpr hb)
theorem Loose.nofs (I:Inv X pins σ H s) {b:Addr} (L:Loose X pins H' b):b ∉ X.env.locals :: X.fs:=fun z=>by
 rcases aO.mp z with e | e
 ·exact L.loc e
 ·obtain ⟨_,o,ho,_⟩:=I.ok.funs.mem e
  exact absurd (Heap.lt_size ho) (eO.mpr L.new)
theorem zT {M:Model} {A:Around} {E:Value→Shared→Prop} {a C dx:Addr} {f:Str} {u:Value} {tb:Option Addr} {Q:Unit→Shared→Prop} (hA:A.frames=X.A.frames) (I:Inv X pins σ H s) (hst:X.stack=X.env :: X.outer) (hfr:X.env.frame=some X.env.locals)
 (F:Fly s.heap a C dx f u tb) (La:Loose X pins H a) (Ld:Loose X pins H dx) (Lt:∀ T,tb=some T→Loose X pins H T)
 (h:∀ s' T,Inv X pins σ H s'→Fly s'.heap a C dx f u (some T)→s'.os=s.os→s'.gens=s.gens→Loose X pins H T→Q () s') :
 wpAny M A (noteFrame (.ref a) X.env) (fun _ s'=>wpAny M A (setFlight (.ref a) none) Q E s') E s:=by
 have fl:=I.stack
 rw [hst] at fl
 have fe:frs (X.env :: X.outer)=X.env.locals :: X.fs:=by unfold frs;rw [cg,hfr];rfl
 refine IW (hA.trans (I.ok.frames.trans (by rw [hst]))) fl hfr F (by rw [fe];exact Ld.nofs I) fun h' T hT F' k1 k2=>?_
 have LT:Loose X pins H T:=Loose.of I hT (I.hok.fresh hT)
 refine h _ T ?_ F' rfl rfl LT
 rw [fe] at k1
 have ex:∀ b,H b ≠ none→b ≠ a∧tb ≠ some b∧b ∉ X.env.locals :: X.fs:=fun b hb=>by
  refine ⟨fun z=>hb (by rw [z];exact La.out),fun z=>hb (Lt b z).out,fun z=>hb ?_⟩
  exact I.stkFree b (by rw [hst,fe];exact z)
 obtain ⟨m,⟨o,es,ep,ho,r⟩,_⟩:=id I.loc
 obtain ⟨sl,hL⟩:=k2 _ o (Ne.symm La.loc) (fun z=>(Lt _ z).loc rfl) ho
 refine I.step (g':=s.gens) (d':=s.drawn) (t':=s.toks) (ch:=a :: tb.toList) (fun b hb=>?_) (fun b o z1 z2 z3 q _=>k1 b o (fun z=>z3 (by rw [z];exact aG)) (fun z=>z3 (aF _ (by rw [z];exact aQ.mpr rfl))) (fun z=>(aO.mp z).elim z1 z2) q)
  (fun b o z1 z2 z3 q _=>k2 b o (fun z=>z3 (by rw [z];exact aG)) (fun z=>z3 (aF _ (by rw [z];exact aQ.mpr rfl))) q) (fun _ _ _ _ z=>z)
  (fun b o z3 q=>let ⟨_,w⟩:=k2 b o (fun z=>z3 (by rw [z];exact aG)) (fun z=>z3 (aF _ (by rw [z];exact aQ.mpr rfl))) q;⟨_,w⟩) (fun _ _ e=>e) (fun _ _ _ e=>e) (fun _ _ _ e=>e) (fun m' hm=>?_) (fun b w e=>?_) I.bare
 ·rcases aO.mp hb with e | e
  ·rw [e];exact ⟨.inr La.new,La.loc,La.cel,La.pin⟩
  ·cases tb with
   | none=>cases e
   | some T0 =>
    have e:b=T0:=by simpa using e
    have:=Lt T0 rfl
    rw [e];exact ⟨.inr this.new,this.loc,this.cel,this.pin⟩
 ·obtain ⟨o',es',ep',ho',r'⟩:=hm
  rw [ho] at ho';cases ho'
  exact ⟨_,es',ep',hL,r'⟩
 ·refine (I.hok b w e).stay (fun c v hc q=>?_) (fun _ q=>q) fun _ _ q=>q
  obtain ⟨z1,z2,z3⟩:=ex c (by
   rcases hc with z | z
   ·rw [z,e];simp
   ·rw [z];simp)
  exact k1 c v z1 z2 z3 q
end
end XC
namespace XC
open PySem PySem.Spec PyProof.Rows L2 My
section
variable {prog:Program} {w:World} {A:Around} {E:Value→Shared→Prop} {h:Heap} {g:Array GenState} {d:Drawn} {t:Nat} {os:OsState}
variable {C N I:Addr} {bmB:List Value} {mN mI:Str→Option Value} {B newId initId:String}
theorem Two.call {rest:List Value} {fI:Addr} {oI:Obj} {Q:Value→Shared→Prop} (T:Two h C N I bmB mN mI B newId) (F:ExcBaseFacts B newId initId bmB) (hi:mI "__init__" = none) (hN:mN "__init__" = some (.ref fI))
 (hf:h.get? fI=some oI) (hfc:oI.cls = .type "function") (hrest:rest.length ≤ sizeLine)
 (hq:∀ h' e,h.objs.size ≤ e→Heap.MadeExcOf h h' e (.ref C) rest→wpAny (model prog w) (A.under (.builtin "type.__call__" ⟨.ref C :: rest,[]⟩)) (call (.ref fI) (.ref e :: rest)) (fun r s'=>r = .none∧Q (.ref e) s') E ⟨h',g,d,t,os⟩) :
 wpAny (model prog w) A (call (.ref C) rest) Q E ⟨h,g,d,t,os⟩:=by
 have T0:=T
 obtain ⟨⟨nm,q,bs,sn,sub,ab,col,dd,k0,k1,k2,k3,k5,hC⟩,hn,⟨jnm,jq,NI,jbs,jsn,jsub,jab,jcol,jdd,j0,j1,j2,j3,j5,nid,hI,hm⟩,hb⟩:=T
 have g1:=tc_lookup
 have g2:=tc_bind (.ref C)
 have ty:(⟨h,g,d,t,os⟩:Shared).TypeIs (.ref C) "type" := ⟨_,hC,rfl⟩
 refine wpAny_call (codeAny_of_tree ?_)
 show wpAny _ _ (callAny (.ref C) _) _ _ _
 repeat (any_goals (first
  | assumption
  | with_reducible refine wpAny_loadPart_at hC ?_
  | wp_step))
 refine ⟨rfl,?_⟩
 refine codeAny_call_builtin_at (Code.quiet_builtin _ (by decide +kernel)) entry_typeCall (wpAny_check_type_call_sub hC (T0.make F hi hN hf hfc hrest fun h' e hz hm=>?_))
 exact hq h' e hz hm
theorem Bt {M:Model} {A:Around} {s:Shared} {env:Env} {x:Sem Value} {Q:Flow→Shared→Prop} (hh:A.handled=none) (hbase:bmB.contains (.type "BaseException")=true)
 (h:wpAny M A x (fun v s₁=>∃ e oe,v = .ref e∧Two s₁.heap C N I bmB mN mI B newId∧s₁.heap.get? e=some oe∧oe.cls = .ref C∧(∃ vs,oe.data = .fields vs∧vs[1]? = some .none)∧E (.ref e) s₁) E s) :
 wpAny M A (raiseStmt env (some x) none) Q E s:=by
 have cB:(Value.ref C :: .ref I :: bmB).contains (.type "BaseException")=true:=by
  rw [eG,eG,hbase,jf,jf]
 unfold raiseStmt
 refine wpAny_bind (wpAny_mono h (fun v s₁ q=>?_) fun _ _ z=>z)
 obtain ⟨e,oe,rfl,T,he,hc,⟨vs,hd,h1⟩,hE⟩:=q
 obtain ⟨⟨nm,q,bs,sn,sub,ab,col,dd,k0,k1,k2,k3,k5,hC⟩,hn,⟨jnm,jq,NI,jbs,jsn,jsub,jab,jcol,jdd,j0,j1,j2,j3,j5,nid,hI,hm⟩,hb⟩:=T
 obtain ⟨hp,g,d,tk,os⟩:=s₁
 repeat (first
  | (with_reducible refine wpAny_loadPart_at he ?_;rw [hc])
  | with_reducible refine wpAny_loadPart_at hC ?_
  | (with_reducible refine wpAny_isSubtype_exc hC ?_;rw [cB])
  | (with_reducible refine wpAny_field he hd h1 ?_)
  | wp_step)
 exact wpAny_raiseNew_none hh hE
end
end XC
namespace XC
open PySem PySem.Spec PyProof.Rows L2 My
abbrev bmV:List Value:=[.type "ValueError", .type "Exception", .type "BaseException", .type "object"]
structure Init (K:PySem.W.Frag) (f:Str) (fI:Addr):Prop where
 ex:∃ (name qual:Str) (params:Arguments) (scope:Scope) (dV kV doc pm cdv ct:Value) (an od:Option Addr) (osl:Array (Option Value)) (p1 p2 p3 p4:Pos),
  K.lookup fI=some ⟨.type "function", od,.func (PySem.W.fnOf name qual params [.Assign [.Attribute (.Name "self" p1) f p2] (.Name f p3) p4] scope dV kV doc pm an cdv ct),osl⟩∧PySem.W.codeIn K cdv qual=true ∧
  FnScope ["self", f] ["self", f] scope∧scope.names.lookup ("self" : Str)=some NameKind.local∧scope.names.lookup f=some NameKind.local ∧
  Binds K (PySem.W.fnOf name qual params [.Assign [.Attribute (.Name "self" p1) f p2] (.Name f p3) p4] scope dV kV doc pm an cdv ct) ["self", f] []
 ne:("self" : Str) ≠ f
 nd:(f == ("__debug__" : Str))=false
 nc:(f == ("__classdict__" : Str))=false
structure Exc (K:PySem.W.Frag) (mg:Str→Option Value) (cn f:Str) (C I:Addr):Prop where
 mgC:mg cn=some (.ref C)
 kp:PySem.W.keepIn K (.ref C)=true
 hB:typeLookup (.type "ValueError") f=pure none
 ex:∃ (N fI:Addr) (mN mI:Str→Option Value),(∀ h,K.In h→Two h C N I bmV mN mI "ValueError" "ValueError.__new__")∧mN "__init__" = some (.ref fI)∧mI "__init__" = none∧mN "__setattr__" = none∧mI "__setattr__" = none∧mN f=none∧mI f=none∧Init K f fI
section
variable {X:Cx} {pins:List (Addr × Obj)} {σ:L2.St} {H:Hp} {s:Shared} {cn f:Str} {C I:Addr} {arg:Expr} {ta:TE} {p pos:Pos} {k:Nat}
theorem I_ {R:V→Hp→Prop} (Ex:Exc X.K X.mg cn f C I) (hr:Room (k + 2) X.A) (hg:Gl X cn) (hdb:(cn == ("__debug__" : Str))=false) (ha:PE X arg ta) (J:Inv X pins σ H s) (h:ta σ H R)
 (he:starEach [arg] X.env=(false,eval arg X.env) :: starEach [] X.env:=by rfl) (hpl:(backTo pos (starEach [] X.env)).any (·.1)=false:=by rfl) :
 wpAny (model X.prog X.w) X.A (eval (.Call (.Name cn p) [arg] [] pos) X.env) (fun r s'=>∃ (v:V) (H1:Hp) (a dx:Addr) (u:Value),r = .ref a∧R v H1∧RelV v u∧Inv X pins σ H1 s'∧Fly s'.heap a C dx f u none∧Loose X pins H1 a∧Loose X pins H1 dx) X.xe s:=by
 obtain ⟨mgC,kp,hB,N,fI,mN,mI,TK,i1,i2,s1,s2,n1,n2,⟨⟨name,qual,params,scope,dV,kV,doc,pm,cdv,ct,an,od,osl,p1,p2,p3,p4,lk,hcd,S,l1,l2,hb⟩,ne,nd,nc⟩⟩:=Ex
 refine wpAny_Call_Name_kw (rB J hg mgC ?_ hdb)
 have h':OD ta Uc σ H fun vs H1=>match vs with
  | [v]=>R v H1
  | _=>False:=h
 refine PySem.W.callWith_K (h₀:=X.base) J.ok.mod.kin kp (thn (iu ha lZ he pos pins s σ H _ J h') fun us z ⟨vs,H1,J1,r,q⟩=>⟨J1.kIn,?_⟩) he hpl
 obtain ⟨v,u,rfl,rfl,rv⟩:∃ v u,vs=[v]∧us=[u]∧RelV v u:=by
  cases r with
  | nil=>exact q.elim
  | cons a b=>cases b with
   | nil=>exact ⟨_,_,rfl,rfl,a⟩
   | cons _ _=>exact q.elim
 obtain ⟨hp,g,d,tk,os⟩:=z
 refine (TK _ J1.kIn).call PySem.F.excBase_ValueError i2 i1 (J1.kIn _ _ lk) rfl (show 1 ≤ sizeLine by decide) fun h' e hz hm=>?_
 have J2:Inv X pins σ H1 ⟨h',g,d,tk,os⟩:=J1.kept (t':=tk) hm.keeps
 obtain ⟨t,ht,_,_⟩:=hm.there
 refine wpAny_call (IV (x:=e) lk hcd S l1 l2 ne nd nc hb (hr.make C [u] []) (J2.env0.make C [u] []) (TK _ J2.kIn) PySem.F.store_ValueError s1 s2 n1 n2 hB ht rfl (fun c z=>by cases z) rfl rv fun h3 tk3 dx z1 z2 z3 z4 z5=>?_)
 have k3:∀ b ob,hp.get? b=some ob→h3.get? b=some ob:=fun b ob w=>z5 b ob (fun y=>by
  rw [y] at w
  exact absurd (Heap.lt_size w) (eO.mpr hz)) (hm.keeps _ _ w)
 have J3:Inv X pins σ H1 ⟨h3,g,d,tk3,os⟩:=J1.kept (t':=tk3) k3
 have szz:hp.objs.size ≤ dx:=by
  have e1:e < h'.objs.size:=Heap.lt_size ht
  exact bV hz (bV (h_ e1) z2)
 exact ⟨rfl,v,H1,e,dx,u,rfl,q,rv,J3,⟨⟨_,_,z1,rfl⟩,z4,z3,fun T y=>by cases y⟩,Loose.of J1 hz (J1.hok.fresh hz),Loose.of J1 szz (J1.hok.fresh szz)⟩
end
end XC
namespace XC
open PySem PySem.Spec PyProof.Rows L2 My
def CXE (P:Program) (w:World) (fld:Addr→Str):CXT:=fun outer H s E e s'=>∃ (a C dx T:Addr) (u:Value) (H':Hp),e = .ref a∧s'.os=s.os∧AllBare s'.gens∧Un (frs outer) [] H H' s.heap s'.heap∧HOk P w H' s'.heap∧Fly s'.heap a C dx (fld C) u (some T) ∧
 s.heap.objs.size ≤ a∧s.heap.objs.size ≤ dx∧s.heap.objs.size ≤ T∧H' a=none∧H' dx=none∧H' T=none∧E u (some C) H'
theorem CXE.no {P:Program} {w:World} {fld:Addr→Str} {outer:List Env} {H:Hp} {s s':Shared} {e:Value} (h:CXE P w fld outer H s E0 e s'):False:=by
 obtain ⟨_,_,_,_,_,_,_,_,_,_,_,_,_,_,_,_,_,_,z⟩:=h
 exact z
section
variable {P:Program} {w:World} {K:PySem.W.Frag} {mg:Str→Option Value} {base:Heap} {N:List Str} {qual:Str} {scope:Scope} {fa:Addr} {cdv:Value} {A:Around} {outer:List Env} {s₀:Shared} {H₀:Hp} {E:XK} {fld:Addr→Str}
variable {pins:List (Addr × Obj)} {σ:L2.St} {H:Hp} {s:Shared}
theorem Ja {a C dx:Addr} {u:Value} {tb:Option Addr} (I:Inv (gW (CXE P w fld) P w K mg base N qual scope fa cdv A outer s₀ H₀ E) pins σ H s) (F:Fly s.heap a C dx (fld C) u tb)
 (La:Loose (gW (CXE P w fld) P w K mg base N qual scope fa cdv A outer s₀ H₀ E) pins H a) (Ld:Loose (gW (CXE P w fld) P w K mg base N qual scope fa cdv A outer s₀ H₀ E) pins H dx)
 (Lt:∀ T,tb=some T→Loose (gW (CXE P w fld) P w K mg base N qual scope fa cdv A outer s₀ H₀ E) pins H T) (q:E u (some C) H):(gW (CXE P w fld) P w K mg base N qual scope fa cdv A outer s₀ H₀ E).xe (.ref a) s:=by
 show wpAny _ _ (leaving _ (.ref a)) _ _ s
 unfold leaving
 refine wpAny_bind (zT rfl I rfl rfl F La Ld Lt fun s' T I' F' o1 o2 LT=>?_)
 exact ⟨a,C,dx,T,u,H,rfl,I'.os,I'.bare,I'.base,I'.hok,F',La.new,Ld.new,LT.new,La.out,Ld.out,LT.out,q⟩
end
section
variable {X:Cx} {pins:List (Addr × Obj)} {σ:L2.St} {H:Hp} {s:Shared} {cn f:Str} {C I:Addr} {arg:Expr} {ta:TE} {p pos rpos:Pos} {k:Nat}
theorem zU {Q:Flow→Shared→Prop} {R:V→Hp→Prop} (Ex:Exc X.K X.mg cn f C I) (hr:Room (k + 2) X.A) (hg:Gl X cn) (hdb:(cn == ("__debug__" : Str))=false) (ha:PE X arg ta) (J:Inv X pins σ H s) (h:ta σ H R)
 (hx:∀ (v:V) (H1:Hp) (a dx:Addr) (u:Value) (s':Shared),R v H1→RelV v u→Inv X pins σ H1 s'→Fly s'.heap a C dx f u none→Loose X pins H1 a→Loose X pins H1 dx→X.xe (.ref a) s')
 (he:starEach [arg] X.env=(false,eval arg X.env) :: starEach [] X.env:=by rfl) (hpl:(backTo pos (starEach [] X.env)).any (·.1)=false:=by rfl) :
 wpAny (model X.prog X.w) X.A (exec (.Raise (some (.Call (.Name cn p) [arg] [] pos)) none rpos) X.env) Q X.xe s:=by
 have Ex0:=Ex
 obtain ⟨mgC,kp,hB,N,fI,mN,mI,TK,i1,i2,s1,s2,n1,n2,_⟩:=Ex
 rw [arm_exec_Raise]
 simp only [evalOpt,Option.map]
 refine wpAny_bind (wpAny_standAt (Bt (C:=C) (N:=N) (I:=I) (bmB:=bmV) (mN:=mN) (mI:=mI) (B := "ValueError") (newId := "ValueError.__new__") hr.hd (by decide) ?_))
 refine wpAny_bind (wpAny_mono (I_ Ex0 hr hg hdb ha J h he hpl) (fun r s' q=>?_) fun _ _ z=>z)
 obtain ⟨v,H1,a,dx,u,rfl,q,rv,J',F,La,Ld⟩:=q
 refine wpAny_bind (wpAny_standAt (wpAny_pure ?_))
 obtain ⟨vs,sl,e1,e2⟩:=F.obj
 exact ⟨a,_,rfl,TK _ J'.kIn,e1,rfl,⟨vs,rfl,e2⟩,hx v H1 a dx u s' q rv J' F La Ld⟩
end
end XC
namespace XC
open PySem PySem.Spec PyProof.Rows L2 My
section
variable {M:Model} {A:Around} {E:Value→Shared→Prop} {h:Heap} {g:Array GenState} {d:Drawn} {t:Nat} {os:OsState}
variable {C N I a:Addr} {bmB:List Value} {mN mI:Str→Option Value} {B newId:String} {oe:Obj}
theorem Two.match_up {Q:Bool→Shared→Prop} (T:Two h C N I bmB mN mI B newId) (he:h.get? a=some oe) (hc:oe.cls = .ref C) (hbase:bmB.contains (.type "BaseException")=true) (hq:Q true ⟨h,g,d,t,os⟩) :
 wpAny M A (excMatches (.ref a) (.ref I)) Q E ⟨h,g,d,t,os⟩:=by
 obtain ⟨⟨nm,q,bs,sn,sub,ab,col,dd,k0,k1,k2,k3,k5,hC⟩,hn,⟨jnm,jq,NI,jbs,jsn,jsub,jab,jcol,jdd,j0,j1,j2,j3,j5,nid,hI,hm⟩,hb⟩:=T
 have c1:(Value.ref I :: bmB).contains (.type "BaseException")=true:=by rw [eG,hbase,jf]
 have c2:(Value.ref C :: .ref I :: bmB).contains (.ref I)=true:=by simp
 have f:=tc_notTuple
 unfold excMatches
 repeat (first
  | (with_reducible refine wpAny_loadPart_at he ?_;rw [hc])
  | with_reducible refine wpAny_loadPart_at hI ?_
  | with_reducible refine wpAny_loadPart_at hC ?_
  | (with_reducible refine wpAny_isSubtype_exc hI ?_;rw [c1])
  | (with_reducible refine wpAny_isSubtype_exc hC ?_;rw [c2])
  | wp_step)
 exact hq
theorem Two.match_self {Q:Bool→Shared→Prop} (T:Two h C N I bmB mN mI B newId) (he:h.get? a=some oe) (hc:oe.cls = .ref C) (hbase:bmB.contains (.type "BaseException")=true) (hq:Q true ⟨h,g,d,t,os⟩) :
 wpAny M A (excMatches (.ref a) (.ref C)) Q E ⟨h,g,d,t,os⟩:=by
 obtain ⟨⟨nm,q,bs,sn,sub,ab,col,dd,k0,k1,k2,k3,k5,hC⟩,hn,_,hb⟩:=T
 exact wpAny_excMatches_sub_self hC he hc (by rw [eG,hbase,jf]) hq
end
end XC
namespace XC
open PySem PySem.Spec PyProof.Rows L2 My
section
variable {prog:Program} {w:World} {A:Around} {E:Value→Shared→Prop} {h:Heap} {g:Array GenState} {d:Drawn} {t:Nat} {os:OsState}
variable {C N I a D:Addr} {bmB:List Value} {mN mI:Str→Option Value} {B newId:String} {oe oD:Obj}
theorem Two.isi_blt {T0:String} {Q:Value→Shared→Prop} (T:Two h C N I bmB mN mI B newId) (he:h.get? a=some oe) (hc:oe.cls = .ref C) (hty:typeOf (.type T0)=pure (.type "type")) (hb:(Value.ref C :: .ref I :: bmB).contains (.type T0)=true) (hq:Q (.bool true) ⟨h,g,d,t,os⟩) :
 wpAny (model prog w) A (PySem.call (.builtin "isinstance") [.ref a,.type T0]) Q E ⟨h,g,d,t,os⟩:=by
 obtain ⟨⟨nm,q,bs,sn,sub,ab,col,dd,k0,k1,k2,k3,k5,hC⟩,_⟩:=T
 refine call_isinstance_of ?_ (by intro e;cases e)
 unfold Builtin.«isinstance.nested»
 repeat (first
  | (with_reducible refine wpAny_loadPart_at he ?_;rw [hc])
  | (with_reducible refine wpAny_isSubtype_exc hC ?_;rw [hb])
  | wp_step)
 exact hq
end
end XC
namespace XC
open PySem PySem.Spec PyProof.Rows L2 My
def dN (X:Cx) (a:Addr) (oa:Obj) (dx:Addr) (od:Obj):Cx:={ X with A:=X.A.mark (some (.ref a)),calm:=false,pn:=X.pn++[(a,oa),(dx,od)],xe:=fun _ _=>False }
section
variable {X:Cx} {pins:List (Addr × Obj)} {σ:L2.St} {H:Hp} {s:Shared} {a C dx:Addr} {f:Str} {u:Value} {tb:Option Addr}
theorem FJ (I:Inv X pins σ H s) (F:Fly s.heap a C dx f u tb) (La:Loose X pins H a) (Ld:Loose X pins H dx):∃ oa od,s.heap.get? a=some oa∧s.heap.get? dx=some od∧Inv (dN X a oa dx od) pins σ H s:=by
 obtain ⟨vs,sl,e1,_⟩:=F.obj
 obtain ⟨od,es,ep,e2,e3,_⟩:=F.dic
 refine ⟨_,od,e1,e2,⟨⟨I.ok.mod,I.ok.kind,I.ok.glob,I.ok.blt,I.ok.above,I.ok.inj,I.ok.has,I.ok.cab,fun z=>(by cases z),I.ok.frames,I.ok.stk,I.ok.exf,I.ok.bs,I.ok.bsz,I.ok.noex,I.ok.exfs,I.ok.funs,I.ok.frf⟩,I.os,I.bare,I.base,I.loc,I.cell,I.free,I.freeC,fun p hp=>?_,I.hok,I.len⟩⟩
 have hp:p ∈ (X.pn++[(a,(⟨.ref C,some dx,.fields vs,sl⟩:Obj)),(dx,od)])++pins:=hp
 rcases bM.mp hp with hp | hp
 ·rcases bM.mp hp with hp | hp
  ·exact I.pin p (bF _ hp)
  ·rcases aO.mp hp with rfl | hp
   ·exact ⟨e1,La.out,La.loc,fun z=>La.nofs I (aF _ z),fun v z=>by cases z⟩
   ·rw [aQ.mp hp]
    exact ⟨e2,Ld.out,Ld.loc,fun z=>Ld.nofs I (aF _ z),fun v z=>by rw [e3] at z;cases z⟩
 ·exact I.pin p (aX _ hp)
theorem rE {σ':L2.St} {H':Hp} {s':Shared} {oa od:Obj} (ok:X.Ok) (I:Inv (dN X a oa dx od) pins σ' H' s'):Inv X pins σ' H' s':=by
 refine ⟨ok,I.os,I.bare,I.base,I.loc,I.cell,I.free,I.freeC,fun p hp=>?_,I.hok,I.len⟩
 rcases bM.mp hp with hp | hp
 ·exact I.pin p (bF _ (bF _ hp))
 ·exact I.pin p (aX _ hp)
end
end XC
namespace XC
open PySem PySem.Spec PyProof.Rows L2 My
section
variable {X:Cx} {pins:List (Addr × Obj)} {σ:L2.St} {H:Hp} {s:Shared} {a C dx T:Addr} {f:Str} {u:Value}
theorem Bu {M:Model} {A:Around} {E:Value→Shared→Prop} {Q:Unit→Shared→Prop} (I:Inv X pins σ H s) (F:Fly s.heap a C dx f u (some T)) (hn:H T=none) (hL:T ≠ X.env.locals) (h1:X.s₀.heap.objs.size ≤ T) (h2:∀ x c,X.env.cells.lookup x=some c→c ≠ T) (h3:∀ p ∈ X.pn++pins,p.1 ≠ T)
 (h:∀ s',Inv X pins σ H s'→Fly s'.heap a C dx f u (some T)→Q () s'):wpAny M A (setFlight (.ref a) none) Q E s:=by
 obtain ⟨⟨vs,sl,ea,e1⟩,hdic,hne,hhd⟩:=F
 obtain ⟨Ta,Td,oT,ts,t1,t2,t3⟩:=hhd T rfl
 unfold setFlight
 refine wpAny_bind (wpAny_field ea rfl e1 ?_)
 rw [if_pos (show ((tH (some T) Value.none Value.ref) != Value.none)=true by simp)]
 refine wpAny_setField t1 t2 (cL.mp t3).1 ?_
 obtain ⟨h',e2⟩:∃ h',h'=s.heap.update T (Obj.mapFields (·.setIfInBounds 3 ((none:Option Addr).elim Value.none fun f=>rawInt f))):=⟨_,rfl⟩
 rw [← e2]
 have o2:∀ b,b ≠ T→h'.get? b=s.heap.get? b:=fun b z=>by rw [e2];exact Heap.get?_update_other _ _ (Ne.symm z)
 have d4:=Obj.data_mapFields t2 (·.setIfInBounds 3 ((none:Option Addr).elim Value.none fun f=>rawInt f))
 have tT:h'.get? T=some (oT.mapFields (·.setIfInBounds 3 ((none:Option Addr).elim Value.none fun f=>rawInt f))):=by
  rw [e2];exact Heap.get?_update_self _ t1 (Obj.isFreed_of_fields d4)
 have I':Inv X pins σ H { s with heap:=h',toks:=s.toks }:=Inv.turned (t':=s.toks) I (fun b o z q=>(o2 b z).trans q) hn hL (.inr h1) h2 h3
 refine h _ I' ⟨⟨vs,sl,(o2 a (Ne.symm Ta)).trans ea,e1⟩,?_,hne,fun T' z=>?_⟩
 ·obtain ⟨o,es,ep,r1,r2⟩:=hdic
  exact ⟨o,es,ep,(o2 dx (Ne.symm Td)).trans r1,r2⟩
 ·cases z
  refine ⟨Ta,Td,_,_,tT,d4,?_⟩
  have:=(cL.mp t3).1
  simp [this]
end
end XC
namespace XC
open PySem PySem.Spec PyProof.Rows L2 My
section
variable {X:Cx} {pins:List (Addr × Obj)} {σ:L2.St} {H:Hp} {s:Shared} {a C I0 dx T D:Addr} {cn f ic n:Str} {u:Value} {i:Nat} {b0:Stmt} {suite:List Stmt} {np hpos:Pos}
theorem name_goes {M:Model} {A:Around} {E:Value→Shared→Prop} {Q:Unit→Shared→Prop} (I:Inv X pins σ H s) (hl:X.env.scope.names.lookup n=some .local)
 (h:∀ s',Inv X pins (aK σ.length none) H s'→Q () s'):wpAny M A (do bindName X.env n .none;unbindBehindTheSuite X.env n hpos) Q E s:=by
 obtain ⟨m,hn,_⟩:=id I.loc
 have cls:(X.env.scope.kind == .class || (X.env.scope.kind == .module && X.env.locals != X.env.globals))=false:=by rw [I.ok.kind];rfl
 refine wpAny_nameGoes hl hn cls fun h' m' hn' hs=>h _ ?_
 have neL:∀ b o,X.s₀.heap.get? b=some o→b ≠ X.env.locals:=fun b o e z=>by
  rw [z] at e
  exact absurd (Heap.lt_size e) (eO.mpr I.ok.above)
 refine ⟨I.ok,I.os,I.bare,⟨fun b o e z1 z2 z3=>(hs.2 b (neL b o e)).trans (I.base.keep b o e z1 z2 z3),fun b o e z1 z2 z3=>?_,I.base.free,fun b o e z1=>?_,I.base.tups,I.base.frzs,I.base.tbls⟩,⟨m',hn',fun j y v e1 e2 _=>?_⟩,fun y c e=>?_,I.free,I.freeC,fun p hp=>?_,fun b ob e=>?_,by rw [bW];exact I.len⟩
 ·obtain ⟨sl,w⟩:=I.base.slot b o e z1 z2 z3
  exact ⟨sl,(hs.2 b (neL b o e)).trans w⟩
 ·obtain ⟨o',w⟩:=I.base.there b o e z1
  exact ⟨o',(hs.2 b (neL b o e)).trans w⟩
 ·rw [dB] at e2
  split at e2 <;> cases e2
 ·obtain ⟨w,z⟩:=I.cell y c e
  exact ⟨w,z.sameBut hs (I.cne y c e)⟩
 ·obtain ⟨e,z1,z2,z3,z4⟩:=I.pin p hp
  exact ⟨(hs.2 p.1 z2).trans e,z1,z2,z3,z4⟩
 ·refine (I.hok b ob e).stay (fun c w hc q=>(hs.2 c fun z=>?_).trans q) (fun _ q=>q) fun _ _ q=>q
  rcases hc with y | y
  ·rw [← y,z,I.free] at e;cases e
  ·rw [z,I.free] at y;cases y
end
end XC
namespace XC
open PySem PySem.Spec PyProof.Rows L2 My
def XP (fld:Addr→Str) (X:Cx) (pins:List (Addr × Obj)) (σ:L2.St) (EX:XK) (e:Value) (s':Shared):Prop:=∃ (a C dx T:Addr) (u:Value) (H':Hp),e = .ref a∧Inv X pins σ H' s'∧Fly s'.heap a C dx (fld C) u (some T)∧Loose X pins H' a∧Loose X pins H' dx∧Loose X pins H' T∧EX u (some C) H'
section
variable {X:Cx} {pins:List (Addr × Obj)} {σ:L2.St} {H:Hp} {s:Shared} {fld:Addr→Str} {k:Nat} {f:Addr} {fd:FuncData} {ps:List Str} {sp:Sp} {dvs:List V} {ds:List Value} {EX:XK}
theorem Mh {Q:VK} {us:List Value} {vs:List V} (F:FnOk X.prog X.w X.K X.mg X.base (CXE X.prog X.w fld) k f fd ps sp) (hr:Room k X.A) (hb:Binds X.K fd ps ds) (hd:Vals dvs ds) (J:Inv X pins σ H s) (r:Vals vs us) (h:sp (vs++dvs) H Q EX) :
 wpAny (model X.prog X.w) X.A (PySem.call (.ref f) us) (EP X pins σ Q) (XP fld X pins σ EX) s:=by
 have rr2:=r.append hd
 have hl:(us++ds).length=ps.length:=by
  rw [← rr2.length]
  exact F.len _ _ _ _ h
 refine wpAny_call (codeAny_mono (F.run X.A X.stack s H ⟨us,[]⟩ (us++ds) (vs++dvs) Q EX hr J.env0 (hb s us J.kIn hl) rr2 h) fun rr s' q=>?_)
 cases rr with
 | error e =>
  obtain ⟨a,C,dx,T,u,H',rfl,os,bare,un,hok,Fl,ha,hdx,hT,na,nd,nT,q⟩:=q
  exact ⟨a,C,dx,T,u,H',rfl,Inv.call' (ch:=[]) J os un hok bare (fun b z=>absurd z (by simp)),Fl,Loose.of J ha na,Loose.of J hdx nd,Loose.of J hT nT,q⟩
 | ok fl =>
  cases fl with
  | ret u=>exact J.after q
  | next=>exact q.elim
  | brk=>exact q.elim
  | cont=>exact q.elim
def PSE (fld:Addr→Str) (X:Cx) (st:Stmt) (t:Ends→XK→L2.St→Hp→Prop):Prop :=
 ∀ (pins:List (Addr × Obj)) (s:Shared) (σ:L2.St) (H:Hp) (D:Ends) (EX:XK),Inv X pins σ H s→t D EX σ H→wpAny (model X.prog X.w) X.A (exec st X.env) (SP X pins D) (XP fld X pins σ EX) s
section
variable {x:Str} {p pos pos2:Pos} {e:Expr} {es:List Expr} {ta:TA}
theorem uY (F:FnOk X.prog X.w X.K X.mg X.base (CXE X.prog X.w fld) k f fd ps sp) (hr:Room k X.A) (hg:Gl X x) (hm:X.mg x=some (.ref f)) (hk:PySem.W.keepIn X.K (.ref f)=true) (hb:Binds X.K fd ps ds) (hd:Vals dvs ds) (ha:PA X.nox (e :: es) ta)
 (hdb:(x == ("__debug__" : Str))=false:=by decide) (he:starEach (e :: es) X.env=(false,eval e X.env) :: starEach es X.env:=by rfl) (hpl:(backTo pos (starEach es X.env)).any (·.1)=false:=by rfl) (hs:swapsWith (.Call (.Name x p) (e :: es) [] pos) none pos2.line X.env=pure false:=by rfl) :
 PSE fld X (.Expr (.Call (.Name x p) (e :: es) [] pos) pos2) (fun D EX σ H=>ta σ H fun vs H1=>sp (vs++dvs) H1 (fun _ H2=>D.nx σ H2) EX):=by
 intro pins s σ H D EX J h
 refine wpAny_Expr_any ?_ J.quiet hs
 refine wpAny_Call_Name_kw (rB J hg hm ?_ hdb)
 refine PySem.W.callWith_K (h₀:=X.base) J.ok.mod.kin hk (wpAny_mono (ha pos pins s σ H _ (J.wish _) h) (fun us s1 q=>?_) fun _ _ z=>z.elim) he hpl
 obtain ⟨vs,H1,J1,r,q⟩:=q
 have J1:Inv X pins σ H1 s1:=J1.wish _
 refine ⟨J1.kIn,wpAny_mono (Mh F hr hb hd J1 r q) (fun u s2 w=>?_) fun _ _ z=>z⟩
 obtain ⟨v,H2,J2,rv,q2⟩:=w
 exact ⟨σ,H2,J2,q2⟩
end
end
end XC
namespace XC
open PySem PySem.Spec PyProof.Rows L2 My D3
def WM (K:PySem.W.Frag) (mg:Str→Option Value) (fl:List Fl) (G:Gh) (Dn:Ends) (E:XK):Or→Prop
 | .o x=>uP K fl G Dn x
 | .ex c d=>∀ (C:Addr) (v:V) (u:Value) (H':Hp),mg c=some (.ref C)→Same G.H0 H'→RA K ok1 true H' v d→RelV v u→E u (some C) H'
def tDX (K:PySem.W.Frag) (mg:Str→Option Value) (fl:List Fl) (E:XK) (f:FX):TS:=fun Dn σ H=>∃ G ow δ o,Rel K fl G ow σ H δ∧f δ=some o∧WM K mg fl G Dn E o
abbrev DX1 (X:Cx) (E:XK) (fl:List Fl) (s:Stmt) (f:FX):Prop:=PS X s (tDX X.K X.mg fl E f)
abbrev DXs (X:Cx) (E:XK) (fl:List Fl) (s:List Stmt) (f:FX):Prop:=PSs X s (tDX X.K X.mg fl E f)
section
variable {X:Cx} {E:XK} {fl:List Fl} {c:Expr} {st:Stmt} {sts body orelse:List Stmt} {fs:FS} {f g:FX} {ft:FT} {pos:Pos}
theorem PS.nox {t:TS} (h:PS X.nox st t):PS X st t:=fun pins s σ H D I hw=>by
 refine wpAny_mono (h pins s σ H D (I.wish _) hw) (fun fl s' q=>?_) fun _ _ z=>z.elim
 cases fl with
 | next=>obtain ⟨σ',H',J,q⟩:=q;exact ⟨σ',H',J.wish _,q⟩
 | ret u=>obtain ⟨v,σ',H',J,r,q⟩:=q;exact ⟨v,σ',H',J.wish _,r,q⟩
 | brk=>obtain ⟨σ',H',J,q⟩:=q;exact ⟨σ',H',J.wish _,q⟩
 | cont=>obtain ⟨σ',H',J,q⟩:=q;exact ⟨σ',H',J.wish _,q⟩
theorem tR (h:DS1 X.nox fl st fs):DX1 X E fl st (xOf fs):=PS.imp (PS.nox h) fun Dn σ H h=>by
 obtain ⟨G,ow,δ,o,R,hf,q⟩:=h
 obtain ⟨o1,e1,e2⟩:=bind1 hf
 cases e2
 exact ⟨G,ow,δ,o1,R,e1,q⟩
theorem Bv (h:DSs X.nox fl sts fs):DXs X E fl sts (xOf fs):=PSs.imp (PSs.nox h) fun Dn σ H h=>by
 obtain ⟨G,ow,δ,o,R,hf,q⟩:=h
 obtain ⟨o1,e1,e2⟩:=bind1 hf
 cases e2
 exact ⟨G,ow,δ,o1,R,e1,q⟩
theorem jd (h1:DX1 X E fl st f) (h2:DXs X E fl sts g):DXs X E fl (st :: sts) (nu f g):=PSs.imp (uE h1 h2) fun Dn σ H h=>by
 obtain ⟨G,ow,δ,o,R,hf,q⟩:=h
 obtain ⟨o1,e1,e2⟩:=bind1 hf
 refine ⟨G,ow,δ,o1,R,e1,?_⟩
 cases o1 with
 | ex c d=>cases e2;exact q
 | o o1 =>
  cases o1 with
  | nx δ'=>exact fun ow' σ' H' R'=>⟨G,ow',δ',o,R',e2,q⟩
  | rt d=>cases e2;exact uP.nx_imp (fl:=fl) (o:=.rt d) q (fun _ z=>by cases z)
  | bk d=>cases e2;exact uP.nx_imp (fl:=fl) (o:=.bk d) q (fun _ z=>by cases z)
  | ct d=>cases e2;exact uP.nx_imp (fl:=fl) (o:=.ct d) q (fun _ z=>by cases z)
  | ex c f v=>cases e2;exact q
theorem lG (h1:DX1 X E fl st f):DXs X E fl [st] f:=PSs.imp (xU h1) fun _ _ _ h=>h
theorem Jb (hc:DT X.nox fl c ft) (h1:DXs X E fl body f) (h2:DXs X E fl orelse g):DX1 X E fl (.If c body orelse pos) (xIf ft f g):=PS.imp (G9 (PT.nox hc) h1 h2) fun Dn σ H h=>by
 obtain ⟨G,ow,δ,o,R,hf,q⟩:=h
 obtain ⟨t,e1,e2⟩:=bind1 hf
 refine ⟨G,ow,δ,t,R,e1,fun H' s=>?_⟩
 cases t with
 | true=>exact vR ⟨G,ow,δ,o,R.grow s,e2,q⟩
 | false=>exact vQ ⟨G,ow,δ,o,R.grow s,e2,q⟩
end
structure ExcF (K:PySem.W.Frag) (mg:Str→Option Value) (fld:Addr→Str) (cn f:Str):Prop where
 ex:∃ C I,Exc K mg cn f C I∧fld C=f
section
variable {P:Program} {w:World} {K:PySem.W.Frag} {mg:Str→Option Value} {base:Heap} {N:List Str} {qual:Str} {scope:Scope} {fa:Addr} {cdv:Value} {A:Around} {outer:List Env} {s₀:Shared} {H₀:Hp} {E:XK} {fld:Addr→Str}
variable {fl:List Fl} {cn f:Str} {arg:Expr} {fe:FE} {p pos rpos:Pos} {k:Nat}
theorem Jc (Ex:ExcF K mg fld cn f) (hr:Room (k + 2) (A.deeper (envOfC qual scope s₀.heap.objs.size fa cdv)))
 (ha:DE (gW (CXE P w fld) P w K mg base N qual scope fa cdv A outer s₀ H₀ E).nox fl .P arg fe) (hg:Gl (gW (CXE P w fld) P w K mg base N qual scope fa cdv A outer s₀ H₀ E) cn:=by rfl) (hdb:(cn == ("__debug__" : Str))=false:=by decide)
 (he:starEach [arg] (gW (CXE P w fld) P w K mg base N qual scope fa cdv A outer s₀ H₀ E).env=(false,eval arg (gW (CXE P w fld) P w K mg base N qual scope fa cdv A outer s₀ H₀ E).env) :: starEach [] (gW (CXE P w fld) P w K mg base N qual scope fa cdv A outer s₀ H₀ E).env:=by exact fD rfl)
 (hpl:(backTo pos (starEach [] (gW (CXE P w fld) P w K mg base N qual scope fa cdv A outer s₀ H₀ E).env)).any (·.1)=false:=by exact oZ rfl) :
 DX1 (gW (CXE P w fld) P w K mg base N qual scope fa cdv A outer s₀ H₀ E) E fl (.Raise (some (.Call (.Name cn p) [arg] [] pos)) none rpos) (mC cn fe):=by
 intro pins s σ H Dn J h
 obtain ⟨C,I0,Ex,hC⟩:=Ex.ex
 obtain ⟨G,ow,δ,o,R,hf,q⟩:=h
 obtain ⟨d,e1,e2⟩:=bind1 hf
 cases e2
 refine zU (R:=fun v H1=>Same H H1∧RA K ok1 true H1 v d) Ex hr hg hdb (PE.nox ha) J ⟨G,ow,δ,d,R,e1,fun v H' s r=>⟨s,r⟩⟩ (fun v H1 a dx u s' r rv J' Fl La Ld=>?_) he hpl
 rw [← hC] at Fl
 exact Ja J' Fl La Ld (fun T z=>by cases z) (q C v u H1 Ex.mgC (R.same0.trans r.1) r.2 rv)
end
def spX (K:PySem.W.Frag) (mg:Str→Option Value) (F:List D→Option Or):Sp:=fun vs H Q E=>∃ ds o,(Tb H∧RAs K ok1 true H vs ds)∧F ds=some o∧match o with
 | .o (.rt d)=>∀ v H',Same H H'→RA K (okN H) false H' v d→Q v H'
 | .ex c d=>∀ (C:Addr) (v:V) (u:Value) (H':Hp),mg c=some (.ref C)→Same H H'→RA K ok1 true H' v d→RelV v u→E u (some C) H'
 | _=>False
structure HasX (P:Program) (w:World) (K:PySem.W.Frag) (mg:Str→Option Value) (base:Heap) (fld:Addr→Str) (n:Nat) (x:Str) (ps:List Str) (sp:Sp) (dvs:List V):Prop where
 ex:∃ (f:Addr) (fd:FuncData) (ds:List Value),FnOk P w K mg base (CXE P w fld) n f fd ps sp∧Binds K fd ps ds∧Vals dvs ds∧PySem.W.keepIn K (.ref f)=true∧mg x=some (.ref f)
section
variable {P:Program} {w:World} {K:PySem.W.Frag} {mg:Str→Option Value} {base:Heap} {fld:Addr→Str} {x:Str} {ps N ks:List Str} {st:Stmt} {k n:Nat} {f:FX} {fl:List Fl} {dvs:List V} {sp:Sp}
theorem HasX.mono (h:HasX P w K mg base fld k x ps sp dvs) (l:k ≤ n):HasX P w K mg base fld n x ps sp dvs:=by
 obtain ⟨f,fd,ds,F,b,v,kp,m⟩:=h.ex
 exact ⟨f,fd,ds,F.mono l,b,v,kp,m⟩
theorem DR {fa:Addr} {fd:FuncData} (Fn:FunD K x st fa fd) (S:FnScope N ps (aP st)) (hp:∀ i,i < ps.length→fl[i]? = some .A) (hN:ps.length ≤ N.length)
 (hbody:∀ (fa:Addr) (cdv:Value) (A:Around) (outer:List Env) (s:Shared) (H:Hp) (E:XK),Room k (A.deeper (envOfC x (aP st) s.heap.objs.size fa cdv))→DXs (gW (CXE P w fld) P w K mg base N x (aP st) fa cdv A outer s H E) E fl (dI st) f) :
 FnOk P w K mg base (CXE P w fld) (k + 1) fa fd ps (spX K mg (fnX ps.length (N.length - ps.length) f)):=by
 obtain ⟨oc,od,dV,kV,doc,pm,an,cdv,ct,osl,rfl,lk,hcd⟩:=Fn.ex
 have hlen:∀ vs H Q E,spX K mg (fnX ps.length (N.length - ps.length) f) vs H Q E→vs.length=ps.length:=fun vs H Q E h=>by
  obtain ⟨ds,o,r,hf,_⟩:=h
  unfold fnX at hf
  by_cases z:ds.length=ps.length
  ·rw [r.2.length];exact z
  ·rw [if_neg z] at hf;cases hf
 refine Hr lk hcd S hlen fun A outer s H vs Q E hr h=>?_
 obtain ⟨ds,o,r,hf,q⟩:=h
 refine ⟨_,hbody fa cdv A outer s H E hr,?_⟩
 unfold fnX at hf
 by_cases z:ds.length=ps.length
 ·rw [if_pos z] at hf
  split at hf
  ·next d' e =>
   cases hf
   exact ⟨_,_,_,_,iR ps.length hp z hN r,e,fun v H' s r=>q v H' s r⟩
  ·next δ' e =>
   cases hf
   exact ⟨_,_,_,_,iR ps.length hp z hN r,e,fun ow' σ' H' R'=>q .non H' R'.same0 .non⟩
  ·next c d e =>
   cases hf
   exact ⟨_,_,_,_,iR ps.length hp z hN r,e,fun C v u H' m s r rv=>q C v u H' m s r rv⟩
  ·cases hf
 ·rw [if_neg z] at hf;cases hf
theorem yt (Dd:Dg K mg x st ps) (S:FnScope N ps (aP st)) (hp:∀ i,i < ps.length→fl[i]? = some .A) (hN:ps.length ≤ N.length)
 (hbody:∀ (fa:Addr) (cdv:Value) (A:Around) (outer:List Env) (s:Shared) (H:Hp) (E:XK),Room k (A.deeper (envOfC x (aP st) s.heap.objs.size fa cdv))→DXs (gW (CXE P w fld) P w K mg base N x (aP st) fa cdv A outer s H E) E fl (dI st) f) :
 HasX P w K mg base fld (k + 1) x ps (spX K mg (fnX ps.length (N.length - ps.length) f)) []:=by
 obtain ⟨f,fd,Fn,b,m⟩:=Dd.ex
 exact ⟨f,fd,[],DR Fn S hp hN hbody,b,.nil,Fn.kp,m⟩
theorem Mi (Dd:DgD K mg x st ps dvs ks) (S:FnScope N ps (aP st)) (hp:∀ i,i < ps.length→fl[i]? = some .A) (hN:ps.length ≤ N.length)
 (hbody:∀ (fa:Addr) (cdv:Value) (A:Around) (outer:List Env) (s:Shared) (H:Hp) (E:XK),Room k (A.deeper (envOfC x (aP st) s.heap.objs.size fa cdv))→DXs (gW (CXE P w fld) P w K mg base N x (aP st) fa cdv A outer s H E) E fl (dI st) f) :
 HasX P w K mg base fld (k + 1) x ps (spX K mg (fnX ps.length (N.length - ps.length) f)) dvs:=by
 obtain ⟨f,fd,ds,Fn,b,v,kb,m⟩:=Dd.ex
 exact ⟨f,fd,ds,DR Fn S hp hN hbody,b,v,Fn.kp,m⟩
end
end XC
namespace XC
open PySem PySem.Spec PyProof.Rows L2 My D3
section
variable {X:Cx} {a C I0 dx D:Addr} {cn f ic n:Str} {oa od:Obj} {i:Nat} {cond a1 b1:Expr} {rest:List Expr} {p p1 p2 pos np hpos rpos:Pos}
def tE (i:Nat) (a:Addr):TE:=fun σ H Q=>σ[i]? = some (some (.ref a))∧Q (.bl true) H
abbrev IsE (S:Cx) (i:Nat) (a:Addr) (cond:Expr):Prop:=PE S cond (tE i a)
theorem Jd {T0:String} (Ex:Exc X.K X.mg cn f C I0) (hty:typeOf (.type T0)=pure (.type "type")) (hb:bmV.contains (.type T0)=true) (hoa:oa.cls = .ref C):mL (dN X a oa dx od) (.builtin "isinstance") (fun xs H Q=>xs=[.ref a,.ty T0]∧Q (.bl true) H):=by
 intro pins s σ H xs us Q I r h
 obtain ⟨rfl,q⟩:=h
 obtain ⟨u1,u2,rfl,r1,r2⟩:∃ u1 u2,us=[u1,u2]∧RelV (.ref a) u1∧RelV (.ty T0) u2:=by
  cases r with
  | cons r1 r=>cases r with
   | cons r2 r=>cases r;exact ⟨_,_,rfl,r1,r2⟩
 cases r1;cases r2
 obtain ⟨mgC,kp,hB,N,fI,mN,mI,TK,_⟩:=Ex
 have T:=TK _ I.kIn
 have ha:=(I.pin (a,oa) (bF _ (aX _ aG))).1
 obtain ⟨hp,g,d,tk,os⟩:=s
 have hq:EP (dN X a oa dx od) pins σ Q (.bool true) ⟨hp,g,d,tk,os⟩:=⟨.bl true,H,I,rfl,q⟩
 refine T.isi_blt ha hoa hty ?_ hq
 rw [eG,eG,hb]
 simp
theorem Mj {T0:String} (Ex:Exc X.K X.mg cn f C I0) (hty:typeOf (.type T0)=pure (.type "type")) (hb:bmV.contains (.type T0)=true) (hoa:oa.cls = .ref C) (hic:X.mg ic=none) (hbo:bootBuiltins ic=some (.type T0)) (hgi:Gl X "isinstance") (hmi:X.mg "isinstance" = none) (hg:Gl X ic) (hi:X.N[i]? = some n) (hv:Vis X.env.scope n)
 (hnn:ic ≠ "__name__" := by decide) (hdb:(ic == ("__debug__" : Str))=false:=by decide) (hdn:(n == ("__debug__" : Str))=false:=by decide) (hcn:(n == ("__classdict__" : Str))=false:=by decide) :
 IsE (dN X a oa dx od) i a (.Call (.Name "isinstance" p) [.Name n p1,.Name ic p2] [] pos) :=
 PE.imp (oU (X:=dN X a oa dx od) (Jd Ex hty hb hoa) hgi hmi boot_isinstance (iu (lY (X:=dN X a oa dx od) hi hv hdn hcn) (iu (Dj (X:=dN X a oa dx od) (v:=.ty T0) hg hic hbo rfl hnn hdb) lZ (by exact fD rfl)) (by exact fD rfl)) (by decide) (by decide) (by exact fD rfl) (by exact oZ rfl)) fun σ H Q h=>by
  exact ⟨_,h.1,rfl,h.2⟩
end
end XC
namespace XC
open PySem PySem.Spec PyProof.Rows L2 My D3
section
variable {X:Cx} {fl:List Fl} {fld:Addr→Str} {n i:Nat} {x ic en:Str} {ps cs:List Str} {F:List D→Option Or} {dvs:List V} {dd:List D} {e cond:Expr} {es:List Expr} {fa:FA} {p pos pos2 np rpos hpos tpos:Pos}
end
end XC
namespace XC
open PySem PySem.Spec PyProof.Rows L2 My D3
def Ml (es:Array DictEntry):Bool:=es.toList.all fun e=>match e.key with | .str _ _=>true | _=>false
theorem Mp {es:Array DictEntry} (h:Ml es=true):StrKeys es:=fun e he=>by
 have:=fj.mp h e (oJ.mpr he)
 cases q:e.key with
 | str n t=>exact ⟨n,t,rfl⟩
 | _=>rw [q] at this;cases this
theorem O_ {K:PySem.W.Frag} {N:Addr} {c:Value} {d:Option Addr} {es:Array DictEntry} {n:Nat} {sl:Array (Option Value)} (l:K.lookup N=some ⟨c,d,.dict es n,sl⟩) (ok:Ml es=true) (h:Heap) (X:K.In h):h.Ns N (nsFind es) :=
 ⟨_,es,n,X _ _ l,rfl,Mp ok,fun _=>rfl⟩
theorem pG {K:PySem.W.Frag} {N:Addr} {c:Value} {d:Option Addr} {es:Array DictEntry} {n:Nat} {sl:Array (Option Value)} {x:Str} {r:Option Value} (l:K.lookup N=some ⟨c,d,.dict es n,sl⟩) (e:PySem.W.nsIn K N x=some r):nsFind es x=r:=by
 unfold PySem.W.nsIn at e
 rw [l] at e
 dsimp only at e
 unfold nsFind findBy
 rw [← pZ]
 split at e
 ·next en he =>
  cases e
  rw [he];rfl
 ·next he =>
  rw [he]
  split at e
  ·cases e
  ·cases e;rfl
theorem Bw {K:PySem.W.Frag} {h:Heap} {mg:Str→Option Value} {cn f:Str} {C I N NI fI:Addr} (X:K.In h) (G:h.Ns mainGlobals mg)
 {nm q:Str} {bs:List Value} {sn:List Str} {sub:List Value} {ab:Bool} {col:Option Bool} {dd:Option Addr} {k0 k1 k2 k3 k5:Option Value}
 {nm' q':Str} {bs':List Value} {sn':List Str} {sub':List Value} {ab':Bool} {col':Option Bool} {dd':Option Addr} {j0 j1 j2 j3 j5:Option Value} {nid:String}
 {c c':Value} {d d':Option Addr} {es es':Array DictEntry} {n n':Nat} {sl sl':Array (Option Value)}
 {name qual:Str} {params:Arguments} {scope:Scope} {dV kV doc pm cdv ct:Value} {an od:Option Addr} {osl:Array (Option Value)} {p1 p2 p3 p4:Pos}
 (a:PySem.W.nsIn K mainGlobals cn=some (some (.ref C))) (kp:PySem.W.keepIn K (.ref C)=true)
 (lC:K.lookup C=some (excClassObj nm q C N bs (.ref I :: bmV) true sn sub ab col dd k0 k1 k2 k3 k5 "ValueError.__new__"))
 (lI:K.lookup I=some (excClassObj nm' q' I NI bs' bmV true sn' sub' ab' col' dd' j0 j1 j2 j3 j5 nid))
 (lN:K.lookup N=some ⟨c,d,.dict es n,sl⟩) (oN:Ml es=true) (lNI:K.lookup NI=some ⟨c',d',.dict es' n',sl'⟩) (oNI:Ml es'=true)
 (i1:PySem.W.nsIn K N "__init__" = some (some (.ref fI))) (i2:PySem.W.nsIn K NI "__init__" = some none) (s1:PySem.W.nsIn K N "__setattr__" = some none) (s2:PySem.W.nsIn K NI "__setattr__" = some none)
 (n1:PySem.W.nsIn K N f=some none) (n2:PySem.W.nsIn K NI f=some none) (hB:typeLookup (.type "ValueError") f=pure none)
 (lk:K.lookup fI=some ⟨.type "function", od,.func (PySem.W.fnOf name qual params [.Assign [.Attribute (.Name "self" p1) f p2] (.Name f p3) p4] scope dV kV doc pm an cdv ct),osl⟩) (hcd:PySem.W.codeIn K cdv qual=true)
 (S:FnScope ["self", f] ["self", f] scope) (l1:scope.names.lookup ("self" : Str)=some NameKind.local) (l2:scope.names.lookup f=some NameKind.local)
 (hb:∀ u v,bindArgs (PySem.W.fnOf name qual params [.Assign [.Attribute (.Name "self" p1) f p2] (.Name f p3) p4] scope dV kV doc pm an cdv ct) ⟨[u,v],[]⟩=pure [(("self" : Str),u),(f,v)])
 (ne:("self" : Str) ≠ f) (nd:(f == ("__debug__" : Str))=false) (nc:(f == ("__classdict__" : Str))=false):Exc K mg cn f C I :=
 ⟨PySem.W.mg_of X G a,kp,hB,N,fI,nsFind es,nsFind es',fun h X=>⟨⟨_,_,_,_,_,_,_,_,_,_,_,_,_,X _ _ lC⟩,O_ lN oN h X,⟨_,_,_,_,_,_,_,_,_,_,_,_,_,_,_,X _ _ lI,O_ lNI oNI h X⟩,by rfl⟩,pG lN i1,pG lNI i2,pG lN s1,pG lNI s2,pG lN n1,pG lNI n2,
  ⟨⟨name,qual,params,scope,dV,kV,doc,pm,cdv,ct,an,od,osl,p1,p2,p3,p4,lk,hcd,S,l1,l2,.all fun us hl=>match us,hl with | [u,v],_=>hb u v⟩,ne,nd,nc⟩⟩
end XC
namespace XC
open PySem PySem.Spec PyProof.Rows L2 My D3
structure ExcG (K:PySem.W.Frag) (mg:Str→Option Value) (fld:Addr→Str) (cn f ic:Str):Prop where
 ex:∃ C I,Exc K mg cn f C I∧fld C=f∧mg ic=some (.ref I)
theorem ExcG.fly {K:PySem.W.Frag} {mg:Str→Option Value} {fld:Addr→Str} {cn f ic:Str} (h:ExcG K mg fld cn f ic):ExcF K mg fld cn f:=by
 obtain ⟨C,I,E,hf,_⟩:=h.ex
 exact ⟨C,I,E,hf⟩
section
variable {X:Cx} {fld:Addr→Str} {c f ic:Str} {i:Nat} {cond:Expr}
end
end XC
namespace XC
open PySem PySem.Spec PyProof.Rows L2 My
structure FlyN (h:Heap) (a C dx:Addr) (f:Str) (u:Value) (T L:Addr):Prop where
 obj:∃ vs sl,h.get? a=some ⟨.ref C,some dx,.fields vs,sl⟩∧vs[1]? = some (.ref T)
 dic:h.Ns1 dx (fun y=>if y=f then some u else none)
 ne:dx ≠ a
 hd:T ≠ a∧T ≠ dx∧∃ oT ts,h.get? T=some oT∧oT.data = .fields ts∧ts[3]? = some (rawInt L)
section
variable {M:Model} {A:Around} {E:Value→Shared→Prop} {s:Shared}
theorem uZ {base:Heap} {env:Env} {outer:List Env} {L a:Addr} {oe:Obj} {vs:Array Value} {head:Value} {hn:Bool} {E2:Value→Shared→Prop}
 (hfr:A.frames=some (env :: outer)) (hl:s.heap.FunFrames base (env :: outer)) (hf:env.frame=some L) (he:s.heap.get? a=some oe) (hd:oe.data = .fields vs) (hsz:1 < vs.size)
 (h:∀ h' T,s.heap.objs.size ≤ T→h'.get? a=some (oe.mapFields (·.setIfInBounds 1 (.ref T)))→(∃ oT ts,h'.get? T=some oT∧oT.data = .fields ts∧ts[3]? = some (rawInt L)) →
  (∀ b o,b ≠ a→b ∉ frs (env :: outer)→s.heap.get? b=some o→h'.get? b=some o)→(∀ b o,b ≠ a→s.heap.get? b=some o→∃ sl,h'.get? b=some { o with slots:=sl })→E2 (.ref a) { s with heap:=h' }) :
 wpAny M A (do let z ← frameOf env;let pl ← entryPlaceOf L hn;let b ← EntryCells.newEntry head z .none (rawInt L) .none pl;setField (.ref a) 1 b) (fun _ s'=>cameBackBy M A env E2 (.ref a) s') E s:=by
 have nf:a ∉ (env :: outer).filterMap (·.frame):=fun z=>by
  obtain ⟨_,o,ho,q⟩:=hl.mem z
  rw [he] at ho
  cases ho
  exact q vs hd
 refine wpAny_bind (wpAny_frameOf_fun hfr hl hf fun h1 hs=>?_)
 refine wpAny_bind (wpAny_entryPlaceOf fun pl hpl=>?_)
 unfold EntryCells.newEntry newFields
 refine wpAny_bind (wpAny_newObj_type ?_ (hpl.sizeOk5 _ _ _ _ _))
 obtain ⟨ob,eob⟩:∃ ob:Obj,ob = { cls:=.type "traceback", dict:=none,data:=.fields ([head,.ref L,.none,rawInt L,.none]++(if pl.isEmpty then aK 6 Value.none else pl)).toArray }:=⟨_,rfl⟩
 rw [← eob]
 have od:ob.data = .fields ([head,.ref L,.none,rawInt L,.none]++(if pl.isEmpty then aK 6 Value.none else pl)).toArray:=by rw [eob]
 have ofr:ob.isFreed=false:=by rw [eob];rfl
 have a1:h1.get? a=some oe:=(hs.2.1 a nf).trans he
 have a2:(h1.push ob).get? a=some oe:=Heap.get?_push_of_some _ a1
 refine wpAny_setField a2 hd hsz ?_
 have sz:h1.objs.size=s.heap.objs.size:=hs.1
 have ne:h1.objs.size ≠ a:=nO (Heap.lt_size a1)
 have d3:=Obj.data_mapFields hd (·.setIfInBounds 1 (Value.ref h1.objs.size))
 obtain ⟨h3,e3⟩:∃ h3,h3=(h1.push ob).update a (Obj.mapFields (·.setIfInBounds 1 (Value.ref h1.objs.size))):=⟨_,rfl⟩
 rw [← e3]
 have a3:h3.get? a=some (oe.mapFields (·.setIfInBounds 1 (.ref h1.objs.size))):=by
  rw [e3];exact Heap.get?_update_self _ a2 (Obj.isFreed_of_fields d3)
 have t3:h3.get? h1.objs.size=some ob:=by
  rw [e3];exact (Heap.get?_update_other _ _ ne.symm).trans (Heap.get?_push_size h1 ofr)
 have o3:∀ b,b ≠ a→b ≠ h1.objs.size→h3.get? b=h1.get? b:=fun b z1 z2=>by
  rw [e3,Heap.get?_update_other _ _ (Ne.symm z1)]
  exact Heap.get?_push_ne _ _ _ z2
 unfold cameBackBy
 refine wpAny_bind (wpAny_field a3 d3 (x:=.ref h1.objs.size) (by simp [hsz]) ?_)
 rw [if_neg (show ¬ ((Value.ref h1.objs.size == Value.none)=true) by simp)]
 unfold setFlight
 simp only [hf]
 refine wpAny_bind (wpAny_field a3 d3 (x:=.ref h1.objs.size) (by simp [hsz]) ?_)
 rw [if_pos (show (Value.ref h1.objs.size != Value.none)=true by simp)]
 have d4:=Obj.data_mapFields od (·.setIfInBounds 3 ((some L:Option Addr).elim Value.none fun f=>rawInt f))
 refine wpAny_setField t3 od (by simp only [aZ,bK,bZ,iH] <;> omega) ?_
 obtain ⟨h4,e4⟩:∃ h4,h4=h3.update h1.objs.size (Obj.mapFields (·.setIfInBounds 3 ((some L:Option Addr).elim Value.none fun f=>rawInt f))):=⟨_,rfl⟩
 rw [← e4]
 have o4:∀ b,b ≠ h1.objs.size→h4.get? b=h3.get? b:=fun b z=>by rw [e4];exact Heap.get?_update_other _ _ (Ne.symm z)
 refine h h4 h1.objs.size (qJ sz.symm) ((o4 a (Ne.symm ne)).trans a3) ⟨_,_,by rw [e4];exact Heap.get?_update_self _ t3 (Obj.isFreed_of_fields d4),d4,?_⟩ (fun b o z1 z2 q=>?_) fun b o z1 q=>?_
 ·rcases hpl with rfl | ⟨_,_,_,_,_,_,_,rfl⟩ <;> simp
 ·have q1:h1.get? b=some o:=(hs.2.1 b z2).trans q
  have z3:b ≠ h1.objs.size:=bL (Heap.lt_size q1)
  exact (o4 b z3).trans ((o3 b z1 z3).trans q1)
 ·obtain ⟨sl,q1⟩:=hs.2.2 b o q
  have z3:b ≠ h1.objs.size:=bL (Heap.lt_size q1)
  exact ⟨sl,(o4 b z3).trans ((o3 b z1 z3).trans q1)⟩
theorem FN {base:Heap} {env:Env} {outer:List Env} {L a C dx:Addr} {f:Str} {u:Value} {tb:Option Addr} {E2:Value→Shared→Prop}
 (hfr:A.frames=some (env :: outer)) (hl:s.heap.FunFrames base (env :: outer)) (hf:env.frame=some L) (F:Fly s.heap a C dx f u tb) (nd:dx ∉ frs (env :: outer))
 (h:∀ h' T,s.heap.objs.size ≤ T→FlyN h' a C dx f u T L→(∀ b o,b ≠ a→tb ≠ some b→b ∉ frs (env :: outer)→s.heap.get? b=some o→h'.get? b=some o) →
  (∀ b o,b ≠ a→tb ≠ some b→s.heap.get? b=some o→∃ sl,h'.get? b=some { o with slots:=sl })→E2 (.ref a) { s with heap:=h' }) :
 wpAny M A (noteFrame (.ref a) env) (fun _ s'=>cameBackBy M A env E2 (.ref a) s') E s:=by
 obtain ⟨⟨vs,sl,ea,e1⟩,hdic,hne,hhd⟩:=F
 have hsz:1 < vs.size:=(cL.mp e1).1
 have dlt:dx < s.heap.objs.size:=by
  obtain ⟨o,_,_,q,_⟩:=hdic
  exact Heap.lt_size q
 unfold noteFrame
 simp only [hf]
 cases tb with
 | none =>
  refine wpAny_bind (wpAny_field ea rfl e1 ?_)
  rw [if_neg (by decide)]
  refine uZ hfr hl hf ea rfl hsz fun h' T hT q1 q2 q3 q4=>h h' T hT ⟨⟨_,sl,q1,by simp [hsz]⟩,?_,hne,?_⟩ (fun b o z1 _ z2 z3=>q3 b o z1 z2 z3) fun b o z1 _ z2=>q4 b o z1 z2
  ·obtain ⟨o,es,ep,r1,r2⟩:=hdic
   exact ⟨o,es,ep,q3 dx o hne nd r1,r2⟩
  ·refine ⟨fun z=>?_,fun z=>?_,q2⟩
   ·rw [z] at hT
    exact absurd (Heap.lt_size ea) (eO.mpr hT)
   ·rw [z] at hT
    exact absurd dlt (eO.mpr hT)
 | some T =>
  obtain ⟨Ta,Td,oT,ts,t1,t2,t3⟩:=hhd T rfl
  refine wpAny_bind (wpAny_field ea rfl e1 ?_)
  rw [if_pos (show ((tH (some T) Value.none Value.ref) != Value.none)=true by simp)]
  refine wpAny_bind (wpAny_field t1 t2 t3 ?_)
  rw [if_neg (show ¬ ((Value.none == rawInt L)=true) by simp [rawInt])]
  refine wpAny_bind (wpAny_setField t1 t2 (cL.mp t3).1 ?_)
  obtain ⟨h2,e2⟩:∃ h2,h2=s.heap.update T (Obj.mapFields (·.setIfInBounds 3 Value.none)):=⟨_,rfl⟩
  rw [← e2]
  have o2:∀ b,b ≠ T→h2.get? b=s.heap.get? b:=fun b z=>by rw [e2];exact Heap.get?_update_other _ _ (Ne.symm z)
  have sz2:h2.objs.size=s.heap.objs.size:=by rw [e2];exact Heap.size_update ..
  have nT:T ∉ frs (env :: outer):=fun z=>by
   obtain ⟨_,o,ho,q⟩:=hl.mem z
   rw [t1] at ho
   cases ho
   exact q ts t2
  have hl2:h2.FunFrames base (env :: outer):=hl.of_keeps fun b o hb q=>⟨o,(o2 b fun z=>by rw [z,t1] at hb;cases hb;exact q ts t2).trans hb,rfl⟩
  refine uZ (s:={ s with heap:=h2 }) hfr hl2 hf ((o2 a (Ne.symm Ta)).trans ea) rfl hsz fun h' T' hT q1 q2 q3 q4=>h h' T' (by rw [← sz2];exact hT) ⟨⟨_,sl,q1,by simp [hsz]⟩,?_,hne,?_⟩
   (fun b o z1 z0 z2 z3=>q3 b o z1 z2 ((o2 b fun z=>z0 (by rw [z])).trans z3)) fun b o z1 z0 z2=>q4 b o z1 ((o2 b fun z=>z0 (by rw [z])).trans z2)
  ·obtain ⟨o,es,ep,r1,r2⟩:=hdic
   exact ⟨o,es,ep,q3 dx o hne nd ((o2 dx (Ne.symm Td)).trans r1),r2⟩
  ·have hT:s.heap.objs.size ≤ T':=by rw [← sz2];exact hT
   refine ⟨fun z=>?_,fun z=>?_,q2⟩
   ·rw [z] at hT
    exact absurd (Heap.lt_size ea) (eO.mpr hT)
   ·rw [z] at hT
    exact absurd dlt (eO.mpr hT)
end
end XC
namespace XC
open PySem PySem.Spec PyProof.Rows L2 My
section
variable {X:Cx} {pins:List (Addr × Obj)} {σ:L2.St} {H H':Hp} {s:Shared}
theorem FP {M:Model} {A:Around} {E:Value→Shared→Prop} {a C dx:Addr} {f:Str} {u:Value} {tb:Option Addr} {E2:Value→Shared→Prop} (hA:A.frames=X.A.frames) (I:Inv X pins σ H s) (hst:X.stack=X.env :: X.outer) (hfr:X.env.frame=some X.env.locals)
 (F:Fly s.heap a C dx f u tb) (La:Loose X pins H a) (Ld:Loose X pins H dx) (Lt:∀ T,tb=some T→Loose X pins H T)
 (h:∀ s' T,Inv X pins σ H s'→FlyN s'.heap a C dx f u T X.env.locals→s'.os=s.os→s'.gens=s.gens→Loose X pins H T→E2 (.ref a) s') :
 wpAny M A (noteFrame (.ref a) X.env) (fun _ s'=>cameBackBy M A X.env E2 (.ref a) s') E s:=by
 have fl:=I.stack
 rw [hst] at fl
 have fe:frs (X.env :: X.outer)=X.env.locals :: X.fs:=by unfold frs;rw [cg,hfr];rfl
 refine FN (hA.trans (I.ok.frames.trans (by rw [hst]))) fl hfr F (by rw [fe];exact Ld.nofs I) fun h' T hT F' k1 k2=>?_
 have LT:Loose X pins H T:=Loose.of I hT (I.hok.fresh hT)
 refine h _ T ?_ F' rfl rfl LT
 rw [fe] at k1
 have ex:∀ b,H b ≠ none→b ≠ a∧tb ≠ some b∧b ∉ X.env.locals :: X.fs:=fun b hb=>by
  refine ⟨fun z=>hb (by rw [z];exact La.out),fun z=>hb (Lt b z).out,fun z=>hb ?_⟩
  exact I.stkFree b (by rw [hst,fe];exact z)
 obtain ⟨m,⟨o,es,ep,ho,r⟩,_⟩:=id I.loc
 obtain ⟨sl,hL⟩:=k2 _ o (Ne.symm La.loc) (fun z=>(Lt _ z).loc rfl) ho
 refine I.step (g':=s.gens) (d':=s.drawn) (t':=s.toks) (ch:=a :: tb.toList) (fun b hb=>?_) (fun b o z1 z2 z3 q _=>k1 b o (fun z=>z3 (by rw [z];exact aG)) (fun z=>z3 (aF _ (by rw [z];exact aQ.mpr rfl))) (fun z=>(aO.mp z).elim z1 z2) q)
  (fun b o z1 z2 z3 q _=>k2 b o (fun z=>z3 (by rw [z];exact aG)) (fun z=>z3 (aF _ (by rw [z];exact aQ.mpr rfl))) q) (fun _ _ _ _ z=>z)
  (fun b o z3 q=>let ⟨_,w⟩:=k2 b o (fun z=>z3 (by rw [z];exact aG)) (fun z=>z3 (aF _ (by rw [z];exact aQ.mpr rfl))) q;⟨_,w⟩) (fun _ _ e=>e) (fun _ _ _ e=>e) (fun _ _ _ e=>e) (fun m' hm=>?_) (fun b w e=>?_) I.bare
 ·rcases aO.mp hb with e | e
  ·rw [e];exact ⟨.inr La.new,La.loc,La.cel,La.pin⟩
  ·cases tb with
   | none=>cases e
   | some T0 =>
    have e:b=T0:=by simpa using e
    have:=Lt T0 rfl
    rw [e];exact ⟨.inr this.new,this.loc,this.cel,this.pin⟩
 ·obtain ⟨o',es',ep',ho',r'⟩:=hm
  rw [ho] at ho';cases ho'
  exact ⟨_,es',ep',hL,r'⟩
 ·refine (I.hok b w e).stay (fun c v hc q=>?_) (fun _ q=>q) fun _ _ q=>q
  obtain ⟨z1,z2,z3⟩:=ex c (by
   rcases hc with z | z
   ·rw [z,e];simp
   ·rw [z];simp)
  exact k1 c v z1 z2 z3 q
theorem flight_again {M:Model} {A:Around} {E:Value→Shared→Prop} {Q:Unit→Shared→Prop} {a C dx T L:Addr} {f:Str} {u:Value} (fo:Option Addr) (I:Inv X pins σ H s) (F:FlyN s.heap a C dx f u T L) (LT:Loose X pins H T)
 (h:∀ s',Inv X pins σ H s'→(∃ vs sl,s'.heap.get? a=some ⟨.ref C,some dx,.fields vs,sl⟩∧vs[1]? = some (.ref T))→s'.heap.Ns1 dx (fun y=>if y=f then some u else none)→dx ≠ a →
  (T ≠ a∧T ≠ dx∧∃ oT ts,s'.heap.get? T=some oT∧oT.data = .fields ts∧ts[3]? = some (fo.elim Value.none fun f=>rawInt f))→Q () s'):wpAny M A (setFlight (.ref a) fo) Q E s:=by
 obtain ⟨⟨vs,sl,ea,e1⟩,hdic,hne,Ta,Td,oT,ts,t1,t2,t3⟩:=F
 unfold setFlight
 refine wpAny_bind (wpAny_field ea rfl e1 ?_)
 rw [if_pos (show ((Value.ref T) != Value.none)=true by simp)]
 refine wpAny_setField t1 t2 (cL.mp t3).1 ?_
 obtain ⟨h',e2⟩:∃ h',h'=s.heap.update T (Obj.mapFields (·.setIfInBounds 3 (fo.elim Value.none fun f=>rawInt f))):=⟨_,rfl⟩
 rw [← e2]
 have o2:∀ b,b ≠ T→h'.get? b=s.heap.get? b:=fun b z=>by rw [e2];exact Heap.get?_update_other _ _ (Ne.symm z)
 have d4:=Obj.data_mapFields t2 (·.setIfInBounds 3 (fo.elim Value.none fun f=>rawInt f))
 have tT:h'.get? T=some (oT.mapFields (·.setIfInBounds 3 (fo.elim Value.none fun f=>rawInt f))):=by
  rw [e2];exact Heap.get?_update_self _ t1 (Obj.isFreed_of_fields d4)
 have I':Inv X pins σ H { s with heap:=h',toks:=s.toks }:=Inv.turned (t':=s.toks) I (fun b o z q=>(o2 b z).trans q) LT.out LT.loc (.inr LT.new) LT.cel LT.pin
 refine h _ I' ⟨vs,sl,(o2 a (Ne.symm Ta)).trans ea,e1⟩ ?_ hne ⟨Ta,Td,_,_,tT,d4,?_⟩
 ·obtain ⟨o,es,ep,r1,r2⟩:=hdic
  exact ⟨o,es,ep,(o2 dx (Ne.symm Td)).trans r1,r2⟩
 ·have:=(cL.mp t3).1
  simp [this]
theorem u9 {M:Model} {A:Around} {E:Value→Shared→Prop} {Q:Unit→Shared→Prop} {a C dx T:Addr} {f:Str} {u:Value} (hfr:X.env.frame=some X.env.locals) (F:FlyN s.heap a C dx f u T X.env.locals) (h:Q () s):wpAny M A (noteFrame (.ref a) X.env) Q E s:=by
 obtain ⟨⟨vs,sl,ea,e1⟩,hdic,hne,Ta,Td,oT,ts,t1,t2,t3⟩:=F
 unfold noteFrame
 simp only [hfr]
 refine wpAny_bind (wpAny_field ea rfl e1 ?_)
 rw [if_pos (show ((Value.ref T) != Value.none)=true by simp)]
 refine wpAny_bind (wpAny_field t1 t2 t3 ?_)
 rw [if_pos (show (rawInt X.env.locals == rawInt X.env.locals)=true by simp)]
 exact wpAny_pure h
def XPX (X:Cx) (fld:Addr→Str) (E:XK):Value→Shared→Prop:=fun e s=>∃ pins σ H a C dx u,e = .ref a∧Inv X pins σ H s∧Loose X pins H a∧Loose X pins H dx∧E u (some C) H ∧
 ((∃ tb,Fly s.heap a C dx (fld C) u tb∧∀ T,tb=some T→Loose X pins H T)∨∃ T,FlyN s.heap a C dx (fld C) u T X.env.locals∧Loose X pins H T)
theorem Je {fld:Addr→Str} {E:XK} (hst:X.stack=X.env :: X.outer) (hfr:X.env.frame=some X.env.locals):PassesOwn (model X.prog X.w) X.A X.env (XPX X fld E):=by
 rintro e s ⟨pins,σ,H,a,C,dx,u,rfl,I,La,Ld,q,F⟩
 rcases F with ⟨tb,F,Lt⟩ | ⟨T,F,LT⟩
 ·exact FP rfl I hst hfr F La Ld Lt fun s' T I' F' _ _ LT=>⟨pins,σ,H,a,C,dx,u,rfl,I',La,Ld,q,.inr ⟨T,F',LT⟩⟩
 ·refine u9 hfr F ?_
  unfold cameBackBy
  obtain ⟨vs,sl,ea,e1⟩:=F.obj
  refine wpAny_bind (wpAny_field ea rfl e1 ?_)
  rw [if_neg (show ¬ ((Value.ref T == Value.none)=true) by simp)]
  refine flight_again _ I F LT fun s' I' o1 o2 o3 o4=>⟨pins,σ,H,a,C,dx,u,rfl,I',La,Ld,q,.inr ⟨T,⟨o1,o2,o3,?_⟩,LT⟩⟩
  rw [hfr] at o4
  exact o4
end
section
variable {P:Program} {w:World} {K:PySem.W.Frag} {mg:Str→Option Value} {base:Heap} {N:List Str} {qual:Str} {scope:Scope} {fa:Addr} {cdv:Value} {A:Around} {outer:List Env} {s₀:Shared} {H₀:Hp} {E:XK} {fld:Addr→Str}
theorem Rf {e:Value} {s:Shared} (h:XPX (gW (CXE P w fld) P w K mg base N qual scope fa cdv A outer s₀ H₀ E) fld E e s):(gW (CXE P w fld) P w K mg base N qual scope fa cdv A outer s₀ H₀ E).xe e s:=by
 obtain ⟨pins,σ,H,a,C,dx,u,rfl,I,La,Ld,q,F⟩:=h
 rcases F with ⟨tb,F,Lt⟩ | ⟨T,F,LT⟩
 ·exact Ja I F La Ld Lt q
 ·show wpAny _ _ (leaving _ (.ref a)) _ _ s
  unfold leaving
  refine wpAny_bind (u9 (X:=gW (CXE P w fld) P w K mg base N qual scope fa cdv A outer s₀ H₀ E) rfl F ?_)
  refine flight_again none I F LT fun s' I' o1 o2 o3 o4=>?_
  exact ⟨a,C,dx,T,u,H,rfl,I'.os,I'.bare,I'.base,I'.hok,⟨o1,o2,o3,fun T' z=>by cases z;exact o4⟩,La.new,Ld.new,LT.new,La.out,Ld.out,LT.out,q⟩
end
end XC
namespace XC
open PySem PySem.Spec PyProof.Rows L2 My D3
section
variable {X:Cx} {E:XK} {fl:List Fl} {body:List Stmt} {fx:FX} {pos:Pos}
theorem PI.nox {tg iter:Expr} {t:TI} (h:PI X.nox tg iter t):PI X tg iter t:=fun pins s σ H R I hw =>
 wpAny_mono (h pins s σ H R (I.wish _) hw) (fun v s1 q=>wpAny_mono q (fun itv s2 q=>by
  obtain ⟨it,fp,tn,J,H',e,I',T,t0,fo,r⟩:=q
  exact ⟨it,fp,tn,J,H',e,I'.wish _,T,t0,fun b hb=>fo b hb,r⟩) fun _ _ z=>z.elim) fun _ _ z=>z.elim
theorem PG.nox {tg:Expr} {t:TG} (h:PG X.nox tg t):PG X tg t:=fun pins s σ H v u Q I r hw =>
 wpAny_mono (h pins s σ H v u Q (I.wish _) r hw) (fun _ s' q=>by
  obtain ⟨σ',H',I',q⟩:=q
  exact ⟨σ',H',I'.wish _,q⟩) fun _ _ z=>z.elim
theorem Rg {tg iter:Expr} {L:List Nat} {T:List Nat} {fi:FA} {g:FG} (hp:PassesOwn (model X.prog X.w) X.A X.env X.xe) (hc:X.calm=true) (hi:DI X.nox fl L tg iter fi) (hg:DG X.nox (lock L fl) T tg g) (hb:DXs X E (lock L fl) body fx)
 (hs:∀ x,foldedSetIterable iter X.env x=pure x:=by intro _;rfl):DX1 X E fl (.For tg iter body [] pos) (Mg fi g fx):=PS.imp (Hj hp hc (PI.nox hi) (PG.nox hg) hb hs) fun Dn σ H h=>by
 obtain ⟨G,ow,δ,o,R0,hf,q⟩:=h
 obtain ⟨l,e1,e2⟩:=bind1 hf
 refine ⟨G,ow,δ,l,R0,e1,fun J H1 s wk=>?_⟩
 have R1:=R0.grow s
 have RL:=R1.lock L
 refine ⟨fun i m σ' H'=>m=l.length - i∧∃ ow' δ',Rel X.K (lock L fl) (ghL (lock L fl) G ow H1) ow' σ' H' δ'∧nA g fx (l.drop i) δ'=some o,⟨_,rfl,ow,δ,RL,by simpa using e2⟩,?_⟩
 rintro i m σ' H' ⟨rfl,ow',δ',R',hd⟩
 have kept:∀ b o,H1 b=some o→(∀ i,ow i=some b→i ∈ L)→(∀ i,b ∉ ow.n i)→H' b=some o:=fun b o hb hl hn=>R'.s1 b o (by
  rw [jY]
  ·exact hb
  ·rintro (⟨j,e,hj⟩ | ⟨j,e,_⟩)
   ·exact (yj hj).2 (hl j e)
   ·exact hn j e)
 obtain ⟨w1,w2⟩:=wk H' kept i
 by_cases hlt:i < l.length
 ·have hdrop:l.drop i=l[i] :: l.drop (i + 1):=ji hlt
  rw [hdrop,nA] at hd
  obtain ⟨δ1,e3,hd⟩:=bind1 hd
  obtain ⟨o1,e4,hd⟩:=bind1 hd
  obtain ⟨go,yl⟩:=w1 l[i] (bf hlt)
  refine .inr ⟨go,fun σ' H'=>∃ ow' δ',Rel X.K (lock L fl) (ghL (lock L fl) G ow H1) ow' σ' H' δ'∧nA g fx (l.drop (i + 1)) δ'=some o,fun σ2 H2 ⟨ow2,δ2,R2,h2⟩=>⟨l.length - (i + 1),by omega,rfl,ow2,δ2,R2,h2⟩,fun x H3 hy=>?_⟩
  obtain ⟨s3,r3⟩:=yl x H3 hy
  have sub:∀ b,okA ow b∧H1 b ≠ none→okA ow' b:=fun b z=>by
   obtain ⟨z1,z2⟩:=z
   refine ⟨fun j e=>?_,fun j e=>?_⟩
   ·rcases (R'.own j b e).2.1 with ⟨_,hz⟩ | ⟨hz,_⟩
    ·have:(ghL (lock L fl) G ow H1).HF b=H1 b:=jY (by rintro (⟨j',e',_⟩ | ⟨j',e',_⟩);exact z1.1 j' e';exact z1.2 j' e')
     rw [this] at hz
     exact z2 hz
    ·have e':ow' j=ow j:=R'.pin j hz
     rw [e'] at e
     exact z1.1 j e
   ·rcases (R'.nt j b e).2.2 with ⟨_,hz⟩ | w
    ·have:(ghL (lock L fl) G ow H1).HF b=H1 b:=jY (by rintro (⟨j',e',_⟩ | ⟨j',e',_⟩);exact z1.1 j' e';exact z1.2 j' e')
     rw [this] at hz
     exact z2 hz
    ·have e':ow'.n j=ow.n j:=R'.np j w
     rw [e'] at e
     exact z1.2 j e
  refine ⟨_,ow',δ',_,δ1,R'.grow s3,r3.imp sub (fun z=>z),e3,fun σ4 R4 _=>⟨_,ow',δ1,o1,R4,e4,?_⟩⟩
  ·cases o1 with
   | ex c v=>cases hd;exact q
   | o o1 =>
    cases o1 with
    | nx δ2=>exact fun ow2 σ2 H2 R2=>⟨ow2,δ2,R2,hd⟩
    | ct δ2=>exact fun ow2 σ2 H2 R2=>⟨ow2,δ2,R2,hd⟩
    | bk δ2=>cases hd;exact fun ow2 σ2 H2 R2=>q ow2 σ2 H2 (R1.unlock R2)
    | rt d=>cases hd;exact q
    | ex c f v=>cases hd;exact q
 ·have e:l.drop i=[]:=jJ (by omega)
  rw [e,nA] at hd
  cases hd
  exact .inl ⟨w2 (by omega),q ow' σ' H' (R1.unlock R')⟩
end
def cxL (P:Program) (w:World) (K:PySem.W.Frag) (mg:Str→Option Value) (base:Heap) (N:List Str) (qual:Str) (scope:Scope) (fa:Addr) (cdv:Value) (A:Around) (outer:List Env) (s₀:Shared) (H₀:Hp) (E:XK) (fld:Addr→Str):Cx :=
 (gW (CXE P w fld) P w K mg base N qual scope fa cdv A outer s₀ H₀ E).wish (XPX (gW (CXE P w fld) P w K mg base N qual scope fa cdv A outer s₀ H₀ E) fld E)
section
variable {P:Program} {w:World} {K:PySem.W.Frag} {mg:Str→Option Value} {base:Heap} {N:List Str} {qual:Str} {scope:Scope} {fa:Addr} {cdv:Value} {A:Around} {outer:List Env} {s₀:Shared} {H₀:Hp} {E:XK} {fld:Addr→Str}
variable {fl:List Fl} {cn f:Str} {arg:Expr} {fe:FE} {p pos rpos:Pos} {k:Nat}
theorem U0:PassesOwn (model (cxL P w K mg base N qual scope fa cdv A outer s₀ H₀ E fld).prog (cxL P w K mg base N qual scope fa cdv A outer s₀ H₀ E fld).w) (cxL P w K mg base N qual scope fa cdv A outer s₀ H₀ E fld).A (cxL P w K mg base N qual scope fa cdv A outer s₀ H₀ E fld).env (cxL P w K mg base N qual scope fa cdv A outer s₀ H₀ E fld).xe :=
 Je (X:=gW (CXE P w fld) P w K mg base N qual scope fa cdv A outer s₀ H₀ E) rfl rfl
theorem wW (Ex:ExcF K mg fld cn f) (hr:Room (k + 2) (A.deeper (envOfC qual scope s₀.heap.objs.size fa cdv)))
 (ha:DE (cxL P w K mg base N qual scope fa cdv A outer s₀ H₀ E fld).nox fl .P arg fe) (hg:Gl (cxL P w K mg base N qual scope fa cdv A outer s₀ H₀ E fld) cn:=by rfl) (hdb:(cn == ("__debug__" : Str))=false:=by decide)
 (he:starEach [arg] (cxL P w K mg base N qual scope fa cdv A outer s₀ H₀ E fld).env=(false,eval arg (cxL P w K mg base N qual scope fa cdv A outer s₀ H₀ E fld).env) :: starEach [] (cxL P w K mg base N qual scope fa cdv A outer s₀ H₀ E fld).env:=by exact fD rfl)
 (hpl:(backTo pos (starEach [] (cxL P w K mg base N qual scope fa cdv A outer s₀ H₀ E fld).env)).any (·.1)=false:=by exact oZ rfl) :
 DX1 (cxL P w K mg base N qual scope fa cdv A outer s₀ H₀ E fld) E fl (.Raise (some (.Call (.Name cn p) [arg] [] pos)) none rpos) (mC cn fe):=by
 intro pins s σ H Dn J h
 obtain ⟨C,I0,Ex,hC⟩:=Ex.ex
 obtain ⟨G,ow,δ,o,R,hf,q⟩:=h
 obtain ⟨d,e1,e2⟩:=bind1 hf
 cases e2
 refine zU (R:=fun v H1=>Same H H1∧RA K ok1 true H1 v d) Ex hr hg hdb (PE.nox ha) J ⟨G,ow,δ,d,R,e1,fun v H' s r=>⟨s,r⟩⟩ (fun v H1 a dx u s' r rv J' Fl La Ld=>?_) he hpl
 rw [← hC] at Fl
 exact ⟨pins,σ,H1,a,C,dx,u,rfl,J'.unwish,⟨La.new,La.loc,La.cel,La.pin,La.out⟩,⟨Ld.new,Ld.loc,Ld.cel,Ld.pin,Ld.out⟩,q C v u H1 Ex.mgC (R.same0.trans r.1) r.2 rv,.inl ⟨none,Fl,fun T z=>by cases z⟩⟩
end
section
variable {P:Program} {w:World} {K:PySem.W.Frag} {mg:Str→Option Value} {base:Heap} {fld:Addr→Str} {x:Str} {ps N ks:List Str} {st:Stmt} {k n:Nat} {f:FX} {fl:List Fl} {dvs:List V} {sp:Sp}
theorem Rh {fa:Addr} {cdv:Value} {A:Around} {outer:List Env} {s:Shared} {H:Hp} {E:XK} {sts:List Stmt} {t:TS} (h:PSs (cxL P w K mg base N x (aP st) fa cdv A outer s H E fld) sts t):PSs (gW (CXE P w fld) P w K mg base N x (aP st) fa cdv A outer s H E) sts t:=fun pins s1 σ H1 D I hw =>
 wpAny_mono (h pins s1 σ H1 D (I.wish _) hw) (fun fl s' q=>SP.unwish q) fun e s' z=>Rf z
theorem Mq (Dd:Dg K mg x st ps) (S:FnScope N ps (aP st)) (hp:∀ i,i < ps.length→fl[i]? = some .A) (hN:ps.length ≤ N.length)
 (hbody:∀ (fa:Addr) (cdv:Value) (A:Around) (outer:List Env) (s:Shared) (H:Hp) (E:XK),Room k (A.deeper (envOfC x (aP st) s.heap.objs.size fa cdv))→DXs (cxL P w K mg base N x (aP st) fa cdv A outer s H E fld) E fl (dI st) f) :
 HasX P w K mg base fld (k + 1) x ps (spX K mg (fnX ps.length (N.length - ps.length) f)) [] :=
 yt Dd S hp hN fun fa cdv A outer s H E hr=>Rh (hbody fa cdv A outer s H E hr)
end
end XC
namespace XC
open PySem PySem.Spec PyProof.Rows L2 My D3
section
variable {P:Program} {w:World} {K:PySem.W.Frag} {mg:Str→Option Value} {base:Heap} {N:List Str} {qual:Str} {scope:Scope} {fa:Addr} {cdv:Value} {A:Around} {outer:List Env} {s₀:Shared} {H₀:Hp} {E:XK} {fld:Addr→Str}
variable {fl:List Fl} {n:Nat} {x:Str} {ps:List Str} {F:List D→Option Or} {dvs:List V} {dd:List D} {e:Expr} {es:List Expr} {fs:FA} {p pos pos2:Pos}
end
end XC
namespace XC
open PySem PySem.Spec PyProof.Rows L2 My D3
section
variable {X:Cx} {pins:List (Addr × Obj)} {σ:L2.St} {H:Hp} {s:Shared} {fld:Addr→Str} {k:Nat} {f:Addr} {fd:FuncData} {ps:List Str} {sp:Sp} {dvs:List V} {ds:List Value} {EX:XK}
variable {x y:Str} {p np pos pos2:Pos} {e:Expr} {es:List Expr} {ta:TA} {i:Nat}
end
end XC
namespace XC
open PySem PySem.Spec PyProof.Rows L2 My D3
section
variable {X:Cx} {fl:List Fl} {fld:Addr→Str} {n i j:Nat} {x y ic en:Str} {ps cs:List Str} {F:List D→Option Or} {dvs:List V} {dd:List D} {e:Expr} {es:List Expr} {fa:FA} {p yp pos pos2 np hpos tpos:Pos} {b0:Stmt} {suite:List Stmt} {fS:Str→D→DS→Option D}
end
end XC
namespace XC
open PySem PySem.Spec PyProof.Rows L2 My D3
structure RoomQ (k:Nat) (A:Around):Prop where
 dp:A.depth + 3 * k + 5 < recursionLimit
 un:A.units + 16 * k + 200 < cLine
structure FnOkQ (P:Program) (w:World) (K:PySem.W.Frag) (mg:Str→Option Value) (base:Heap) (k:Nat) (f:Addr) (fd:FuncData) (ps:List Str) (sp:Sp):Prop where
 len:∀ vs H Q E,sp vs H Q E→vs.length=ps.length
 run:∀ (A:Around) (outer:List Env) (s:Shared) (H:Hp) (args:Args) (us:List Value) (vs:List V) (Q:VK) (E:XK),RoomQ k A→Env0 P w K mg base A outer s H→BindsTo s fd args (ps.zip us)→Vals vs us→sp vs H Q E →
  codeAny (model P w) A (.call (.ref f) args) (CR CX0 outer P w H s Q E) s
section
variable {X:Cx} {pins:List (Addr × Obj)} {σ:L2.St} {H:Hp} {s:Shared} {k:Nat} {f:Addr} {fd:FuncData} {ps:List Str} {sp:Sp}
end
end XC
namespace XC
open PySem PySem.Spec PyProof.Rows L2 My D3
structure HasQ (P:Program) (w:World) (K:PySem.W.Frag) (mg:Str→Option Value) (base:Heap) (n:Nat) (x:Str) (ps:List Str) (sp:Sp):Prop where
 ex:∃ (f:Addr) (fd:FuncData),FnOkQ P w K mg base n f fd ps sp∧Binds K fd ps []∧PySem.W.keepIn K (.ref f)=true∧mg x=some (.ref f)
section
variable {P:Program} {w:World} {K:PySem.W.Frag} {mg:Str→Option Value} {base:Heap} {x:Str} {ps N:List Str} {st:Stmt} {k n:Nat} {fs:FS} {fl:List Fl}
end
section
variable {X:Cx} {fl:List Fl} {e:Expr} {es:List Expr} {t:TA} {fa:FA} {pos p:Pos} {x:Str} {n:Nat} {ps:List Str} {sp:Sp} {F:List D→Option D}
end
end XC
namespace XC
open PySem PySem.Spec PyProof.Rows L2 My D3
structure ExA (K:PySem.W.Frag) (C:Addr):Prop where
 ga:PySem.W.findIn K (.ref C) "__getattribute__" = some (some (.builtin "BaseException.__getattribute__"))
 gh:PySem.W.findIn K (.ref C) "__getattr__" = some none
 hb:PySem.W.mroIn K C (.type "BaseException")=some true
section
variable {prog:Program} {w:World} {A:Around} {E:Value→Shared→Prop} {s:Shared} {K:PySem.W.Frag} {x C:Addr} {ox:Obj} {od:Option Obj} {name:Str} {v:Value}
theorem FQ {M:Model} {nameV:Value} {Q:Unit→Shared→Prop} (N:ExA K C) (X:K.In s.heap) (I:PySem.W.InstAt s.heap x ox C od) (hq:Q () s):wpAny M A (checkBuiltinCall "BaseException.__getattribute__" ⟨[.ref x,nameV],[]⟩) Q E s:=by
 have hk:builtinKind "BaseException.__getattribute__" = some .slot:=by decide +kernel
 have hsplit:splitId "BaseException.__getattribute__" = some ("BaseException", "__getattribute__"):=by decide +kernel
 have ha:=PySem.F.args_bexc_ga (.ref x) nameV
 obtain ⟨hh,g,d,t,os⟩:=s
 have L0:=I.type (M:=M)
 have L1:=PySem.W.looks_mroIn (M:=M) X N.hb
 simp only [checkBuiltinCall,hk,hsplit]
 refine wpAny_bind ?_
 unfold isInstance
 repeat (first | (with_reducible refine L0.at ?_) | (with_reducible refine L1.at ?_) | wp_step)
 exact hq
theorem Mr {tk:Tok} {Q:Fin→Shared→Prop} (X:K.In s.heap) (I:PySem.W.InstAt s.heap x ox C od) (hf:PySem.W.findObj K C od name=some (.value v)) (hq:Q (.done (.ret v)) s) :
 wpAny (model prog w) A (Builtin.«object.__getattribute__» ⟨[.ref x,.str name tk],[]⟩) Q E s:=by
 obtain ⟨hh,g,d,t,os⟩:=s
 have L0:=I.type (M:=model prog w)
 have L1:=PySem.W.looks_find (M:=model prog w) X I hf
 unfold Builtin.«object.__getattribute__»
 refine wpAny_bind ?_
 refine wpAny_pure ?_
 refine wpAny_bind (wpAny_pure (wpAny_bind (L0.at (wpAny_bind (L1.at ?_)))))
 exact wpAny_pure hq
theorem Ms {tk:Tok} {Q:Fin→Shared→Prop} (X:K.In s.heap) (I:PySem.W.InstAt s.heap x ox C od) (hm:PySem.W.mroIn K C (.type "object")=some true)
 (hf:PySem.W.findObj K C od name=some (.bind (.builtin "getset_descriptor.__get__") (.builtin "object.__class__"))) (hq:Q (.done (.ret (.ref C))) s) :
 wpAny (model prog w) A (Builtin.«object.__getattribute__» ⟨[.ref x,.str name tk],[]⟩) Q E s:=by
 obtain ⟨hh,g,d,t,os⟩:=s
 have L0:=I.type (M:=model prog w)
 have L1:=PySem.W.looks_find (M:=model prog w) X I hf
 unfold Builtin.«object.__getattribute__»
 refine wpAny_bind ?_
 refine wpAny_pure ?_
 refine wpAny_bind (wpAny_pure (wpAny_bind (L0.at (wpAny_bind (L1.at ?_)))))
 show wpAny _ _ (holding [.builtin "object.__class__"] (PySem.call (.builtin "getset_descriptor.__get__") [.builtin "object.__class__", .ref x,.ref C]) >>= ret) _ _ _
 refine wpAny_bind (wpAny_holding (wpAny_call (PySem.W.class_get (s:=⟨hh,g,d,t,os⟩) (ox:=ox) (od:=od) X I hm ?_)))
 exact wpAny_pure hq
theorem Jf {nameV:Value} {fill expr:Bool} {Q:Value→Shared→Prop} (N:ExA K C) (X:K.In s.heap) (I:PySem.W.InstAt s.heap x ox C od) (hh:PySem.W.handedIn v=true)
 (he:∀ {A:Around} {E:Value→Shared→Prop} {Q:Fin→Shared→Prop},Q (.done (.ret v)) s→wpAny (model prog w) A (Builtin.«object.__getattribute__» ⟨[.ref x,nameV],[]⟩) Q E s) (hq:Q v s) :
 wpAny (model prog w) A (getAttrBy (.ref x) nameV fill expr) Q E s:=by
 obtain ⟨h0,g,d,t,os⟩:=s
 have L0:=I.type (M:=model prog w)
 have L1:=PySem.W.looks_findIn (M:=model prog w) X N.ga
 have L2:=PySem.W.looks_findIn (M:=model prog w) X N.gh
 have f3:=PySem.F.attr_ValueError.ga.bind (.ref x)
 have hx0:(expr && onTheHeap (Value.builtin "BaseException.__getattribute__"))=false:=by cases expr <;> rfl
 have hx2:(Value.builtin "BaseException.__getattribute__" == Value.builtin "object.__getattribute__")=false:=by decide +kernel
 have hx1:(onTheHeap (Value.ref C) && Value.builtin "BaseException.__getattribute__" == Value.builtin "object.__getattribute__")=false:=by rw [hx2];rfl
 repeat (any_goals (first | assumption | (with_reducible refine L0.at ?_) | (with_reducible refine L1.at ?_) | (with_reducible refine L2.at ?_) | wp_step))
 refine codeAny_call_builtin PySem.F.attr_ValueError.ga.plain PySem.F.entry_bexc_ga (FQ (s:=⟨h0,g,d,t,os⟩) N X I (he ?_))
 repeat (any_goals (first | assumption | (with_reducible exact PySem.W.handed_on hh hq) | wp_step))
theorem Jg {expr:Bool} {Q:Value→Shared→Prop} (N:ExA K C) (X:K.In s.heap) (I:PySem.W.InstAt s.heap x ox C od) (hf:PySem.W.findObj K C od name=some (.value v)) (hh:PySem.W.handedIn v=true) (hq:Q v { s with toks:=s.toks + 1 }) :
 wpAny (model prog w) A (getAttr (.ref x) name expr) Q E s:=by
 obtain ⟨h0,g,d,t,os⟩:=s
 unfold getAttr
 refine wpAny_bind (wpAny_mkText ?_)
 exact Jf (s:=⟨h0,g,d,t + 1,os⟩) N X I hh (fun z=>Mr (s:=⟨h0,g,d,t + 1,os⟩) X I hf z) hq
theorem FW {Q:Option Value→Shared→Prop} (N:ExA K C) (X:K.In s.heap) (I:PySem.W.InstAt s.heap x ox C od) (hm:PySem.W.mroIn K C (.type "object")=some true)
 (hf:PySem.W.findObj K C od "__class__" = some (.bind (.builtin "getset_descriptor.__get__") (.builtin "object.__class__"))) (hq:Q (some (.ref C)) { s with toks:=s.toks + 1 }) :
 wpAny (model prog w) A (getAttr? (.ref x) "__class__") Q E s:=by
 obtain ⟨h0,g,d,t,os⟩:=s
 unfold getAttr? getAttrBy?
 refine wpAny_bind (wpAny_mkText (wpAny_bind (wpAny_attempt ?_)))
 refine Jf (s:=⟨h0,g,d,t + 1,os⟩) N X I rfl (fun z=>Ms (s:=⟨h0,g,d,t + 1,os⟩) X I hm hf z) ?_
 exact wpAny_pure hq
theorem Jh {x D:Addr} {ox od:Obj} (N:ExA K D) (hdct:PySem.W.hasDictIn K D=true) (ha:PySem.W.findIn K (.ref D) "__class__" = some (some (.builtin "object.__class__")))
 (hn:PySem.W.specialIn K (.builtin "object.__class__") "__get__" = some (some (.builtin "getset_descriptor.__get__"))) (htk:PySem.W.takesIn K (.builtin "object.__class__")=some true) (hm:PySem.W.mroIn K D (.type "object")=some true) :
 PySem.W.KitX K (.ref x) (.ref D) (fun h=>PySem.W.InstAt h x ox D (some od)) where
 ty:=fun _ _ _ I=>I.type
 it:=fun _ _ X _=>by
  obtain ⟨cdD,hcD,_⟩:=PySem.W.any_some hdct
  unfold PySem.W.clsIn at hcD
  split at hcD
  ·rename_i c' d' cd' sl' ho
   intro A' Q' E' s' k q
   unfold isType loadHead
   exact wpAny_bind (wpAny_loadPart (k _ _ (X _ _ ho)) (wpAny_pure q))
  ·cases hcD
 ne:=fun h tp dd its n sl X htp=>by
  obtain ⟨cdD,hcD,_⟩:=PySem.W.any_some hdct
  refine qY.mpr fun q=>?_
  have e:D=tp:=Value.ref.inj (beq_iff_eq.mp q)
  subst e
  unfold PySem.W.clsIn at hcD
  split at hcD
  ·rename_i c' d' cd' sl' ho
   have z:=(X _ _ ho).symm.trans htp
   cases z
  ·cases hcD
 ca:=fun X I k=>FW N X I hm (PySem.W.findObj_data (by obtain ⟨cd,hc,_⟩:=PySem.W.any_some hdct;rw [hc];rfl) ha hn htk) k
end
end XC
namespace XC
open PySem PySem.Spec PyProof.Rows L2 My D3
structure AttE (K:PySem.W.Frag) (C:Addr) (f:Str):Prop where
 ea:ExA K C
 hd:PySem.W.hasDictIn K C=true
 no:PySem.W.findIn K (.ref C) f=some none
section
variable {X:Cx} {a C D dx:Addr} {oa od:Obj} {u:Value} {v:V} {f n:Str} {i:Nat} {p1 pos:Pos}
theorem U3 (N:AttE X.K C f) (hoa:oa.cls = .ref C) (hod:oa.dict=some dx) (hnc:PySem.W.notCls oa=true) (hdx:∀ h:Heap,h.get? dx=some od→h.Ns1 dx (fun z=>if z=f then some u else none)) (rv:RelV v u)
 (hi:X.N[i]? = some n) (hv:Vis X.env.scope n) (hdn:(n == ("__debug__" : Str))=false:=by decide) (hcn:(n == ("__classdict__" : Str))=false:=by decide) (hb:attributeBase (.Name n p1) f X.env (eval (.Name n p1) X.env)=eval (.Name n p1) X.env:=by rfl) :
 PE (dN X a oa dx od) (.Attribute (.Name n p1) f pos) (fun σ H Q=>σ[i]? = some (some (.ref a))∧Q v H):=by
 intro pins s σ H Q I h
 refine KR hb (thn ((lY (X:=dN X a oa dx od) hi hv hdn hcn) pins s σ H (fun x H1=>x = .ref a∧Q v H1) I ⟨_,h.1,rfl,h.2⟩) fun w s1 ⟨x,H1,I1,rx,ex,q⟩=>?_)
 subst ex
 cases rx
 have ha:=(I1.pin (a,oa) (bF _ (aX _ aG))).1
 have hd:=(I1.pin (dx,od) (bF _ (aX _ (aF _ aG)))).1
 obtain ⟨od',e1,e2⟩:=wC (hdx _ hd)
 rw [hd] at e1
 cases e1
 refine Jg (ox:=oa) (od:=some od) N.ea I1.kIn ⟨ha,hoa,hnc,?_⟩ (PySem.W.findObj_own N.hd N.no rfl (by rw [e2,if_pos rfl])) (EY rv) ⟨v,H1,I1.tok _,rv,q⟩
 rw [hod]
 exact hd
end
end XC
namespace XC
open PySem PySem.Spec PyProof.Rows L2 My D3
structure KitE (K:PySem.W.Frag) (C:Addr):Prop where
 ea:ExA K C
 hd:PySem.W.hasDictIn K C=true
 fd:PySem.W.findIn K (.ref C) "__class__" = some (some (.builtin "object.__class__"))
 sp:PySem.W.specialIn K (.builtin "object.__class__") "__get__" = some (some (.builtin "getset_descriptor.__get__"))
 tk:PySem.W.takesIn K (.builtin "object.__class__")=some true
 mr:PySem.W.mroIn K C (.type "object")=some true
section
variable {X:Cx} {a C D dx:Addr} {oa od:Obj} {b:Bool}
theorem Ri {pins:List (Addr × Obj)} {σ:L2.St} {H:Hp} {s:Shared} (I:Inv (dN X a oa dx od) pins σ H s) (hoa:oa.cls = .ref C) (hod:oa.dict=some dx) (hnc:PySem.W.notCls oa=true):PySem.W.InstAt s.heap a oa C (some od):=by
 have ha:=(I.pin (a,oa) (bF _ (aX _ aG))).1
 have hd:=(I.pin (dx,od) (bF _ (aX _ (aF _ aG)))).1
 refine ⟨ha,hoa,hnc,?_⟩
 rw [hod]
 exact hd
theorem Ji (N:KitE X.K C) (hoa:oa.cls = .ref C) (hod:oa.dict=some dx) (hnc:PySem.W.notCls oa=true):mL (dN X a oa dx od) (.builtin "isinstance") (fun xs H Q=>∃ (D:Addr),xs=[.ref a,.ref D]∧PySem.W.kitOne X.K (.ref C) (.ref D)=some b∧Q (.bl b) H):=by
 intro pins s σ H xs us Q I r h
 obtain ⟨D,rfl,e,q⟩:=h
 obtain ⟨u1,u2,rfl,r1,r2⟩:∃ u1 u2,us=[u1,u2]∧RelV (.ref a) u1∧RelV (.ref D) u2:=by
  cases r with
  | cons r1 r=>cases r with
   | cons r2 r=>cases r;exact ⟨_,_,rfl,r1,r2⟩
 cases r1;cases r2
 exact PySem.W.kia_one (Jh (ox:=oa) (od:=od) N.ea N.hd N.fd N.sp N.tk N.mr) I.kIn (Ri I hoa hod hnc) e (fun z=>nomatch z) fun tk=>⟨.bl b,H,I.tok _,rfl,q⟩
end
end XC
namespace XC
open PySem PySem.Spec PyProof.Rows L2 My D3
theorem yu {δ:DS} {i j:Nat} {x:U} (h:(δ.set i none)[j]? = some (some x)):j ≠ i∧δ[j]? = some (some x):=by
 by_cases e:j=i
 ·subst e
  by_cases l:j < δ.length
  ·rw [cj l] at h;cases h
  ·rw [bD (by rw [bU];omega)] at h;cases h
 ·rw [aV (Ne.symm e)] at h
  exact ⟨e,h⟩
theorem Rel.forget {K:PySem.W.Frag} {fl:List Fl} {G:Gh} {ow:Ow} {σ:L2.St} {H:Hp} {δ:DS} {i:Nat} {x:Option V} (R:Rel K fl G ow σ H δ) (hfl:fl[i]? = some .A):Rel K fl G ow (σ.set i x) H (δ.set i none):=by
 have no:∀ a,ow i ≠ some a:=fun a z=>by
  obtain ⟨_,hz,_⟩:=R.own i a z
  rw [hfl] at hz
  rcases hz with ⟨z,_⟩ | ⟨z,_⟩ <;> cases z
 refine ⟨R.s0,R.s1,by rw [bU,bU];exact R.len,fun j a h=>?_,R.inj,R.pin,fun j d' h1 hn h2=>?_,fun j d' h1 hn h2 h3=>?_,R.nt,R.nd,R.ns,R.np,fun j d' hn h1=>?_⟩
 ·have hj:j ≠ i:=fun z=>no a (z ▸ h)
  obtain ⟨h0,hf,xs,ds,h1,h2,h3,h4⟩:=R.own j a h
  exact ⟨h0,hf,xs,ds,by rw [aV (Ne.symm hj)];exact h1,h2,h3,by rw [aV (Ne.symm hj)];exact h4⟩
 ·obtain ⟨hj,e⟩:=yu h1
  obtain ⟨v',h3,h4⟩:=R.dat j d' e hn h2
  exact ⟨v',by rw [aV (Ne.symm hj)];exact h3,h4⟩
 ·obtain ⟨hj,e⟩:=yu h1
  exact R.oo j d' e hn h2 h3
 ·obtain ⟨hj,e⟩:=yu h1
  obtain ⟨v',h3,h4⟩:=R.nr j d' hn e
  exact ⟨v',by rw [aV (Ne.symm hj)];exact h3,h4⟩
def tEt (i:Nat) (a:Addr) (b:Bool):TE:=fun σ H Q=>σ[i]? = some (some (.ref a))∧∀ H',Same H H'→Q (.bl b) H'
section
variable {X S:Cx} {a C I0 D dx:Addr} {oa od:Obj} {u:Value} {v:V} {f n cn:Str} {i j:Nat} {p p1 p2 pos:Pos} {cond a1 b1:Expr} {rest es:List Expr} {b:Bool} {k:Nat}
theorem Rj (h:IsE S i a cond):PE S cond (tEt i a true):=PE.imp h fun σ H Q z=>⟨z.1,z.2 H (Same.refl H)⟩
end
end XC
namespace XC
open PySem PySem.Spec PyProof.Rows L2 My D3
structure SuiG (K:PySem.W.Frag) (mg:Str→Option Value) (fld:Addr→Str) (cn f ic n1 n2 n3:Str):Prop where
 ex:∃ C I D1 D2 D3,Exc K mg cn f C I∧fld C=f∧mg ic=some (.ref I)∧KitE K C∧AttE K C f∧mg n1=some (.ref D1)∧mg n2=some (.ref D2)∧mg n3=some (.ref D3)∧PySem.W.kitAny K (.ref C) [.ref D1,.ref D2,.ref D3]=some false
theorem Room.q {k:Nat} {A:Around} {o:Option Value} (r:Room k A):RoomQ k (A.mark o):=⟨r.dp,r.un⟩
section
variable {X:Cx} {fl:List Fl} {fld:Addr→Str} {c f ic n1 n2 n3 n y g s0 s1:Str} {gp:List Str} {i j k:Nat} {W:List D→Option D} {rowE:Expr} {fr:FE}
variable {yp ap spos a1 a2 a3 a4 a5 a6 a7 a8 a9 b1 b2 b3 b4 b5 b6 b7 q0 q1 q2 q3 q4 q5 q6 q7 q8 q9 q10 q11 q12 q13 q14 rpos:Pos} {x1 j0 j1:Nat}
end
end XC
namespace XC
open PySem PySem.Spec PyProof.Rows L2 My D3
def tXE (K:PySem.W.Frag) (mg:Str→Option Value) (fl:List Fl) (f:FX):Ends→XK→L2.St→Hp→Prop:=fun Dn EX σ H=>∃ G ow δ o,Rel K fl G ow σ H δ∧f δ=some o∧match o with
 | .o (.nx δ')=>∀ ow' σ' H',Rel K fl G ow' σ' H' δ'→Dn.nx σ' H'
 | .ex c d=>∀ (C:Addr) (v:V) (u:Value) (H':Hp),mg c=some (.ref C)→Same H H'→RA K ok1 true H' v d→RelV v u→EX u (some C) H'
 | _=>False
abbrev DXE (X:Cx) (fld:Addr→Str) (fl:List Fl) (st:Stmt) (f:FX):Prop:=PSE fld X st (tXE X.K X.mg fl f)
section
variable {X:Cx} {fl:List Fl} {fld:Addr→Str} {n i j:Nat} {x y ic en:Str} {ps cs:List Str} {F:List D→Option Or} {dvs:List V} {dd:List D} {e c:Expr} {es:List Expr} {fa:FA} {ft:FT} {f f1 f2:FX} {p yp pos pos2 np hpos tpos:Pos} {b0 st s1 s2:Stmt} {suite:List Stmt} {fS:Str→D→DS→Option D}
theorem zV (h:HasX X.prog X.w X.K X.mg X.base fld n x ps (spX X.K X.mg F) dvs) (hdd:∀ H,RAs X.K ok1 true H dvs dd) (hr:Room n X.A) (ha:DB X fl .P (e :: es) fa) (hx:X=X.nox:=by rfl) (hg:Gl X x:=by rfl) (hdb:(x == ("__debug__" : Str))=false:=by decide)
 (he:starEach (e :: es) X.env=(false,eval e X.env) :: starEach es X.env:=by exact fD rfl) (hpl:(backTo pos (starEach es X.env)).any (·.1)=false:=by exact oZ rfl) (hsw:swapsWith (.Call (.Name x p) (e :: es) [] pos) none pos2.line X.env=pure false:=by rfl) :
 DXE X fld fl (.Expr (.Call (.Name x p) (e :: es) [] pos) pos2) (jM F dd fa):=by
 intro pins s σ H Dn EX J h0
 obtain ⟨G,ow,δ,o,R,hf,q⟩:=h0
 obtain ⟨ds,e1,e2⟩:=bind1 hf
 obtain ⟨f,fd,dv,Fo,b,vv,kp,m⟩:=h.ex
 have ha':DB X.nox fl .P (e :: es) fa:=by rw [← hx];exact ha
 refine uY (X:=X) (dvs:=dvs) Fo hr hg m kp b vv ha' hdb he hpl hsw pins s σ H Dn EX J ⟨G,ow,δ,ds,R,e1,fun vs H1 sm r=>?_⟩
 split at e2
 ·next d eF =>
  cases e2
  exact ⟨ds++dd,_,⟨R.tb.same sm,r.append (hdd H1)⟩,eF,fun v H' sm' rv=>q ow _ H' (R.grow (sm.trans sm'))⟩
 ·next c d eF =>
  cases e2
  exact ⟨ds++dd,_,⟨R.tb.same sm,r.append (hdd H1)⟩,eF,fun C' v u H' mc sm' r' rv=>q C' v u H' mc (sm.trans sm') r' rv⟩
 ·cases e2
theorem Rm (hc:DT X fl c ft) (h1:DXE X fld fl s1 f1) (h2:DXE X fld fl s2 f2) (hx:X=X.nox:=by rfl):DXE X fld fl (.If c [s1] [s2] pos) (xIf ft f1 f2):=by
 intro pins s σ H Dn EX J h0
 obtain ⟨G,ow,δ,o,R,hf,q⟩:=h0
 obtain ⟨t,e1,e2⟩:=bind1 hf
 have hc':DT X.nox fl c ft:=by rw [← hx];exact hc
 have one:∀ (s0:Stmt) (f0:FX),DXE X fld fl s0 f0→f0 δ=some o→∀ (H1:Hp) (s':Shared),Same H H1→Inv X pins σ H1 s'→wpAny (model X.prog X.w) X.A (execs [s0] X.env) (SP X pins Dn) (XP fld X pins σ EX) s':=fun s0 f0 hs e0 H1 s' sm J1=>by
  refine wpAny_execs_cons (wpAny_mono (hs pins s' σ H1 { nx:=Dn.nx,rt:=fun _ _=>False,bk:=fun _ _=>False,ct:=fun _ _=>False } EX J1 ⟨G,ow,δ,o,R.grow sm,e0,?_⟩) (fun fl' s1 z=>?_) fun e s1 z=>z)
  ·cases o with
   | ex cc d=>exact fun C' v u H' mc sm' r' rv=>q C' v u H' mc (sm.trans sm') r' rv
   | o o1=>cases o1 with
    | nx δ'=>exact q
    | rt d=>exact q
    | bk d=>exact q
    | ct d=>exact q
    | ex _ _ _=>exact q
  ·cases fl' with
   | next=>exact wpAny_execs_nil z
   | ret v=>obtain ⟨_,_,_,_,_,z⟩:=z;exact z.elim
   | brk=>obtain ⟨_,_,_,z⟩:=z;exact z.elim
   | cont=>obtain ⟨_,_,_,z⟩:=z;exact z.elim
 refine wpAny_If (wpAny_mono (hc' pins s σ H (fun b H1=>b=t∧Same H H1) (J.wish _) ⟨G,ow,δ,t,R,e1,fun H' s=>⟨rfl,s⟩⟩) (fun b s1 z=>?_) fun _ _ z=>z.elim)
 obtain ⟨H1,J1,rfl,sm⟩:=z
 have J1:Inv X pins σ H1 s1:=J1.wish _
 cases b with
 | true=>rw [if_pos rfl] at e2;exact one _ _ h1 e2 H1 s1 sm J1
 | false=>rw [if_neg (by decide)] at e2;exact one _ _ h2 e2 H1 s1 sm J1
end
section
variable {P:Program} {w:World} {K:PySem.W.Frag} {mg:Str→Option Value} {base:Heap} {fld:Addr→Str} {x:Str} {ps N ks:List Str} {st:Stmt} {k n:Nat} {f:FX} {fl:List Fl} {dvs:List V}
end
end XC
namespace XC
open PySem PySem.Spec PyProof.Rows L2 My D3
structure SuiH (K:PySem.W.Frag) (mg:Str→Option Value) (fld:Addr→Str) (cn f ic n1 n2:Str):Prop where
 ex:∃ C I D1 D2,Exc K mg cn f C I∧fld C=f∧mg ic=some (.ref I)∧KitE K C∧AttE K C f∧mg n1=some (.ref D1)∧mg n2=some (.ref D2)∧PySem.W.kitAny K (.ref C) [.ref D1,.ref D2]=some false∧PySem.W.kitOne K (.ref C) (.ref I)=some true
structure SuiA (K:PySem.W.Frag) (mg:Str→Option Value) (fld:Addr→Str) (cn f ic:Str):Prop where
 ex:∃ C I,Exc K mg cn f C I∧fld C=f∧mg ic=some (.ref I)∧AttE K C f
section
variable {X:Cx} {a C D dx:Addr} {oa od:Obj} {ic n:Str} {i:Nat} {p p1 p2 pos:Pos} {b:Bool}
theorem Rn (N:KitE X.K C) (hk:PySem.W.kitOne X.K (.ref C) (.ref D)=some b) (hoa:oa.cls = .ref C) (hod:oa.dict=some dx) (hnc:PySem.W.notCls oa=true) (hic:X.mg ic=some (.ref D)) (hgi:Gl X "isinstance") (hmi:X.mg "isinstance" = none) (hg:Gl X ic) (hi:X.N[i]? = some n) (hv:Vis X.env.scope n)
 (hdb:(ic == ("__debug__" : Str))=false:=by decide) (hdn:(n == ("__debug__" : Str))=false:=by decide) (hcn:(n == ("__classdict__" : Str))=false:=by decide) :
 PE (dN X a oa dx od) (.Call (.Name "isinstance" p) [.Name n p1,.Name ic p2] [] pos) (tEt i a b) :=
 PE.imp (oU (X:=dN X a oa dx od) (Ji (b:=b) N hoa hod hnc) hgi hmi boot_isinstance (iu (lY (X:=dN X a oa dx od) hi hv hdn hcn) (iu (Di (X:=dN X a oa dx od) (v:=.ref D) hg hic rfl hdb) lZ (by exact fD rfl)) (by exact fD rfl)) (by decide) (by decide) (by exact fD rfl) (by exact oZ rfl)) fun σ H Q h=>by
  exact ⟨_,h.1,D,rfl,hk,h.2 H (Same.refl H)⟩
end
section
variable {X:Cx} {fl:List Fl} {fld:Addr→Str} {c f ic n1 n2 n g s0 s1:Str} {gp:List Str} {i k:Nat} {W:List D→Option D}
variable {ap spos a1 a2 a3 a4 a5 b1 b2 b3 b4 b6 b7 q0 q1 q2 q3 q4 q5 q6 q7 q8 q9 q10 q11 rpos rp2:Pos} {x1 x2 x3 j0 j1 j2:Nat}
end
end XC
namespace XC
open PySem PySem.Spec PyProof.Rows L2 My D3
section
variable {P:Program} {w:World} {K:PySem.W.Frag} {mg:Str→Option Value} {base:Heap} {N:List Str} {qual:Str} {scope:Scope} {fa:Addr} {cdv:Value} {A:Around} {outer:List Env} {s₀:Shared} {H₀:Hp} {E:XK} {fld:Addr→Str}
variable {fl:List Fl} {n:Nat} {x:Str} {ps:List Str} {F:List D→Option Or} {dvs:List V} {dd:List D} {e:Expr} {es:List Expr} {fs:FA} {p pos pos2:Pos}
theorem o_ (h:HasX P w K mg base fld n x ps (spX K mg F) dvs) (hdd:∀ H,RAs K ok1 true H dvs dd) (hr:Room n (A.deeper (envOfC qual scope s₀.heap.objs.size fa cdv))) (ha:DB (gW (CXE P w fld) P w K mg base N qual scope fa cdv A outer s₀ H₀ E).nox fl .P (e :: es) fs)
 (hg:Gl (gW (CXE P w fld) P w K mg base N qual scope fa cdv A outer s₀ H₀ E) x:=by rfl) (hdb:(x == ("__debug__" : Str))=false:=by decide)
 (he:starEach (e :: es) (gW (CXE P w fld) P w K mg base N qual scope fa cdv A outer s₀ H₀ E).env=(false,eval e (gW (CXE P w fld) P w K mg base N qual scope fa cdv A outer s₀ H₀ E).env) :: starEach es (gW (CXE P w fld) P w K mg base N qual scope fa cdv A outer s₀ H₀ E).env:=by exact fD rfl) (hpl:(backTo pos (starEach es (gW (CXE P w fld) P w K mg base N qual scope fa cdv A outer s₀ H₀ E).env)).any (·.1)=false:=by exact oZ rfl) (hsw:swapsWith (.Call (.Name x p) (e :: es) [] pos) none pos2.line (gW (CXE P w fld) P w K mg base N qual scope fa cdv A outer s₀ H₀ E).env=pure false:=by rfl) :
 DX1 (gW (CXE P w fld) P w K mg base N qual scope fa cdv A outer s₀ H₀ E) E fl (.Expr (.Call (.Name x p) (e :: es) [] pos) pos2) (jM F dd fs):=by
 intro pins s σ H Dn J h0
 obtain ⟨G,ow,δ,o,R,hf,q⟩:=h0
 obtain ⟨ds,e1,e2⟩:=bind1 hf
 obtain ⟨f,fd,dv,Fo,b,vv,kp,m⟩:=h.ex
 split at e2
 ·next d eF =>
  cases e2
  refine wpAny_mono (uY (X:=(gW (CXE P w fld) P w K mg base N qual scope fa cdv A outer s₀ H₀ E)) (dvs:=dvs) Fo hr hg m kp b vv ha hdb he hpl hsw pins s σ H { nx:=fun σ' H2=>σ'=σ∧Same H H2,rt:=fun _ _=>False,bk:=fun _ _=>False,ct:=fun _ _=>False } (fun _ _ _=>False) J ⟨G,ow,δ,ds,R,e1,fun vs H1 sm r=>⟨ds++dd,_,⟨R.tb.same sm,r.append (hdd H1)⟩,eF,fun v H' sm' _=>⟨rfl,sm.trans sm'⟩⟩⟩) (fun fl' s1 z=>?_) fun e s1 z=>?_
  ·cases fl' with
   | next =>
    obtain ⟨σ',H',I',rfl,sm⟩:=z
    exact ⟨_,H',I',q ow _ H' (R.grow sm)⟩
   | ret v=>obtain ⟨_,_,_,_,_,z⟩:=z;exact z.elim
   | brk=>obtain ⟨_,_,_,z⟩:=z;exact z.elim
   | cont=>obtain ⟨_,_,_,z⟩:=z;exact z.elim
  ·obtain ⟨_,_,_,_,_,_,_,_,_,_,_,_,z⟩:=z
   exact z.elim
 ·next c d eF =>
  cases e2
  refine wpAny_mono (uY (X:=(gW (CXE P w fld) P w K mg base N qual scope fa cdv A outer s₀ H₀ E)) (dvs:=dvs) Fo hr hg m kp b vv ha hdb he hpl hsw pins s σ H { nx:=fun σ' H2=>False,rt:=fun _ _=>False,bk:=fun _ _=>False,ct:=fun _ _=>False } E J ⟨G,ow,δ,ds,R,e1,fun vs H1 sm r=>⟨ds++dd,_,⟨R.tb.same sm,r.append (hdd H1)⟩,eF,fun C' v u H' mc sm' r' rv=>q C' v u H' mc (R.same0.trans (sm.trans sm')) r' rv⟩⟩) (fun fl' s1 z=>?_) fun e s1 z=>?_
  ·cases fl' with
   | next=>obtain ⟨_,_,_,z⟩:=z;exact z.elim
   | ret v=>obtain ⟨_,_,_,_,_,z⟩:=z;exact z.elim
   | brk=>obtain ⟨_,_,_,z⟩:=z;exact z.elim
   | cont=>obtain ⟨_,_,_,z⟩:=z;exact z.elim
  ·obtain ⟨a,C',dx,T,u,H',rfl,I',Fl,La,Ld,LT,z⟩:=z
   exact Ja I' Fl La Ld (fun T' y=>by cases y;exact LT) z
 ·cases e2
end
end XC
namespace D3
open PySem
def wX (i:Nat) (f:FX) (cs:List Str) (fS:Str→D→FS):FS:=fun δ=>(f δ).bind fun o=>match o with
 | .o (.nx δ')=>some (.nx δ')
 | .ex c d=>if c ∈ cs∧flat d=true then (fS c d (δ.set i none)).bind fun o=>match o with
  | .rt r=>some (.rt r)
  | .nx δ'=>some (.nx (δ'.set i none))
  | _=>none
  else none
 | _=>none
end D3
namespace XC
open PySem PySem.Spec PyProof.Rows L2 My D3
structure At (K:PySem.W.Frag) (i:Nat) (a:Addr) (v:V) (d:D) (σ:L2.St) (H:Hp):Prop where
 sl:σ[i]? = some (some (.ref a))
 ra:RA K ok0 false H v d
 fl:flat d=true
section
variable {K:PySem.W.Frag} {fl:List Fl} {i:Nat} {a:Addr} {v:V} {d:D} {σ:L2.St} {H H':Hp}
theorem At.grow (h:At K i a v d σ H) (s:Same H H'):At K i a v d σ H':=⟨h.sl,h.ra.same s,h.fl⟩
theorem At.set {j:Nat} {x:Option V} (h:At K i a v d σ H) (n:i ≠ j):At K i a v d (σ.set j x) H:=⟨by rw [aV (Ne.symm n)];exact h.sl,h.ra,h.fl⟩
end
def tU (K:PySem.W.Frag) (fl:List Fl) (i:Nat) (a:Addr) (v:V) (d:D) (k:Kd) (f:FE):TE:=fun σ H Q=>∃ G ow δ x,Rel K fl G ow σ H δ∧At K i a v d σ H∧f δ=some x∧∀ y H',Same H H'→Rs K G.H0 ow H H' k y x→Q y H'
def tUB (K:PySem.W.Frag) (fl:List Fl) (i:Nat) (a:Addr) (v:V) (d:D) (k:Kd) (f:FA):TA:=fun σ H Q=>∃ G ow δ ds,Rel K fl G ow σ H δ∧At K i a v d σ H∧f δ=some ds∧∀ vs H',Same H H'→RAs K (Ft G.H0 ow H k) (Lj k) H' vs ds→Q vs H'
def tUT (K:PySem.W.Frag) (fl:List Fl) (i:Nat) (a:Addr) (v:V) (d:D) (f:FT):TT:=fun σ H Q=>∃ G ow δ b,Rel K fl G ow σ H δ∧At K i a v d σ H∧f δ=some b∧∀ H',Same H H'→Q b H'
def WQ (K:PySem.W.Frag) (fl:List Fl) (i:Nat) (a:Addr) (v:V) (d:D) (G:Gh) (Dn:Ends):Oc→Prop
 | .nx δ'=>∀ ow' σ' H',Rel K fl G ow' σ' H' δ'→At K i a v d σ' H'→Dn.nx σ' H'
 | .rt r=>∀ y H',Same G.H0 H'→RA K (okN G.H0) false H' y r→Dn.rt y H'
 | _=>False
def tUS (K:PySem.W.Frag) (fl:List Fl) (i:Nat) (a:Addr) (v:V) (d:D) (f:FS):TS:=fun Dn σ H=>∃ G ow δ o,Rel K fl G ow σ H δ∧At K i a v d σ H∧f δ=some o∧WQ K fl i a v d G Dn o
structure Sc where
 i:Nat
 a:Addr
 v:V
 d:D
abbrev UE (X:Cx) (fl:List Fl) (z:Sc) (k:Kd) (e:Expr) (f:FE):Prop:=PE X e (tU X.K fl z.i z.a z.v z.d k f)
abbrev UB (X:Cx) (fl:List Fl) (z:Sc) (k:Kd) (es:List Expr) (f:FA):Prop:=PA X es (tUB X.K fl z.i z.a z.v z.d k f)
abbrev UT (X:Cx) (fl:List Fl) (z:Sc) (e:Expr) (f:FT):Prop:=PT X e (tUT X.K fl z.i z.a z.v z.d f)
abbrev UW (X:Cx) (fl:List Fl) (z:Sc) (e:Expr) (f:FT):Prop:=PW X e (tUT X.K fl z.i z.a z.v z.d f)
abbrev US (X:Cx) (fl:List Fl) (z:Sc) (s:Stmt) (f:FS):Prop:=PS X s (tUS X.K fl z.i z.a z.v z.d f)
abbrev USs (X:Cx) (fl:List Fl) (z:Sc) (s:List Stmt) (f:FS):Prop:=PSs X s (tUS X.K fl z.i z.a z.v z.d f)
section
variable {X:Cx} {fl:List Fl} {z:Sc} {e a b c:Expr} {es rest:List Expr} {st:Stmt} {sts body orelse:List Stmt} {k:Kd} {f fa fb:FE} {fs gs:FS} {ft gt:FT} {fr:FA} {pos:Pos}
theorem wY (h:DE X fl k e f):UE X fl z k e f:=PE.imp h fun σ H Q h=>by
 obtain ⟨G,ow,δ,x,R,_,hf,q⟩:=h
 exact ⟨G,ow,δ,x,R,hf,q⟩
theorem yw {k':Kd} (h:UE X fl z k e f) (hc:∀ (Hb H:Hp) (G:Gh) (ow:Ow) (σ:L2.St) (δ:DS) (v:V) (d:D),Rel X.K fl G ow σ Hb δ→Rs X.K G.H0 ow Hb H k v d→Rs X.K G.H0 ow Hb H k' v d):UE X fl z k' e f:=PE.imp h fun σ H Q h=>by
 obtain ⟨G,ow,δ,x,R,A,hf,q⟩:=h
 exact ⟨G,ow,δ,x,R,A,hf,fun v H' s r=>q v H' s (hc _ _ G ow σ δ v x R r)⟩
theorem mD (h:UE X fl z .FC e f):UE X fl z .C e f:=yw h fun _ _ _ _ _ _ _ _ R r=>r.FC_C
theorem U4 (h:UE X fl z .C e f):UE X fl z .A e f:=yw h fun _ _ _ _ _ _ _ _ R r=>r.C_A R
theorem U5 (h:UE X fl z .C e f):UE X fl z .R e f:=yw h fun _ _ _ _ _ _ _ _ R r=>r.C_R R
theorem Bx (h:UE X fl z .FC e f):UE X fl z .A e f:=U4 (mD h)
theorem BJ (h:UE X fl z .FC e f):UE X fl z .R e f:=U5 (mD h)
theorem rR {bb:Bool} (h:PE X e (tEt z.i z.a bb)):UE X fl z .FC e (dC (.bool bb)):=PE.imp h fun σ H Q h=>by
 obtain ⟨G,ow,δ,x,R,A,hf,q⟩:=h
 cases hf
 exact ⟨A.sl,fun H' s=>q _ H' s (.inl ⟨rfl,.bl _⟩)⟩
theorem sV:UB X fl z k [] aJ:=PA.imp lZ fun σ H Q h=>by
 obtain ⟨G,ow,δ,ds,R,_,hf,q⟩:=h
 cases hf
 exact q [] H (Same.refl H) .nil
theorem iw (hk:isR k=true) (h:UE X fl z k e f) (hr:UB X fl z k es fr) (hs:starEach (e :: es) X.env=(false,eval e X.env) :: starEach es X.env:=by exact fD rfl):UB X fl z k (e :: es) (aj f fr):=PA.imp (iu h hr hs) fun σ H Q h=>by
 obtain ⟨G,ow,δ,ds,R,A,hf,q⟩:=h
 obtain ⟨d,e1,hf⟩:=bind1 hf
 obtain ⟨r,e2,hf⟩:=bind1 hf
 cases hf
 refine ⟨G,ow,δ,d,R,A,e1,fun v H1 s1 r1=>⟨G,ow,δ,r,R.grow s1,A.grow s1,e2,fun vs H2 s2 r2=>?_⟩⟩
 exact q _ H2 (s1.trans s2) (.cons ((r1.ra hk).same s2) (r2.imp (wL s1 hk) (fun z=>z)))
theorem BK {x1} (hk:isR k=true) (h:UB X fl z k es fr):UE X fl z k (.Tuple es x1 pos) (dTup fr):=PE.imp (Hq h) fun σ H Q h=>by
 obtain ⟨G,ow,δ,d,R,A,hf,q⟩:=h
 obtain ⟨l,e1,e2⟩:=bind1 hf
 by_cases z:l.length ≤ sizeLine
 ·rw [if_pos z] at e2
  cases e2
  refine ⟨G,ow,δ,l,R,A,e1,fun vs H' s r=>⟨by rw [r.length];exact z,fun p hp=>?_⟩⟩
  have g:=fJ hp (.tup vs)
  exact q _ _ (s.trans g) (Rs.of_ra hk (.tup d7 (r.same g)))
 ·rw [if_neg z] at e2
  cases e2
theorem BL (h:UB X fl z .C es fr):UE X fl z .FC (.List es pos) (d_ fr):=PE.imp (Ay h) fun σ H Q h=>by
 obtain ⟨G,ow,δ,d,R,A,hf,q⟩:=h
 obtain ⟨l,e1,e2⟩:=bind1 hf
 by_cases z:l.length ≤ sizeLine
 ·rw [if_pos z] at e2
  cases e2
  refine ⟨G,ow,δ,l,R,A,e1,fun vs H' s r=>⟨by rw [r.length];exact z,fun p hp=>?_⟩⟩
  have g:=fJ hp (.lst vs)
  exact q _ _ (s.trans g) (.inr ⟨p,vs,l,rfl,rfl,s.free hp,d7,(r.track.imp (fun b w=>⟨w.1,fun e=>w.2 (e ▸ hp)⟩) (fun z=>z)).same g⟩)
 ·rw [if_neg z] at e2
  cases e2
theorem rT (h:DT X fl e ft):UT X fl z e ft:=PT.imp h fun σ H Q h=>by
 obtain ⟨G,ow,δ,x,R,_,hf,q⟩:=h
 exact ⟨G,ow,δ,x,R,hf,q⟩
theorem Jj {bb:Bool} (h:PE X e (tEt z.i z.a bb)) (he:∀ whole,isTrue e X.env whole=(do let v ← whole;standAt e.pos;holding [v] (truthy v)):=by intro _;rfl):UT X fl z e (fun _=>some bb):=PT.imp (G6 h he) fun σ H Q h=>by
 obtain ⟨G,ow,δ,x,R,A,hf,q⟩:=h
 cases hf
 exact ⟨A.sl,fun H' s=>⟨bb,rfl,q H' s⟩⟩
theorem BP (h:UT X fl z a ft):UT X fl z (.UnaryOp .Not a pos) (D3.dG ft):=PT.imp (G8 h) fun σ H Q h=>by
 obtain ⟨G,ow,δ,t,R,A,hf,q⟩:=h
 unfold D3.dG at hf
 cases e:ft δ with
 | none=>rw [e] at hf;cases hf
 | some x =>
  rw [e] at hf
  cases hf
  exact ⟨G,ow,δ,x,R,A,e,fun H' s=>q H' s⟩
theorem BR (h:UT X fl z a ft):UW X fl z (.BoolOp .Or [a] pos) ft:=G7 h
theorem Jk (h1:UT X fl z a ft) (h2:UW X fl z (.BoolOp .Or (b :: rest) pos) gt):UW X fl z (.BoolOp .Or (a :: b :: rest) pos) (D3.tOr ft gt):=PW.imp (Oz h1 h2) fun σ H Q h=>by
 obtain ⟨G,ow,δ,t,R,A,hf,q⟩:=h
 obtain ⟨x,e1,e2⟩:=bind1 hf
 refine ⟨G,ow,δ,x,R,A,e1,fun H1 s1=>?_⟩
 cases x with
 | true=>cases e2;exact vR (q H1 s1)
 | false=>exact vQ ⟨G,ow,δ,t,R.grow s1,A.grow s1,e2,fun H2 s2=>q H2 (s1.trans s2)⟩
theorem Ro (h:UW X fl z a ft):UT X fl z a ft:=PW.pt h
theorem nC:US X fl z st (fun _=>none):=fun _ _ _ _ _ _ h=>by
 obtain ⟨_,_,_,_,_,_,hf,_⟩:=h
 cases hf
theorem lH:USs X fl z [] bI:=PSs.imp Dm fun Dn σ H h=>by
 obtain ⟨G,ow,δ,o,R,A,hf,q⟩:=h
 cases hf
 exact q ow σ H R A
theorem iJ (h1:US X fl z st fs) (h2:USs X fl z sts gs):USs X fl z (st :: sts) (aW fs gs):=PSs.imp (uE h1 h2) fun Dn σ H h=>by
 obtain ⟨G,ow,δ,o,R,A,hf,q⟩:=h
 obtain ⟨o1,e1,e2⟩:=bind1 hf
 refine ⟨G,ow,δ,o1,R,A,e1,?_⟩
 cases o1 with
 | nx δ'=>exact fun ow' σ' H' R' A'=>⟨G,ow',δ',o,R',A',e2,q⟩
 | rt d=>cases e2;exact q
 | bk d=>cases e2;exact q.elim
 | ct d=>cases e2;exact q.elim
 | ex c f v=>cases e2;exact q.elim
theorem jy (h1:US X fl z st fs):USs X fl z [st] fs:=PSs.imp (xU h1) fun _ _ _ h=>h
theorem rW (hc:UT X fl z c ft) (h1:USs X fl z body fs) (h2:USs X fl z orelse gs):US X fl z (.If c body orelse pos) (sIf ft fs gs):=PS.imp (G9 hc h1 h2) fun Dn σ H h=>by
 obtain ⟨G,ow,δ,o,R,A,hf,q⟩:=h
 obtain ⟨t,e1,e2⟩:=bind1 hf
 refine ⟨G,ow,δ,t,R,A,e1,fun H' s=>?_⟩
 cases t with
 | true=>exact vR ⟨G,ow,δ,o,R.grow s,A.grow s,e2,q⟩
 | false=>exact vQ ⟨G,ow,δ,o,R.grow s,A.grow s,e2,q⟩
theorem sW (h:UE X fl z .R e f):US X fl z (.Return (some e) pos) (bO f):=PS.imp (Ao h) fun Dn σ H h=>by
 obtain ⟨G,ow,δ,o,R,A,hf,q⟩:=h
 obtain ⟨d,e1,e2⟩:=bind1 hf
 cases e2
 exact ⟨G,ow,δ,d,R,A,e1,fun v H' s r=>q v H' (R.same0.trans s) r⟩
theorem yx {j:Nat} {x:Str} {pos':Pos} (hij:z.i ≠ j) (hfl:fl[j]? = some .A) (hN:X.N.Nodup) (hi:X.N[j]? = some x) (hv:X.env.scope.names.lookup x=some .local∨X.env.scope.names.lookup x=some .cell) (h:UE X fl z .A e f)
 (hs:swapsWith e (some (.Name x pos')) pos.line X.env=pure false:=by rfl) (hfn:X.fn x=true∨X.env.scope.names.lookup x=some .local:=by first | exact .inl rfl | exact .inr rfl) :
 US X fl z (.Assign [.Name x pos'] e pos) (bJ j f):=PS.imp (uF (i:=j) hN hi hv h hs hfn) fun Dn σ H h=>by
 obtain ⟨G,ow,δ,o,R,A,hf,q⟩:=h
 unfold bJ at hf
 by_cases hl:j < δ.length
 ·rw [if_pos hl] at hf
  obtain ⟨d,e1,e2⟩:=bind1 hf
  cases e2
  exact ⟨G,ow,δ,d,R,A,e1,fun v H' s r=>q ow _ H' ((R.grow s).setA hfl (nY R hl) r) ((A.grow s).set hij)⟩
 ·rw [if_neg hl] at hf
  cases hf
end
end XC
namespace XC
open PySem PySem.Spec PyProof.Rows L2 My D3
section
variable {X:Cx} {pins:List (Addr × Obj)} {σ:L2.St} {H:Hp} {s:Shared} {a C I0 dx T D:Addr} {cn f ic n:Str} {u:Value} {i:Nat} {b0:Stmt} {suite:List Stmt} {np hpos:Pos}
theorem BW {M:Model} {A:Around} {E:Value→Shared→Prop} {Q:Unit→Shared→Prop} (I:Inv X pins σ H s) (hi:X.N[i]? = some n) (hN:X.N.Nodup) (hl:X.env.scope.names.lookup n=some .local)
 (h:∀ s',Inv X pins (σ.set i none) H s'→Q () s'):wpAny M A (do bindName X.env n .none;unbindBehindTheSuite X.env n hpos) Q E s:=by
 obtain ⟨m,hn,hm⟩:=id I.loc
 have cls:(X.env.scope.kind == .class || (X.env.scope.kind == .module && X.env.locals != X.env.globals))=false:=by rw [I.ok.kind];rfl
 refine wpAny_nameGoes_keeps hl hn cls fun h' v0 hn' hs=>h _ ?_
 have neL:∀ b o,X.s₀.heap.get? b=some o→b ≠ X.env.locals:=fun b o e z=>by
  rw [z] at e
  exact absurd (Heap.lt_size e) (eO.mpr I.ok.above)
 refine ⟨I.ok,I.os,I.bare,⟨fun b o e z1 z2 z3=>(hs.2 b (neL b o e)).trans (I.base.keep b o e z1 z2 z3),fun b o e z1 z2 z3=>?_,I.base.free,fun b o e z1=>?_,I.base.tups,I.base.frzs,I.base.tbls⟩,⟨_,hn',fun j y v e1 e2 e3=>?_⟩,fun y c e=>?_,I.free,I.freeC,fun p hp=>?_,fun b ob e=>?_,by rw [bU];exact I.len⟩
 ·obtain ⟨sl,w⟩:=I.base.slot b o e z1 z2 z3
  exact ⟨sl,(hs.2 b (neL b o e)).trans w⟩
 ·obtain ⟨o',w⟩:=I.base.there b o e z1
  exact ⟨o',(hs.2 b (neL b o e)).trans w⟩
 ·have hj:j ≠ i:=fun z=>by
   subst z
   by_cases l:j < σ.length
   ·rw [cj l] at e2;cases e2
   ·rw [bD (by rw [bU];omega)] at e2;cases e2
  rw [aV (Ne.symm hj)] at e2
  obtain ⟨u',r',q⟩:=hm j y v e1 e2 e3
  refine ⟨u',r',?_⟩
  rcases q with ⟨k,e⟩ | ⟨k,c,e,z⟩
  ·refine .inl ⟨k,?_⟩
   have:y ≠ n:=fun e=>hj (uz hN e1 (e ▸ hi))
   simp [this,e]
  ·exact .inr ⟨k,c,e,z.sameBut hs (I.cne y c e)⟩
 ·obtain ⟨w,z⟩:=I.cell y c e
  exact ⟨w,z.sameBut hs (I.cne y c e)⟩
 ·obtain ⟨e,z1,z2,z3,z4⟩:=I.pin p hp
  exact ⟨(hs.2 p.1 z2).trans e,z1,z2,z3,z4⟩
 ·refine (I.hok b ob e).stay (fun c w hc q=>(hs.2 c fun z=>?_).trans q) (fun _ q=>q) fun _ _ q=>q
  rcases hc with y | y
  ·rw [← y,z,I.free] at e;cases e
  ·rw [z,I.free] at y;cases y
theorem U6 {Dn:Ends} {ts:TS} (I:Inv X pins σ H s) (F:Fly s.heap a C dx f u (some T)) (La:Loose X pins H a) (Ld:Loose X pins H dx) (LT:Loose X pins H T) (Ex:Exc X.K X.mg cn f C I0) (hD:D=C∨D=I0) (hic:X.mg ic=some (.ref D)) (hg:Gl X ic) (hdb:(ic == ("__debug__" : Str))=false)
 (hi:X.N[i]? = some n) (hN:X.N.Nodup) (hl:X.env.scope.names.lookup n=some .local)
 (hs:∀ oa od,s.heap.get? a=some oa→s.heap.get? dx=some od→PSs (dN X a oa dx od) (b0 :: suite) ts∧ts { nx:=fun σ' H'=>Dn.nx (σ'.set i none) H',rt:=Dn.rt } (σ.set i (some (.ref a))) H) :
 wpAny (model X.prog X.w) X.A (handleBy (.ref a) X.env [.ExceptHandler (some (.Name ic np)) (some n) (b0 :: suite) hpos]) (SP X pins Dn) X.xe s:=by
 obtain ⟨oa,od,ea,ed,IS⟩:=FJ I F La Ld
 obtain ⟨hps,ht⟩:=hs oa od ea ed
 obtain ⟨mgC,kp,hB,N,fI,mN,mI,TK,_⟩:=Ex
 have TT:=TK _ I.kIn
 obtain ⟨vs,sl,e1,_⟩:=F.obj
 refine wpAny_handleBy_cons (codeAny_handlers_test (rB (X:=dN X a oa dx od) IS hg hic ?_ hdb)) (by intro q;cases q)
 have go:∀ {E':Value→Shared→Prop} {Q':Bool→Shared→Prop},Q' true s→wpAny (model X.prog X.w) (X.A.mark (some (.ref a))) (excMatches (.ref a) (.ref D)) Q' E' s:=fun {E' Q'} q=>by
  obtain ⟨hp,g,d,tk,os⟩:=s
  rcases hD with rfl | rfl
  ·exact TT.match_self e1 rfl (by decide) q
  ·exact TT.match_up e1 rfl (by decide) q
 refine go ?_
 refine codeAny_handlers_suite_as ?_
 have LT':∀ p ∈ (dN X a oa dx od).pn++pins,p.1 ≠ T:=fun p hp=>by
  obtain ⟨Ta,Td,_⟩:=F.hd T rfl
  have hp:p ∈ (X.pn++[(a,oa),(dx,od)])++pins:=hp
  rcases bM.mp hp with hp | hp
  ·rcases bM.mp hp with hp | hp
   ·exact LT.pin p (bF _ hp)
   ·rcases aO.mp hp with rfl | hp
    ·exact Ne.symm Ta
    ·rw [aQ.mp hp];exact Ne.symm Td
  ·exact LT.pin p (aX _ hp)
 refine Bu IS F LT.out LT.loc LT.new LT.cel LT' fun s1 I1 _=>?_
 refine uD (X:=dN X a oa dx od) (i:=i) (v:=V.ref a) I1 hN hi (.inl hl) rfl (fun s2 I2=>?_) (.inr hl)
 refine wpAny_mono (hps pins s2 _ H _ I2 ht) (fun fl s3 q=>?_) fun _ _ z=>z.elim
 cases fl with
 | ret v =>
  obtain ⟨v',σ',H',I3,rv,q3⟩:=q
  exact name_goes (rE I.ok I3) hl fun s4 I4=>⟨v',_,H',I4,rv,q3⟩
 | next =>
  obtain ⟨σ',H',I3,q3⟩:=q
  exact BW (rE I.ok I3) hi hN hl fun s4 I4=>⟨_,H',I4,q3⟩
 | brk =>
  obtain ⟨_,_,_,z⟩:=q
  exact z.elim
 | cont =>
  obtain ⟨_,_,_,z⟩:=q
  exact z.elim
end
def Jl (X:Cx) (fl:List Fl) (fld:Addr→Str) (ic:Str) (i:Nat) (b0:Stmt) (suite:List Stmt) (fS:Str→D→FS) (c:Str):Prop :=
 ∃ C I0 Dc,Exc X.K X.mg c (fld C) C I0∧(Dc=C∨Dc=I0)∧X.mg ic=some (.ref Dc)∧∀ (a:Addr) (oa:Obj) (dx:Addr) (od:Obj) (u:Value) (v:V) (d:D),oa.cls = .ref C→oa.dict=some dx→PySem.W.notCls oa=true→(∀ h:Heap,h.get? dx=some od→h.Ns1 dx (fun z=>if z=fld C then some u else none))→RelV v u→flat d=true →
  USs (dN X a oa dx od) fl ⟨i,a,v,d⟩ (b0 :: suite) (fS c d)
section
variable {X:Cx} {fl:List Fl} {fld:Addr→Str} {i:Nat} {ic en:Str} {cs:List Str} {f:FX} {np hpos tpos:Pos} {b0 st:Stmt} {suite:List Stmt} {fS:Str→D→FS}
theorem Mt (h:DXE X fld fl st f) (hcs:∀ c ∈ cs,Jl X fl fld ic i b0 suite fS c) (hfi:fl[i]? = some .A)
 (hi:X.N[i]? = some en) (hN:X.N.Nodup) (hl:X.env.scope.names.lookup en=some .local) (hst:X.stack=X.env :: X.outer:=by rfl) (hfr:X.env.frame=some X.env.locals:=by rfl) (hx:X=X.nox:=by rfl)
 (hgi:Gl X ic:=by rfl) (hdi:(ic == ("__debug__" : Str))=false:=by decide) :
 DS1 X fl (.Try [st] [.ExceptHandler (some (.Name ic np)) (some en) (b0 :: suite) hpos] [] [] tpos) (wX i f cs fS):=by
 intro pins s σ H Dn J h0
 obtain ⟨G,ow,δ,o,R,hf,q⟩:=h0
 obtain ⟨o1,e1,e2⟩:=bind1 hf
 refine wpAny_Try_except ?_
 have one:∀ (D:Ends) (EX:XK),(tXE X.K X.mg fl f) D EX σ H→(∀ s',SP X pins D .next s'→SP X pins Dn .next s')→(∀ e s',XP fld X pins σ EX e s'→wpAny (model X.prog X.w) X.A (noteFrame e X.env) (fun _ s₂=>wpAny (model X.prog X.w) X.A (setFlight e none) (fun _ s₃=>wpAny (model X.prog X.w) X.A (handleBy e X.env [.ExceptHandler (some (.Name ic np)) (some en) (b0 :: suite) hpos]) (SP X pins Dn) X.xe s₃) X.xe s₂) X.xe s')→(D.rt=fun _ _=>False)→(D.bk=fun _ _=>False)→(D.ct=fun _ _=>False)→wpAny (model X.prog X.w) X.A (execs [st] X.env) (fun f s₁=>match f with | .next=>wpAny (model X.prog X.w) X.A (execs [] X.env) (SP X pins Dn) X.xe s₁ | f=>SP X pins Dn f s₁)
  (fun e s₁=>wpAny (model X.prog X.w) X.A (noteFrame e X.env) (fun _ s₂=>wpAny (model X.prog X.w) X.A (setFlight e none) (fun _ s₃=>wpAny (model X.prog X.w) X.A (handleBy e X.env [.ExceptHandler (some (.Name ic np)) (some en) (b0 :: suite) hpos]) (SP X pins Dn) X.xe s₃) X.xe s₂) X.xe s₁) s:=fun D EX hq hn hxx hD1 hD2 hD3=>by
  refine wpAny_execs_cons (wpAny_mono (h pins s σ H D EX J hq) (fun fl' s1 z=>?_) fun e s1 z=>hxx e s1 z)
  cases fl' with
  | next=>exact wpAny_execs_nil (wpAny_execs_nil (hn _ z))
  | ret v=>obtain ⟨_,_,_,_,_,z⟩:=z;rw [hD1] at z;exact z.elim
  | brk=>obtain ⟨_,_,_,z⟩:=z;rw [hD2] at z;exact z.elim
  | cont=>obtain ⟨_,_,_,z⟩:=z;rw [hD3] at z;exact z.elim
 split at e2
 ·next δ' =>
  cases e2
  refine one { nx:=fun σ' H2=>∃ ow',Rel X.K fl G ow' σ' H2 δ',rt:=fun _ _=>False,bk:=fun _ _=>False,ct:=fun _ _=>False } (fun _ _ _=>False) ⟨G,ow,δ,_,R,e1,fun ow' σ' H' R'=>⟨ow',R'⟩⟩ (fun s' z=>?_) (fun e s' z=>?_) rfl rfl rfl
  ·obtain ⟨σ',H',I',ow',R'⟩:=z
   exact ⟨σ',H',I',q ow' _ H' R'⟩
  ·obtain ⟨_,_,_,_,_,_,_,_,_,_,_,_,z⟩:=z
   exact z.elim
 ·next c d =>
  by_cases hc:c ∈ cs∧flat d=true
  case neg=>rw [if_neg hc] at e2;cases e2
  rw [if_pos hc] at e2
  obtain ⟨o2,e3,e4⟩:=bind1 e2
  obtain ⟨C,I0,Dc,Ex,hD,hic,hsu⟩:=hcs c hc.1
  refine one { nx:=fun σ' H2=>False,rt:=fun _ _=>False,bk:=fun _ _=>False,ct:=fun _ _=>False } (fun u C' H'=>C'=some C∧Same H H'∧∃ v,RelV v u∧RA X.K ok1 true H' v d) ⟨G,ow,δ,_,R,e1,fun C' v u H' mc sm' r' rv=>⟨by rw [Ex.mgC] at mc;cases mc;rfl,sm',v,rv,r'⟩⟩ (fun s' z=>?_) (fun e s' z=>?_) rfl rfl rfl
  ·obtain ⟨_,_,_,z⟩:=z;exact z.elim
  ·obtain ⟨a,C',dx,T,u,H',rfl,I',Fl,La,Ld,LT,hC,sm,v,rv,rd⟩:=z
   cases hC
   refine zT rfl I' hst hfr Fl La Ld (fun T' z=>by cases z;exact LT) fun s2 T2 I2 F2 o1 o2 LT2=>?_
   obtain ⟨vs,sl,w1,_⟩:=F2.obj
   obtain ⟨od,es1,ep1,w2,w3⟩:=F2.dic
   have t1:=hsu a ⟨.ref C,some dx,.fields vs,sl⟩ dx od u v d rfl rfl rfl (fun h' z=>⟨od,es1,ep1,z,w3⟩) rv hc.2
   have li:i < σ.length:=by
    rw [I2.len]
    exact (dO.mp hi).1
   refine U6 (D:=Dc) (i:=i) (ts:=tUS X.K fl i a v d (fS c d)) I2 F2 La Ld LT2 Ex hD hic hgi hdi hi hN hl fun oa od' ea ed=>?_
   rw [w1] at ea
   rw [w2] at ed
   cases ea
   cases ed
   refine ⟨t1,G,ow,_,_,Rel.forget (R.grow sm) hfi,⟨cj li,RA.flat hc.2 rd,hc.2⟩,e3,?_⟩
   split at e4
   ·cases e4
    exact fun y H2 s2 r2=>q y H2 s2 r2
   ·next δ' =>
    cases e4
    exact fun ow' σ' H2 R' _=>q ow' _ H2 (Rel.forget R' hfi)
   ·cases e4
 ·cases e2
end
structure SuiU (K:PySem.W.Frag) (mg:Str→Option Value) (fld:Addr→Str) (cn f ic:Str) (ts:List (Str × Bool)):Prop where
 ex:∃ C I,Exc K mg cn f C I∧fld C=f∧mg ic=some (.ref I)∧KitE K C∧AttE K C f∧∀ t ∈ ts,∃ D,mg t.1=some (.ref D)∧PySem.W.kitOne K (.ref C) (.ref D)=some t.2
def TsK (K:PySem.W.Frag) (mg:Str→Option Value) (C:Addr) (ts:List (Str × Bool)):Prop:=∀ t ∈ ts,∃ D,mg t.1=some (.ref D)∧PySem.W.kitOne K (.ref C) (.ref D)=some t.2
theorem yC {K:PySem.W.Frag} {mg:Str→Option Value} {C:Addr}:TsK K mg C []:=kZ _
theorem jN {K:PySem.W.Frag} {mg:Str→Option Value} {C D:Addr} {n:Str} {b:Bool} {ts:List (Str × Bool)} (m:mg n=some (.ref D)) (k:PySem.W.kitOne K (.ref C) (.ref D)=some b) (r:TsK K mg C ts):TsK K mg C ((n,b) :: ts):=aR.mpr ⟨⟨D,m,k⟩,r⟩
theorem yE {K:PySem.W.Frag} {mg:Str→Option Value} {fld:Addr→Str} {cn f ic:Str} {ts:List (Str × Bool)} {C I:Addr} (E:Exc K mg cn f C I) (hf:fld C=f) (m:mg ic=some (.ref I)) (k:KitE K C) (a:AttE K C f) (t:TsK K mg C ts):SuiU K mg fld cn f ic ts:=⟨C,I,E,hf,m,k,a,t⟩
theorem SuiU.up {K:PySem.W.Frag} {mg:Str→Option Value} {fld:Addr→Str} {cn f ic:Str} {ts:List (Str × Bool)} (h:SuiU K mg fld cn f ic ts):ExcG K mg fld cn f ic:=by
 obtain ⟨C,I,E,hf,m,_⟩:=h.ex
 exact ⟨C,I,E,hf,m⟩
structure SuK (X:Cx) (f:Str) (ts:List (Str × Bool)) (i:Nat) (n:Str) (a:Addr) (oa:Obj) (dx:Addr) (od:Obj) (v:V):Prop where
 is:∀ (t:Str × Bool),t ∈ ts→Gl X t.1→(t.1 == ("__debug__" : Str))=false→∀ p p1 p2 pos,PE (dN X a oa dx od) (.Call (.Name "isinstance" p) [.Name n p1,.Name t.1 p2] [] pos) (tEt i a t.2)
 isv:X.mg "ValueError" = none→Gl X "ValueError" → ∀ p p1 p2 pos,PE (dN X a oa dx od) (.Call (.Name "isinstance" p) [.Name n p1,.Name "ValueError" p2] [] pos) (tEt i a true)
 att:∀ p1 pos,PE (dN X a oa dx od) (.Attribute (.Name n p1) f pos) (fun σ H Q=>σ[i]? = some (some (.ref a))∧Q v H)
section
variable {X:Cx} {fl:List Fl} {fld:Addr→Str} {c f ic n g:Str} {ts:List (Str × Bool)} {i k:Nat} {a dx:Addr} {oa od:Obj} {v:V} {d:D} {b0:Stmt} {suite:List Stmt} {fS:Str→D→FS} {gp:List Str} {W:List D→Option D}
theorem sX {g:D→FS} (up:Bool) (Z:SuiU X.K X.mg fld c f ic ts) (hmi:X.mg "isinstance" = none) (hi:X.N[i]? = some n) (hS:∀ d,fS c d=g d)
 (hs:∀ a oa dx od v d,SuK X f ts i n a oa dx od v→flat d=true→USs (dN X a oa dx od) fl ⟨i,a,v,d⟩ (b0 :: suite) (g d))
 (hv:Vis X.env.scope n:=by first | exact Or.inl rfl | exact Or.inr (Or.inl rfl) | exact Or.inr (Or.inr rfl)) (hgi:Gl X "isinstance" := by rfl)
 (hdn:(n == ("__debug__" : Str))=false:=by decide) (hcn:(n == ("__classdict__" : Str))=false:=by decide)
 (hb:∀ p1,attributeBase (.Name n p1) f X.env (eval (.Name n p1) X.env)=eval (.Name n p1) X.env:=by intro _;rfl) :
 Jl X fl fld (if up=true then ic else c) i b0 suite fS c:=by
 obtain ⟨C,I0,Ex,hf,mI,Kt,At,hk⟩:=Z.ex
 have main:∀ (a:Addr) (oa:Obj) (dx:Addr) (od:Obj) (u:Value) (v:V) (d:D),oa.cls = .ref C→oa.dict=some dx→PySem.W.notCls oa=true→(∀ h:Heap,h.get? dx=some od→h.Ns1 dx (fun z=>if z=fld C then some u else none))→RelV v u→flat d=true→USs (dN X a oa dx od) fl ⟨i,a,v,d⟩ (b0 :: suite) (fS c d):=fun a oa dx od u v d hoa hod hnc hdx rv hfd=>by
  rw [hS]
  refine hs a oa dx od v d ⟨fun t ht hg hdb p p1 p2 pos=>?_,fun hmv hgv p p1 p2 pos=>?_,fun p1 pos=>?_⟩ hfd
  ·obtain ⟨D,m,ko⟩:=hk t ht
   exact Rn Kt ko hoa hod hnc m hgi hmi hg hi hv hdb hdn hcn
  ·exact Rj (Mj (a:=a) (oa:=oa) (dx:=dx) (od:=od) (T0 := "ValueError") Ex rfl (by decide) hoa hmv (by decide +kernel) hgi hmi hgv hi hv (by decide) (by decide) hdn hcn)
  ·exact U3 At hoa hod hnc (by rw [hf] at hdx;exact hdx) rv hi hv hdn hcn (hb p1)
 cases up with
 | true=>exact ⟨C,I0,I0,by rw [hf];exact Ex,.inr rfl,mI,main⟩
 | false=>exact ⟨C,I0,C,by rw [hf];exact Ex,.inl rfl,Ex.mgC,main⟩
theorem BX (S:SuK X f ts i n a oa dx od v) {p1 pos:Pos}:UE (dN X a oa dx od) fl ⟨i,a,v,d⟩ .FC (.Attribute (.Name n p1) f pos) (dC d):=PE.imp (S.att p1 pos) fun σ H Q h=>by
 obtain ⟨G,ow,δ,x,R,A,hf,q⟩:=h
 cases hf
 exact ⟨A.sl,q v H (Same.refl H) (.inl ⟨A.fl,A.ra⟩)⟩
end
end XC
namespace XS
open PySem PySem.W PyProof.Rows
def dw {α:Type} (lt:Nat→Nat→Bool):KasT α→α
 | .ret a=>a
 | .ask i j k=>dw lt (k (lt i j))
def mF {α:Type} (n:Nat) (R:α→Prop):KasT α→Prop
 | .ret a=>R a
 | .ask i j k=>i < n∧j < n∧∀ b,mF n R (k b)
section
variable {α β:Type} {n:Nat} {R:α→Prop} {R':β→Prop} {lt:Nat→Nat→Bool}
theorem lM (f:α→KasT β):∀ t:KasT α,dw lt (t.bind f)=dw lt (f (dw lt t))
 | .ret _=>rfl
 | .ask _ _ k=>lM f (k _)
theorem lO {f:α→KasT β} (hf:∀ a,R a→mF n R' (f a)):∀ t:KasT α,mF n R t→mF n R' (t.bind f)
 | .ret a,h=>hf a h
 | .ask _ _ k,h=>⟨h.1,h.2.1,fun b=>lO hf (k b) (h.2.2 b)⟩
theorem zW:∀ t:KasT α,mF n R t→R (dw lt t)
 | .ret _,h=>h
 | .ask _ _ k,h=>zW (k _) (h.2.2 _)
theorem DX {cmp:Nat→Nat→(Bool→Shared→Prop)→Shared→Prop} {G:α→Shared→Prop} {s:Shared} (hc:∀ i j C,i < n→j < n→C (lt i j) s→cmp i j C s) :
 ∀ t:KasT α,mF n R t→G (dw lt t) s→t.kasWp cmp G s
 | .ret _,_,q=>q
 | .ask _ _ k,h,q=>hc _ _ _ h.1 h.2.1 (DX hc (k _) (h.2.2 _) q)
end
def good (n:Nat) (p:Array Nat):Prop:=p.Perm (aN n).toArray
section
variable {n:Nat} {p:Array Nat}
theorem good.mem (g:good n p) {x:Nat} (h:x ∈ p.toList):x < n:=by
 have:x ∈ (aN n):=by
  have:=(lX.mp g).mem_iff.mp h
  simpa using this
 exact cA.mp this
theorem good.get (g:good n p) (h0:0 < n) (i:Nat):p.getD i 0 < n:=by
 unfold Array.getD
 split
 ·exact g.mem (by simp)
 ·exact h0
theorem good.rev (g:good n p) (i j:Nat):good n (kas_rev p i j):=(mirror_perm _ _ _ _).trans g
theorem good.bub (g:good n p) (i j:Nat):good n (bubble p i j):=(bubble_perm _ _ _).trans g
theorem u_ (h0:0 < n) (g:good n p):∀ f a,mF n (fun _=>True) (kas_asc p f a)
 | 0,a=>trivial
 | f + 1,a=>⟨g.get h0 _,g.get h0 _,fun b=>by
  cases b
  ·exact u_ h0 g f (a + 1)
  ·trivial⟩
theorem pH (h0:0 < n):∀ f (p:Array Nat) a q,good n p→mF n (fun r=>good n r.1) (kas_desc f p a q)
 | 0,p,a,q,g=>g
 | f + 1,p,a,q,g=>by
  refine ⟨g.get h0 _,g.get h0 _,fun b=>?_⟩
  cases b
  ·refine ⟨g.get h0 _,g.get h0 _,fun c=>?_⟩
   cases c
   ·exact pH h0 f p (a + 1) (q + 1) g
   ·exact g
  ·show mF n _ (if q > 0 then _ else _)
   split
   ·exact pH h0 f _ _ _ (g.rev _ _)
   ·exact pH h0 f _ _ _ g
theorem vd (h0:0 < n) (g:good n p) (a m:Nat):mF n (fun r=>good n r.2) (kas_tail3 a m p):=by
 unfold kas_tail3
 refine lO (R:=fun _=>True) (fun c _=>?_) _ (u_ h0 (g.rev _ _) _ _)
 show good n (kas_rev p 0 a)
 exact g.rev _ _
theorem wZ (h0:0 < n) (g:good n p) (a m:Nat):mF n (fun r=>good n r.2) (kas_descPart a m p) :=
 lO (R:=fun r=>good n r.1) (fun r h=>by
  split
  ·exact vd h0 (good.rev h _ _) _ _
  ·exact vd h0 h _ _) _ (pH h0 _ _ _ _ g)
theorem BZ (h0:0 < n) (g:good n p) (m:Nat):mF n (fun r=>good n r.2) (kas_count m p) :=
 lO (R:=fun _=>True) (fun a _=>by
  split
  ·exact g
  ·split
   ·refine ⟨g.get h0 _,g.get h0 _,fun b=>?_⟩
    cases b
    ·exact wZ h0 (g.rev _ _) _ _
    ·exact g
   ·exact wZ h0 g _ _) _ (u_ h0 g _ _)
theorem qu (h0:0 < n) (g:good n p) (k:Nat):∀ f l r,mF n (fun _=>True) (kas_place p k f l r)
 | 0,l,r=>trivial
 | f + 1,l,r=>by
  unfold kas_place
  split
  ·trivial
  ·refine ⟨g.get h0 _,g.get h0 _,fun b=>?_⟩
   cases b
   ·exact qu h0 g k f _ _
   ·exact qu h0 g k f _ _
theorem zX (h0:0 < n):∀ f (p:Array Nat) k,good n p→mF n (good n) (kas_bin f p k)
 | 0,p,k,g=>g
 | f + 1,p,k,g=>lO (R:=fun _=>True) (fun l _=>zX h0 f _ _ (g.bub _ _)) _ (qu h0 g k _ _ _)
theorem w6 (h0:0 < n):mF n (good n) (kas_sort n) :=
 lO (R:=fun r=>good n r.2) (fun r h=>by
  split
  ·exact zX h0 _ _ _ h
  ·exact h) _ (BZ h0 (Array.Perm.refl _) n)
end
def qw (n:Nat) (lt:Nat→Nat→Bool):List Nat:=(dw lt (kas_sort n)).toList
theorem nD {n:Nat} (h0:0 < n) (lt:Nat→Nat→Bool):(qw n lt).Perm (aN n):=by
 have:good n (dw lt (kas_sort n)):=zW _ (w6 h0)
 have:=lX.mp this
 simpa [qw] using this
open D3
end XS
namespace XS
open PySem PySem.Spec PySem.W PyProof.Rows L2 My D3
theorem xg {P:Program} {w:World} {H:Hp} {h:Heap} {a:Addr} {o:HO} (x:gB P w H h a o):∃ u,h.get? a=some u:=by
 cases o with
 | lst xs=>obtain ⟨_,_,_,_,e⟩:=x;exact ⟨_,e⟩
 | tup xs=>obtain ⟨_,_,_,u,e,_⟩:=x;exact ⟨_,e⟩
 | dK kvs=>obtain ⟨_,_,_,_,u,_,_,e,_⟩:=x;exact ⟨_,e⟩
 | dT kvs=>obtain ⟨_,_,_,_,u,_,_,e,_⟩:=x;exact ⟨_,e⟩
 | set S n=>obtain ⟨u,_,_,_,e,_⟩:=x;exact ⟨_,e⟩
 | ins C dx fs=>obtain ⟨_,_,_,e,_⟩:=x;exact ⟨_,e⟩
 | own y=>exact x
 | xd fs=>obtain ⟨_,⟨u,_,_,e,_⟩,_⟩:=x;exact ⟨_,e⟩
 | met f y=>exact ⟨_,x⟩
 | rng lo hi=>obtain ⟨_,_,_,e⟩:=x;exact ⟨_,e⟩
 | frz u v=>exact ⟨_,x.1⟩
 | tbl q p=>obtain ⟨_,e,_⟩:=x;exact ⟨_,e⟩
 | ext φ=>exact x.2.1
section
variable {X:Cx} {pins:List (Addr × Obj)} {σ:L2.St} {H:Hp} {s:Shared}
theorem Rp {h:Heap} {L:Addr} {m m':Str→Option Value} (a:h.Ns L m) (b:h.Ns L m'):m=m':=by
 obtain ⟨o,es,ep,e,d,_,f⟩:=a
 obtain ⟨o',es',ep',e',d',_,f'⟩:=b
 rw [e] at e';cases e'
 rw [d] at d';cases d'
 funext x
 rw [← f,← f']
theorem Mu {h':Heap} {m:Str→Option Value} {D:Addr} {o:HO} (I:Inv X pins σ H s) (hm:s.heap.Ns X.env.locals m) (hm':h'.Ns X.env.locals m) (k:∀ b u,b ≠ X.env.locals→s.heap.get? b=some u→h'.get? b=some u)
 (hD:s.heap.get? D=none) (new:gB X.prog X.w (upd H D o) h' D o):Inv X pins σ (upd H D o) { s with heap:=h' }:=by
 have hn:H D=none:=by
  cases e:H D with
  | none=>rfl
  | some u =>
   obtain ⟨w,hw⟩:=xg (I.hok D u e)
   rw [hD] at hw;cases hw
 have ne:∀ {b u},H b=some u→b ≠ D:=fun e=>i_ e hn
 refine I.step (g':=s.gens) (d':=s.drawn) (t':=s.toks) (ch:=[]) (fun b hb=>by cases hb) (fun b u hL _ _ e _=>k b u hL e) (fun b u hL _ _ e _=>⟨u.slots,k b u hL e⟩) (fun b u _ e n=>?_) (fun b u _ e=>?_)
  (fun b xs e=>by rw [cM (ne e)];exact e) (fun b u v e=>by rw [cM (ne e)];exact e) (fun b q p e=>by rw [cM (ne e)];exact e) (fun m2 h2=>by rw [← Rp hm h2];exact hm') (fun b u e=>?_) I.bare
 ·rw [cM (fun z=>by rw [z,hD] at e;cases e)];exact n
 ·by_cases z:b=X.env.locals
  ·obtain ⟨w,_,_,hw,_⟩:=hm'
   exact ⟨w,by rw [z];exact hw⟩
  ·exact ⟨u,k b u z e⟩
 ·by_cases z:b=D
  ·subst z
   rw [d7] at e
   cases e
   exact new
  ·rw [cM z] at e
   refine (I.hok b u e).stay (fun c w hc q=>k c w (fun y=>?_) q) (fun c q=>by rw [cM (ne q)];exact q) fun c xs q=>by rw [cM (ne q)];exact q
   rcases hc with rfl | y2
   ·rw [y,I.free] at e;cases e
   ·rw [y,I.free] at y2;cases y2
end
section
variable {prog:Program} {w:World} {A:Around} {E:Value→Shared→Prop} {s:Shared}
end
end XS
namespace XS
open PySem PySem.Spec PySem.W PyProof.Rows L2 My D3
section
variable {X:Cx} {pins:List (Addr × Obj)} {σ:L2.St} {H:Hp} {s:Shared}
end
end XS
namespace XS
open PySem PySem.Spec PySem.W PyProof.Rows L2 My D3
section
variable {prog:Program} {w:World} {A:Around} {E:Value→Shared→Prop} {s:Shared}
end
section
variable {X:Cx}
end
end XS
namespace XS
open PySem PySem.Spec PySem.W PyProof.Rows L2 My D3
section
variable {K:PySem.W.Frag} {H:Hp}
theorem zY:∀ {l:List D},flats l=true→∀ i,flat (l.getD i .none)=true
 | [],_,i=>by simp [flat]
 | d :: l,h,0=>by rw [flats,aU] at h;exact h.1
 | d :: l,h,i + 1=>by
  rw [flats,aU] at h
  simpa using zY h.2 i
theorem DY:∀ {ys:List V} {l:List D} {ok:Ok} {pl:Bool},RAs K ok pl H ys l→∀ i,RA K ok pl H (ys.getD i .non) (l.getD i .none)
 | _,_,_,_,.nil,i=>by simp;exact .non
 | _,_,_,_,.cons a b,0=>a
 | _,_,_,_,.cons a b,i + 1=>by simpa using DY b i
end
end XS
namespace XS
open PySem PySem.Spec PySem.W PyProof.Rows
section
variable {prog:Program} {w:World} {A:Around} {E:Value→Shared→Prop} {s:Shared}
structure PL (h:Heap) (D I l:Addr) (its:Array Value) (vs:List (L2.Key × Value)) (i:Nat):Prop where
 iter:h.IsListIter I l i
 lst:h.IsList l its
 prs:∀ (j:Nat) (u:Value),its[j]? = some u→∃ (a:Addr) (n:Int) (t:Tok) (v:Value),u=Value.ref a∧IsTup h a #[Value.int n t,v]∧vs[j]? = some (Sum.inl n,v)∧a ≠ D∧a ≠ I
 ne:l ≠ D∧l ≠ I∧D ≠ I
end
end XS
namespace XS
open PySem PySem.Spec PySem.W PyProof.Rows
section
variable {prog:Program} {w:World} {A:Around} {E:Value→Shared→Prop} {s:Shared}
end
end XS
namespace XS
open PySem PySem.Spec PySem.W PyProof.Rows L2 My D3
section
variable {X:Cx} {pins:List (Addr × Obj)} {σ:L2.St} {H:Hp} {s:Shared}
end
end XS
namespace XS
open PySem PySem.Spec PySem.W PyProof.Rows L2 My D3
section
variable {X:Cx} {fl:List Fl} {a:Expr} {f:FE} {pos:Pos} {ta:TE}
end
end XS
namespace D3
open PySem
def isL:D→Bool
 | .list _=>true
 | _=>false
end D3
namespace D3
open PySem
noncomputable def vf:D→D→Option D:=fun x y=>if (SeqAt.shaped x && SeqAt.shaped y)=true then some (.bool (!PyData.eqv x y)) else @ite _ (x=y∧isL x=true∧x.depth ≤ 64∧noK x=true) (Classical.propDecidable _) (some (.bool false)) none
theorem D_ {x y d:D} (h:gNe x y=some d):vf x y=some d:=by
 unfold gNe at h
 unfold vf
 split at h
 ·next z=>rw [if_pos z];exact h
 ·cases h
theorem Jm {x:D} (hs:SeqAt.shaped x=false) (hb:isL x=true) (hd:x.depth ≤ 64) (hn:noK x=true):vf x x=some (.bool false):=by
 unfold vf
 rw [hs,if_neg (by decide),if_pos ⟨rfl,hb,hd,hn⟩]
end D3
namespace D3
open PySem
end D3
namespace D3
open PySem
end D3
namespace D3
open PySem
def dsB (S:List Int):D:=.dict (S.map fun i=>(.int i,.bool true))
def bsD:List (D × D)→Option (List Int)
 | []=>some []
 | (.int i,.bool true) :: r=>(bsD r).map (i :: ·)
 | _=>none
def FZ:D→Option (List Int)
 | .dict kvs=>bsD kvs
 | _=>none
def zZ:D→D→Option D:=fun y x=>(FZ x).bind fun S=>match y with
 | .int i=>some (.bool (decide (i ∈ S)))
 | .none=>some (.bool false)
 | _=>none
def B_ (S:List Int) (i:Int):List Int:=if i ∈ S then S else S++[i]
def xq (i:Nat) (fk:FE):FS:=fun δ=>(aD i δ).bind fun x=>(fk δ).bind fun y=>(FZ x).bind fun S=>match y with
 | .int k=>if S.length < 1000000 then some (.nx (δ.set i (some (.d (dsB (B_ S k)))))) else none
 | _=>none
theorem Ea:∀ S:List Int,bsD (S.map fun i=>((.int i,.bool true):D × D))=some S
 | []=>rfl
 | i :: S=>by
  rw [bH,bsD,Ea S]
  rfl
theorem yF (S:List Int):FZ (dsB S)=some S:=Ea S
end D3
namespace D3
open PySem
def isTup:D→Bool
 | .tuple _=>true
 | _=>false
def kc:D→Nat
 | .none=>0
 | .bool _=>1
 | .int _=>2
 | .str _=>3
 | _=>4
def Rq:D→D→Bool
 | .int i,.int j=>decide (i ≠ j)
 | _,_=>false
def unl (a b:D):Bool:=decide (kc a ≠ kc b) || ((!isTup a && isTup b) || Rq a b)
def apart (l m:List D):Bool:=decide (l.length ≠ m.length) || (l.zip m).any fun p=>unl p.1 p.2
mutual
def apD (m:List D):D→Bool
 | .list l=>apart l m && Ga m l
 | .tuple l=>Ga m l
 | .none=>true
 | .bool _=>true
 | .int _=>true
 | .str _=>true
 | .dict _=>true
def Ga (m:List D):List D→Bool
 | []=>true
 | x :: r=>apD m x && Ga m r
end
def apS (d:D):Option (Option U)→Bool
 | some (some (.d (.list m)))=>apD m d
 | _=>true
def noS:Option (Option U)→Bool
 | some (some (.d _))=>false
 | _=>true
def Eb (os ns:List Nat) (i:Nat) (fe:FE):FS:=fun δ=>if i < δ.length then (fe δ).bind fun d=>if ((os.all fun j=>apS d δ[j]?) && ns.all fun j=>noS δ[j]?)=true then some (.nx (δ.set i (some (.d d)))) else none else none
end D3
namespace L2
open PySem PySem.Spec PyProof.Rows
section
variable {κ:Type} [DecidableEq κ]
def rY (kvs:List (κ × V)) (k:κ):Option V:=(kvs.find? fun kv=>decide (kv.1=k)).map (·.2)
def putK (kvs:List (κ × V)) (k:κ) (v:V):List (κ × V) :=
 if (kvs.any fun kv=>decide (kv.1=k))=true then kvs.map (fun kv=>if kv.1=k then (kv.1,v) else kv) else kvs++[(k,v)]
theorem rZ {p:κ × V} {r:List (κ × V)} {k:κ} (e:p.1=k):rY (p :: r) k=some p.2:=by simp [rY,fX,e]
theorem su {p:κ × V} {r:List (κ × V)} {k:κ} (e:¬ p.1=k):rY (p :: r) k=rY r k:=by simp [rY,fX,e]
theorem z6 (k:κ):∀ kvs:List (κ × V),(kvs.any fun kv=>decide (kv.1=k))=(rY kvs k).isSome
 | []=>rfl
 | p :: r=>by
  rw [iQ]
  by_cases e:p.1=k
  ·simp only [rZ e,dTr e,Bool.true_or,Option.isSome_some]
  ·rw [su e,dFa e,Bool.false_or];exact z6 k r
theorem tV (kvs:List (κ × V)) (k:κ) (v:V):(putK kvs k v).length ≤ kvs.length + 1:=by
 unfold putK
 split
 ·rw [aL];omega
 ·rw [bK,bZ,iH];omega
theorem xR.isSome_eq {o:Option V} {u:Option Value} (r:xR o u):o.isSome=u.isSome:=by
 cases o with
 | none=>cases u with
  | none=>rfl
  | some _=>exact (show False from r).elim
 | some _=>cases u with
  | none=>exact (show False from r).elim
  | some _=>rfl
theorem xR.getD {o:Option V} {u:Option Value} {d:V} {d':Value} (r:xR o u) (rd:RelV d d'):RelV (o.getD d) (u.getD d'):=by
 cases o with
 | none=>cases u with
  | none=>exact rd
  | some _=>exact (show False from r).elim
 | some _=>cases u with
  | none=>exact (show False from r).elim
  | some _=>exact r
theorem KV.val {kvs:List (κ × V)} {vs:List (κ × Value)} (r:KV kvs vs) (k:κ):xR (rY kvs k) (valueAt vs k):=by
 unfold KV at r
 induction r with
 | nil=>exact True.intro
 | @cons p q ps qs h t ih =>
  obtain ⟨h1,h2⟩:=h
  by_cases e:p.1=k
  ·have e':q.1=k:=h1.symm.trans e
   have b:valueAt (q :: qs) k=some q.2:=by simp [valueAt,fX,e']
   rw [rZ e,b];exact h2
  ·have e':¬ q.1=k:=fun z=>e (h1.trans z)
   have b:valueAt (q :: qs) k=valueAt qs k:=by simp [valueAt,fX,e']
   rw [su e,b];exact ih
theorem KV.any {kvs:List (κ × V)} {vs:List (κ × Value)} (r:KV kvs vs) (k:κ):(kvs.any fun kv=>decide (kv.1=k))=vs.any fun kv=>decide (kv.1=k):=by
 unfold KV at r
 induction r with
 | nil=>rfl
 | cons h t ih=>rw [iQ,iQ,ih,h.1]
theorem KV.repl {kvs:List (κ × V)} {vs:List (κ × Value)} (r:KV kvs vs) (k:κ) {y:V} {u:Value} (ry:RelV y u) :
 KV (kvs.map fun kv=>if kv.1=k then (kv.1,y) else kv) (vs.map fun kv=>if kv.1=k then (kv.1,u) else kv):=by
 unfold KV at r ⊢
 induction r with
 | nil=>exact .nil
 | @cons p q ps qs h t ih =>
  rw [bH,bH]
  refine .cons ?_ ih
  obtain ⟨h1,h2⟩:=h
  by_cases e:p.1=k
  ·rw [if_pos e,if_pos (h1.symm.trans e)];exact ⟨h1,ry⟩
  ·rw [if_neg e,if_neg (fun z=>e (h1.trans z))];exact ⟨h1,h2⟩
theorem KV.put {kvs:List (κ × V)} {vs:List (κ × Value)} (r:KV kvs vs) (k:κ) {y:V} {u:Value} (ry:RelV y u):KV (putK kvs k y) (stored vs k u):=by
 unfold putK stored
 rw [r.any k]
 by_cases e:(vs.any fun kv=>decide (kv.1=k))=true
 ·rw [if_pos e,if_pos e];exact r.repl k ry
 ·rw [if_neg e,if_neg e];exact Paired.snoc r ⟨rfl,ry⟩
theorem KV.keys {kvs:List (κ × V)} {vs:List (κ × Value)} (r:KV kvs vs):kvs.map (·.1)=vs.map (·.1):=by
 unfold KV at r
 induction r with
 | nil=>rfl
 | cons h t ih=>rw [bH,bH,ih,h.1]
theorem KV.length {kvs:List (κ × V)} {vs:List (κ × Value)} (r:KV kvs vs):kvs.length=vs.length:=Paired.length r
end
theorem Jo {P:Program} {w:World} {k:Key} {u:Value} (r:RelV (kV k) u):(dD P w).is k u=true:=by
 cases k with
 | inl i=>obtain ⟨t,e⟩:=(show ∃ t,u=Value.int i t from r);subst e;exact zm P w i t
 | inr x=>obtain ⟨t,e⟩:=(show ∃ t,u=Value.str x t from r);subst e;exact zp P w x t
theorem xr {P:Program} {w:World}:∀ {ks:List Key} {us:List Value},Vals (ks.map kV) us→ItemsAre (dD P w) ks us
 | [],_,r=>by rw [qH] at r;cases r;exact .nil
 | k :: ks,_,r=>by
  rw [bH] at r
  cases r with
  | cons h t=>exact .cons (Jo h) (xr t)
abbrev KT (H:Hp):List (List Key × V)→List (List Key × Addr × Value)→Prop:=Paired fun p q=>p.1=q.1∧H q.2.1=some (.tup (p.1.map kV))∧RelV p.2 q.2.2
theorem KT.val {H:Hp} {kvs:List (List Key × V)} {xs:List (List Key × Addr × Value)} (r:KT H kvs xs) (k:List Key):xR (rY kvs k) ((atKey xs k).map (·.2)):=by
 induction r with
 | nil=>exact True.intro
 | @cons p q ps qs h t ih =>
  obtain ⟨h1,_,h2⟩:=h
  by_cases e:p.1=k
  ·have e':q.1=k:=h1.symm.trans e
   have b:atKey (q :: qs) k=some q.2:=by simp [atKey,fX,e']
   rw [rZ e,b];exact h2
  ·have e':¬ q.1=k:=fun z=>e (h1.trans z)
   have b:atKey (q :: qs) k=atKey qs k:=by simp [atKey,fX,e']
   rw [su e,b];exact ih
theorem KT.repl {H:Hp} {kvs:List (List Key × V)} {xs:List (List Key × Addr × Value)} (r:KT H kvs xs) (k:List Key) {y:V} {u:Value} (ry:RelV y u) :
 KT H (kvs.map fun kv=>if kv.1=k then (kv.1,y) else kv) (xs.map (putAt k u)):=by
 induction r with
 | nil=>exact .nil
 | @cons p q ps qs h t ih =>
  rw [bH,bH]
  refine .cons ?_ ih
  obtain ⟨h1,h2,h3⟩:=h
  unfold putAt
  by_cases e:p.1=k
  ·rw [if_pos e,if_pos (h1.symm.trans e)];exact ⟨h1,h2,ry⟩
  ·rw [if_neg e,if_neg (fun z=>e (h1.trans z))];exact ⟨h1,h2,h3⟩
theorem KT.put {H:Hp} {kvs:List (List Key × V)} {xs:List (List Key × Addr × Value)} (r:KT H kvs xs) (k:List Key) {b:Addr} {y:V} {u:Value} (hb:H b=some (.tup (k.map kV))) (ry:RelV y u) :
 KT H (putK kvs k y) (storedH xs k b u):=by
 have e:(kvs.any fun kv=>decide (kv.1=k))=(atKey xs k).isSome:=by
  rw [z6,(r.val k).isSome_eq,q_]
 unfold putK storedH
 rw [e]
 by_cases q:(atKey xs k).isSome=true
 ·rw [if_pos q,if_pos q];exact r.repl k ry
 ·rw [if_neg q,if_neg q];exact Paired.snoc r ⟨rfl,hb,ry⟩
theorem KT.keeps {H H':Hp} {kvs:List (List Key × V)} {xs:List (List Key × Addr × Value)} (r:KT H kvs xs) (ht:∀ b ys,H b=some (.tup ys)→H' b=some (.tup ys)):KT H' kvs xs :=
 Paired.mapP r fun _ _ z=>⟨z.1,ht _ _ z.2.1,z.2.2⟩
section
variable {P:Program} {w:World} {H:Hp} {h:Heap} {a:Addr}
theorem Pa {u:HO} (ok:HOk P w H h) (e:Rd H a u):gB P w H h a u:=e.ok ok
theorem Jp {kvs:List (Key × V)} (ok:HOk P w H h) (e:Rd H a (.dK kvs)):kvs.length ≤ sizeLine∧(a == sysModules)=false∧∃ vs,KV kvs vs∧h.DictOf (dD P w) a vs :=
 show gB P w H h a (.dK kvs) from Pa ok e
theorem U7 {kvs:List (Key × V)} (ok:HOk P w H h) (e:H a=some (.dK kvs)):kvs.length ≤ sizeLine∧(a == sysModules)=false∧∃ vs,KV kvs vs∧h.DictOf (dD P w) a vs:=Jp ok (.inl e)
theorem Ca {ks:List Key} (ok:HOk P w H h) (e:H a=some (.tup (ks.map kV))):(tupleKind (dD P w)).is h ks a:=by
 obtain ⟨_,its,r,o,h1,h2,n,h3⟩:=(show gB P w H h a (.tup (ks.map kV)) from ok a _ e)
 exact ⟨o,its.toArray,n,h1,h2,h3,by simpa using xr r⟩
theorem Pb {kvs:List (List Key × V)} (ok:HOk P w H h) (e:Rd H a (.dT kvs)):kvs.length ≤ sizeLine∧(a == sysModules)=false ∧
 ∃ xs,KT H kvs xs∧h.DictOfH (tupleKind (dD P w)) a xs:=by
 obtain ⟨z,y,xs,r,o,es,ep,h1,h2,h3,h4,h5⟩:=(show gB P w H h a (.dT kvs) from Pa ok e)
 refine ⟨z,y,xs,r,o,es,ep,h1,h2,h3,h4,fun x hx=>?_,h5⟩
 have all:∀ {l:List (List Key × V)} {m:List (List Key × Addr × Value)},KT H l m→∀ x ∈ m,(tupleKind (dD P w)).is h x.1 x.2.1:=by
  intro l m q
  induction q with
  | nil=>intro x hx;exact nomatch hx
  | @cons p q ps qs hq t ih =>
   intro x hx
   rcases aO.mp hx with e | hx
   ·subst e
    exact Ca ok (by rw [← hq.1];exact hq.2.1)
   ·exact ih x hx
 exact all r x hx
theorem U8 {kvs:List (List Key × V)} (ok:HOk P w H h) (e:H a=some (.dT kvs)):kvs.length ≤ sizeLine∧(a == sysModules)=false ∧
 ∃ xs,KT H kvs xs∧h.DictOfH (tupleKind (dD P w)) a xs:=Pb ok (.inl e)
end
def Rr (H:Hp) (a:Addr) (y:V) (r:Option V):Prop :=
 (∃ kvs k,Rd H a (.dK kvs)∧y=kV k∧r=rY kvs k)∨∃ kvs k b,Rd H a (.dT kvs)∧y = .ref b∧H b=some (.tup (k.map kV))∧r=rY kvs k
def Gb (H:Hp) (a:Addr) (y v:V) (H':Hp):Prop :=
 (∃ kvs k,H a=some (.dK kvs)∧y=kV k∧kvs.length < sizeLine∧H'=upd H a (.dK (putK kvs k v))) ∨
 ∃ kvs k b,H a=some (.dT kvs)∧y = .ref b∧H b=some (.tup (k.map kV))∧kvs.length < sizeLine∧H'=upd H a (.dT (putK kvs k v))
theorem Rr.t {H:Hp} {a b:Addr} {kvs:List (List Key × V)} {k:List Key} (e:H a=some (.dT kvs)) (eb:H b=some (.tup (k.map kV))):Rr H a (.ref b) (rY kvs k):=.inr ⟨kvs,k,b,.inl e,rfl,eb,rfl⟩
theorem Gb.k {H:Hp} {a:Addr} {kvs:List (Key × V)} {k:Key} {v:V} (e:H a=some (.dK kvs)) (hl:kvs.length < sizeLine):Gb H a (kV k) v (upd H a (.dK (putK kvs k v))):=.inl ⟨kvs,k,e,rfl,hl,rfl⟩
theorem Gb.t {H:Hp} {a b:Addr} {kvs:List (List Key × V)} {k:List Key} {v:V} (e:H a=some (.dT kvs)) (eb:H b=some (.tup (k.map kV))) (hl:kvs.length < sizeLine) :
 Gb H a (.ref b) v (upd H a (.dT (putK kvs k v))):=.inr ⟨kvs,k,b,e,rfl,eb,hl,rfl⟩
section
variable {X:Cx} {pins:List (Addr × Obj)} {σ:St} {H:Hp} {s:Shared} {a:Addr} {y v:V} {u r:Value} {o:Option V} {A:Around} {E:Value→Shared→Prop}
theorem WR {Q:Value→Shared→Prop} (hu:A.units + 1 < cLine) (I:Inv X pins σ H s) (g:Rr H a y o) (ry:RelV y u) (h:∀ s',Inv X pins σ H s'→Q (.bool o.isSome) s') :
 wpAny (model X.prog X.w) A (compareOp .In u (.ref a)) Q E s:=by
 rcases g with ⟨kvs,k,e,ey,l⟩ | ⟨kvs,k,b,e,ey,eb,l⟩
 ·subst ey
  obtain ⟨z,hd,vs,rel,dd⟩:=Jp I.hok e
  refine wpAny_in_of (Jo ry) hd dd.mapOf ?_
  rw [← (rel.val k).isSome_eq,← l]
  exact h _ (I.tok _)
 ·subst ey
  cases (show u=Value.ref b from ry)
  obtain ⟨z,hd,xs,rel,dd⟩:=Pb I.hok e
  refine wpAny_in_heap (tupleKind_room_in1 hu) (Ca I.hok eb) hd dd ?_
  have q:=(rel.val k).isSome_eq
  rw [q_] at q
  rw [← q,← l]
  exact h _ (I.tok _)
theorem Ec {h':Heap} {t':Nat} {ob:HO} (I:Inv X pins σ H s) (mu:Mut (H a)) (hs:Heap.SameBut a s.heap h') (he:∃ q,h'.get? a=some q) (new:gB X.prog X.w (upd H a ob) h' a ob) :
 Inv X pins σ (upd H a ob) { s with heap:=h',toks:=t' } :=
 I.write (x:=a) (e:=a) mu (.inl rfl) (fun b q hb z=>(hs.2 b hb).trans z) he new
theorem Rt {P:Program} {w:World} {H':Hp} {h':Heap} {kvs:List (Key × V)} {vs:List (Key × Value)} (z:kvs.length ≤ sizeLine) (hd:(a == sysModules)=false) (rel:KV kvs vs) (dd:h'.DictOf (dD P w) a vs) :
 gB P w H' h' a (.dK kvs):=⟨z,hd,vs,rel,dd⟩
theorem Gd {H':Hp} {Q:Unit→Shared→Prop} (hu:A.units + 1 < cLine) (I:Inv X pins σ H s) (g:Gb H a y v H') (ry:RelV y u) (rv:RelV v r) (h:∀ s',Inv X pins σ H' s'→Q () s') :
 wpAny (model X.prog X.w) A (setItem (.ref a) u r) Q E s:=by
 rcases g with ⟨kvs,k,e,ey,l,eH⟩ | ⟨kvs,k,b,e,ey,eb,l,eH⟩
 ·subst ey eH
  obtain ⟨z,hd,vs,rel,dd⟩:=U7 I.hok e
  have hz:vs.length ≤ sizeLine:=by rw [← rel.length];exact z
  have hl:(putK kvs k v).length ≤ sizeLine:=by have:=tV kvs k v;omega
  refine wpAny_setItem_pairs (hsz:=hz) (Jo ry) dd fun h' dd' hs=>h _ ?_
  have he:∃ q,h'.get? a=some q:=let ⟨q,_,_,hq,_⟩:=dd';⟨q,hq⟩
  exact Ec I (by rw [e];exact True.intro) hs he (Rt hl hd (rel.put k rv) dd')
 ·subst ey eH
  cases (show u=Value.ref b from ry)
  obtain ⟨z,hd,xs,rel,dd⟩:=U8 I.hok e
  have hz:xs.length ≤ sizeLine:=by rw [← Paired.length rel];exact z
  have hl:(putK kvs k v).length ≤ sizeLine:=by have:=tV kvs k v;omega
  refine wpAny_setItem_heap (hsz:=hz) (tupleKind_room_in1 hu) (Ca I.hok eb) dd fun h' dd' hs=>h _ ?_
  obtain ⟨q,es,ep,hq,h2,h3,h4,_,h5⟩:=dd'
  refine Ec I (by rw [e];exact True.intro) hs ⟨q,hq⟩ ⟨hl,hd,_,(rel.put k eb rv).keeps fun c ys ec=>?_,q,es,ep,hq,h2,h3,h4,h5⟩
  rw [cM (Dh ec e (fun z=>nomatch z))]
  exact ec
end
section
variable {X:Cx} {pins:List (Addr × Obj)} {σ:St} {H:Hp} {s:Shared} {a:Addr} {kvs:List (Key × V)} {k:Key} {u:Value} {A:Around} {E:Value→Shared→Prop}
end
section
variable {X:Cx} {o i e value:Expr} {pos pos' tpos:Pos} {td ty tv:TE}
end
section
variable {X:Cx} {pos:Pos}
end
structure M1 (X:Cx) (o:Expr) (m:Str) (apos:Pos) (e:Expr) (cpos:Pos):Prop where
 base:attributeBase o m X.env (eval o X.env)=eval o X.env
 few:((backTo cpos (starEach [e] X.env)).all (fun x=>!x.1) && (backToKw cpos (keywordEach [] X.env)).all (fun x=>x.1.isSome)
  && decide (([e]:List Expr).length + ([]:List Keyword).length + (if ([]:List Keyword).isEmpty then 0 else 1) < 30))=true
 line:(apos.endLine == cpos.line)=true
 trees:backTo cpos (starEach [e] X.env)=[(false,eval e X.env)]
structure M2 (X:Cx) (o:Expr) (m:Str) (apos:Pos) (e f:Expr) (cpos:Pos):Prop where
 base:attributeBase o m X.env (eval o X.env)=eval o X.env
 few:((backTo cpos (starEach [e,f] X.env)).all (fun x=>!x.1) && (backToKw cpos (keywordEach [] X.env)).all (fun x=>x.1.isSome)
  && decide (([e,f]:List Expr).length + ([]:List Keyword).length + (if ([]:List Keyword).isEmpty then 0 else 1) < 30))=true
 line:(apos.endLine == cpos.line)=true
 trees:backTo cpos (starEach [e,f] X.env)=[(false,eval e X.env),(false,eval f X.env)]
section
variable {X:Cx} {pins:List (Addr × Obj)} {σ:St} {H:Hp} {s:Shared} {a:Addr} {y d:V} {u r:Value} {o:Option V} {A:Around} {E:Value→Shared→Prop}
end
section
variable {X:Cx} {o e f:Expr} {apos cpos:Pos} {td ty tx:TE}
end
section
variable {X:Cx} {pins:List (Addr × Obj)} {σ:St} {H:Hp} {s:Shared} {a:Addr} {kvs:List (Key × V)} {A:Around} {E:Value→Shared→Prop}
end
section
variable {X:Cx} {pins:List (Addr × Obj)} {σ:St} {H:Hp} {s:Shared} {a:Addr} {y:V} {u:Value} {A:Around} {E:Value→Shared→Prop}
end
section
variable {κ:Type} [DecidableEq κ]
end
end L2
namespace XK
open PySem PySem.Spec PyProof.Rows L2 My D3
section
variable {K:PySem.W.Frag} {H:Hp}
end
section
variable {X:Cx} {fl:List Fl} {e a b c ke:Expr} {f fa fb fc fk:FE} {pos:Pos}
end
end XK
namespace XK
open PySem PySem.Spec PyProof.Rows L2 My D3
theorem hu1 {n:Nat} (h:n + 64 < cLine):n + 1 < cLine:=by omega
section
variable {K:PySem.W.Frag} {fl:List Fl}
end
def U9:V→V→V→Hp→(Hp→Prop)→Prop:=fun o i v H Q=>∃ p kvs k,o = .ref p∧i=kV k∧H p=some (.dK kvs)∧kvs.length < sizeLine∧Q (upd H p (.dK (putK kvs k v)))
section
variable {X:Cx} {fl:List Fl} {e a b c ke:Expr} {f fa fb fc fk:FE} {pos:Pos}
theorem Jq (hu:X.A.units + 1 < cLine):Qn X U9:=by
 intro pins s σ H o i v ov iv u Q I ro ri rv h
 obtain ⟨p,kvs,k,rfl,rfl,hp,hl,q⟩:=h
 cases ro
 exact Gd hu I (Gb.k hp hl) ri rv fun s' I'=>⟨_,I',q⟩
def U_ (K:PySem.W.Frag):R2:=fun x y H Q=>QJ K x y H Q∨∃ ds,RA K ok1 true H x (.list ds)∧RA K ok1 true H y (.list ds)∧(PyData.list ds).depth ≤ 64∧zP ds=true∧Q (.bl false) H
theorem Jr (hu:X.A.units + 64 < cLine):OpR X (compareOp .NotEq) (U_ X.K):=by
 intro pins s σ H x y v u Q I rx ry h
 rcases h with h | ⟨ds,r1,r2,hd,hn,q⟩
 ·exact qd hu pins s σ H x y v u Q I rx ry h
 ·obtain ⟨a,xs,rfl,s1,q1⟩:=r1.lstE
  obtain ⟨b,ys,rfl,s2,q2⟩:=r2.lstE
  cases rx;cases ry
  obtain ⟨its,v1,p1,z1⟩:=I.list s1
  obtain ⟨its2,v2,p2,z2⟩:=I.list s2
  have hd':(PyData.list ds).depth=PyData.depthAll ds + 1:=by simp [PyData.depth]
  have l1:its.length=ds.length:=by rw [← v1.length,q1.length]
  have l2:its2.length=ds.length:=by rw [← v2.length,q2.length]
  have R:=SeqAt.RcNeAt.lists (A:=X.A) (e:=fun _=>true) p1.isList p2.isList (by rw [aZ,aZ,l1,l2]) (by omega) (fun j g1 g2=>nq I ds q1 q2 v1 v2 X.A.in1 (by simp only [Around.in1_units];omega) hn j (by simpa using g1) (by simpa using g2))
  rw [show (!(aN its.toArray.size).all (fun _=>true))=false by simp] at R
  exact R _ _ _ _ ⟨.bl false,H,I,rfl,q⟩
theorem Pg {K:PySem.W.Frag}:BrO K (U_ K) vf:=by
 intro H x y dx dy d Q rx ry e q
 unfold vf at e
 by_cases z:(SeqAt.shaped dx && SeqAt.shaped dy)=true
 ·rw [if_pos z] at e
  cases e
  rw [aU] at z
  exact .inl ⟨dx,dy,rx.rd (SeqAt.canLay_of_shaped z.1),ry.rd (SeqAt.canLay_of_shaped z.2),z.1,z.2,q _ rfl (.bl _)⟩
 ·rw [if_neg z] at e
  split at e
  ·next c =>
   obtain ⟨c1,c2,c3,c4⟩:=c
   subst c1
   cases e
   cases dx <;> first | (cases c2;done) | skip
   exact .inr ⟨_,rx,ry,c3,c4,q _ rfl (.bl _)⟩
  ·cases e
end
end XK
namespace D3
open PySem
def gU:D→D→Option D:=fun x y=>match x,y with
 | .list l,.bool k=>(kO l).bind fun bs=>some (.int (bs.count k:Nat))
 | _,_=>none
def Mv:List D→Option D:=fun l=>match l with
 | [.int i]=>if i.natAbs.log2 < 1920 then some (.str (Str.ofString (toString i))) else none
 | _=>none
end D3
namespace XN
open PySem PySem.Spec PyProof.Rows L2 My D3
section
variable {X:Cx}
theorem xu:∀ {bs:List Bool} {its:List Value},Vals (bs.map V.bl) its→its=bs.map Value.bool
 | [],_,.nil=>rfl
 | b :: r,_,.cons h t=>by
  cases h
  rw [xu t]
  rfl
theorem Js:MtR X "list.count" (fun x xs H Q=>∃ (p:Addr) (bs:List Bool) (k:Bool),x = .ref p∧xs=[.bl k]∧SqL X.K H p (bs.map V.bl)∧Q (.int (bs.count k:Nat)) H):=by
 intro pins s σ H x xs v us Q I rx rv h
 obtain ⟨p,bs,k,rfl,rfl,hx,q⟩:=h
 cases rx
 obtain ⟨u,rfl,ru⟩:=vals1 rv
 cases ru
 obtain ⟨its,rvs,pl,hz⟩:=I.list hx
 obtain rfl:=xu rvs
 obtain ⟨⟨cls,dd,data,sl⟩,ho,hc,n,hd⟩:=id pl.isList
 simp only at hc hd
 subst hc hd
 have key:∀ bs:List Bool,(bs.map Value.bool).countP (isBoolOf k)=bs.count k:=fun bs=>by
  rw [List.countP_map]
  rfl
 refine call_meets PySem.F.slot_list_count ⟨_,ho,rfl⟩ PySem.F.entry_list_count (PySem.F.args_list_count_2 _ _)
  (PySem.SeqAt.list_countAt p (bs.map Value.bool).toArray n dd sl (.bool k) (isBoolOf k)) ⟨ho,fun y hy=>?_,?_⟩
 ·obtain ⟨b,_,rfl⟩:=cT.mp (List.mem_toArray.mp hy)
  exact PySem.SeqAt.EqAt.bool_bool b k
 ·refine ⟨.int (bs.count k:Nat),H,I.tok _,⟨s.toks,?_⟩,q⟩
  show Value.int ((((bs.map Value.bool).toArray.toList.countP (isBoolOf k)):Nat):Int) _=_
  rw [show (bs.map Value.bool).toArray.toList=bs.map Value.bool from rfl,key]
theorem Cd {fl:List Fl} {a e:Expr} {f fe:FE} {apos cpos:Pos} (h:DE X fl .P a f) (h2:DE X fl .P e fe)
 (hbase:attributeBase a "count" X.env (eval a X.env)=eval a X.env:=by rfl)
 (hfew:((backTo cpos (starEach [e] X.env)).all (fun x=>!x.1) && (backToKw cpos (keywordEach [] X.env)).all (fun x=>x.1.isSome)
  && decide (([e]:List Expr).length + ([]:List Keyword).length + (if ([]:List Keyword).isEmpty then 0 else 1) < 30))=true:=by rfl)
 (hline:(apos.endLine == cpos.line)=true:=by rfl) (hst:starEach [e] X.env=(false,eval e X.env) :: starEach [] X.env:=by exact fD rfl) (hplain:(backTo cpos (starEach [] X.env)).any (·.1)=false:=by rfl) :
 DE X fl .FC (.Call (.Attribute a "count" apos) [e] [] cpos) (dOp gU f fe) :=
 PE.imp (Hs PySem.F.plainAttrs_list PySem.F.slot_list_count PySem.F.type_list_count Js h (iu h2 lZ hst) hbase hfew hline hst hplain) fun σ H Q hq=>by
 obtain ⟨G,ow,δ,d,R,hf,q⟩:=hq
 obtain ⟨x,e1,hf1⟩:=bind1 hf
 obtain ⟨y,e2,e3⟩:=bind1 hf1
 unfold gU at e3
 split at e3
 ·next l k =>
  cases e4:kO l with
  | none=>rw [e4] at e3;cases e3
  | some bs =>
   rw [e4,aH] at e3
   cases e3
   refine ⟨G,ow,δ,_,R,e1,fun v H1 s1 r1=>?_⟩
   have r1':=r1
   obtain ⟨p,ys,rfl,hx,hr⟩:=r1.lstE
   refine ⟨.inl ⟨rfl,_,hx⟩,G,ow,δ,_,R.grow s1,e2,fun u H2 s2 r2=>?_⟩
   obtain rfl:=RA.blE r2
   obtain ⟨p',ys',ep,hx',hr'⟩:=(RA.same s2 r1').lstE
   cases ep
   obtain rfl:=sS e4 hr'
   exact ⟨p,bs,k,rfl,rfl,hx',q _ H2 (s1.trans s2) (.inl ⟨rfl,.int _⟩)⟩
 ·cases e3
theorem Ge:mL X (.type "str") (fun xs H Q=>∃ i:Int,xs=[.int i]∧i.natAbs.log2 < 1920∧Q (.str (Str.ofString (toString i))) H):=by
 intro pins s σ H xs us Q I r h
 obtain ⟨i,rfl,hl,q⟩:=h
 obtain ⟨u,rfl,t,rfl⟩:=vals1 r
 exact PySem.P.str_of_int hl ⟨.str _,H,I.tok _,⟨_,rfl⟩,q⟩
theorem Mw {fl:List Fl} {e:Expr} {fa:FA} {p pos:Pos} (ha:DB X fl .P [e] fa) (hg:Gl X "str") (hm:X.mg "str" = none)
 (he:starEach [e] X.env=(false,eval e X.env) :: starEach [] X.env:=by exact fD rfl) (hpl:(backTo pos (starEach [] X.env)).any (·.1)=false:=by exact oZ rfl):DE X fl .FC (.Call (.Name "str" p) [e] [] pos) (dCall Mv fa) :=
 PE.imp (sJ Ge hg hm boot_str ha (by decide) (by decide) he hpl) fun σ H Q h=>by
 obtain ⟨G,ow,δ,d,R,hf,q⟩:=h
 obtain ⟨ds,e1,e2⟩:=bind1 hf
 refine ⟨G,ow,δ,ds,R,e1,fun vs H' s r'=>?_⟩
 unfold Mv at e2
 split at e2
 ·next i =>
  by_cases hl:i.natAbs.log2 < 1920
  ·rw [if_pos hl] at e2
   cases e2
   cases r' with
   | cons r1 r2 =>
    cases r2
    obtain rfl:=RA.intE r1
    exact ⟨i,rfl,hl,q _ H' s (.inl ⟨rfl,.str _⟩)⟩
  ·rw [if_neg hl] at e2;cases e2
 ·cases e2
end
end XN
namespace XQ
open PySem PySem.Spec PyProof.Rows L2 My D3
section
variable {K:PySem.W.Frag} {fl:List Fl}
def kpF (os ns:List Nat) (fl:List Fl):Bool:=(aN fl.length).all fun j=>match fl[j]? with
 | some .O=>os.contains j
 | some .N=>ns.contains j
 | some .A=>true
 | _=>false
theorem yG {os ns:List Nat} {j:Nat} {c:Fl} (h:kpF os ns fl=true) (e:fl[j]? = some c):c = .A∨(c = .O∧j ∈ os)∨(c = .N∧j ∈ ns):=by
 have hj:j < fl.length:=by
  rcases lq j fl.length with z | z
  ·exact z
  ·rw [bD z] at e;cases e
 have:=fj.mp h j (cA.mpr hj)
 rw [e] at this
 cases c with
 | A=>exact .inl rfl
 | O=>exact .inr (.inl ⟨rfl,by simpa using this⟩)
 | N=>exact .inr (.inr ⟨rfl,by simpa using this⟩)
 | L=>cases this
 | M=>cases this
theorem Va {os ns:List Nat} {G:Gh} {ow:Ow} {σ:L2.St} {H:Hp} {δ:DS} (R:Rel K fl G ow σ H δ) (hk:kpF os ns fl=true) (hn:(ns.all fun j=>noS δ[j]?)=true):Rel K fl G ⟨ow.s,fun _=>[]⟩ σ H δ:=by
 have sub:∀ b,okA ow b→okA ⟨ow.s,fun _=>[]⟩ b:=fun b z=>⟨z.1,fun i q=>nomatch q⟩
 refine ⟨R.s0,R.s1,R.len,fun k a h=>?_,R.inj,R.pin,fun k d h1 h2 h3=>?_,R.oo,(fun _ _ h=>by cases h),(fun _ _ _ h=>by cases h),(fun _ _ _ h=>by cases h),fun i h=>?_,fun i d h1 h2=>?_⟩
 ·obtain ⟨h0,hf,xs,ds,h1,h2,h3,h4⟩:=R.own k a h
  exact ⟨h0,hf,xs,ds,h1,h2,h3.imp sub (fun z=>z),h4⟩
 ·obtain ⟨v,h4,h5⟩:=R.dat k d h1 h2 h3
  exact ⟨v,h4,h5.imp sub (fun z=>z)⟩
 ·rcases yG hk h with z | ⟨z,_⟩ | ⟨z,_⟩ <;> cases z
 ·cases e:fl[i]? with
  | none=>rw [e] at h1;cases h1
  | some c =>
   rw [e] at h1
   rcases yG hk e with rfl | ⟨rfl,_⟩ | ⟨rfl,z⟩
   ·cases h1
   ·cases h1
   ·have:=fj.mp hn i z
    rw [h2] at this
    cases this
theorem Gf {H H':Hp} {v:V} {d:D} {ds:List D} {ok ok':Ok} {pl pl':Bool} (s:Same H H') (hK:∀ b o,K.lookup b=some o→H b=none) (h1:RA K ok pl H' v d) (h2:RA K ok' pl' H v (.tuple ds)):isTup d=true:=by
 obtain ⟨b,xs,rfl,h3,_⟩:=h2.tupE0
 have h4:H' b=some (.tup xs):=s _ _ h3
 cases h1 with
 | lst e _ _=>rw [h4] at e;cases e
 | lsk e _ _ =>
  rcases e with ⟨o,e⟩ | ⟨o,_,_,e,_⟩
  ·rw [h4] at e;cases e
  ·have:=hK b o e
   have h3:H b=some (.tup xs):=h3
   rw [h3] at this
   cases this
 | tup _ _=>rfl
 | dic e g _ =>
  rw [h4] at e
  injection e with e
  rcases g.or with ⟨_,z⟩ | ⟨_,z⟩ <;> (rw [z] at e;cases e)
 | dik e _ _=>rw [h4] at e;cases e
def kcV:V→Nat
 | .non=>0
 | .bl _=>1
 | .int _=>2
 | .str _=>3
 | _=>4
theorem Ph {H:Hp} {v:V} {d:D} {ok:Ok} {pl:Bool} (h:RA K ok pl H v d):kcV v=kc d:=by cases h <;> rfl
theorem Ru {H H':Hp} {v:V} {a b:D} {ok ok':Ok} {pl pl':Bool} (s:Same H H') (hK:∀ b o,K.lookup b=some o→H b=none) (h:unl a b=true) (h1:RA K ok pl H' v a) (h2:RA K ok' pl' H v b):False:=by
 unfold unl at h
 rw [fW,fW,aU] at h
 rcases h with h | ⟨z1,z2⟩ | h
 ·exact of_decide_eq_true h ((Ph h1).symm.trans (Ph h2))
 ·cases b with
  | tuple ds =>
   rw [Gf s hK h1 h2] at z1
   cases z1
  | _=>cases z2
 ·unfold Rq at h
  split at h
  ·have e1:=RA.intE h1
   have e2:=RA.intE h2
   rw [e1] at e2
   cases e2
   exact of_decide_eq_true h rfl
  ·cases h
theorem xG {H H':Hp} {ok ok':Ok} {pl pl':Bool} (s:Same H H') (hK:∀ b o,K.lookup b=some o→H b=none):∀ {xs:List V} {l m:List D},((l.zip m).any fun p=>unl p.1 p.2)=true→RAs K ok pl H' xs l→RAs K ok' pl' H xs m→False
 | _,_,_,h,.nil,.nil=>by cases h
 | _,_,_,h,.cons e1 r1,.cons e2 r2=>by
  rw [List.zip_cons_cons,iQ,fW] at h
  rcases h with h | h
  ·exact Ru s hK h e1 e2
  ·exact xG s hK h r1 r2
theorem Jt {H H':Hp} {xs:List V} {l m:List D} {ok ok':Ok} {pl pl':Bool} (s:Same H H') (hK:∀ b o,K.lookup b=some o→H b=none) (h:apart l m=true) (h1:RAs K ok pl H' xs l) (h2:RAs K ok' pl' H xs m):False:=by
 unfold apart at h
 rw [fW] at h
 rcases h with h | h
 ·exact of_decide_eq_true h (h1.length.symm.trans h2.length)
 ·exact xG s hK h h1 h2
theorem Vb {os ns:List Nat} {G:Gh} {ow:Ow} {σ:L2.St} {H H':Hp} {δ:DS} {v:V} {d:D} (R:Rel K fl G ow σ H δ) (hk:kpF os ns fl=true) (ho:∀ j ∈ os,apS d δ[j]? = true) (hn:∀ i,ow.n i=[]) (s:Same H H') (hK:∀ b o,K.lookup b=some o→H b=none) (r:RA K ok1 true H' v d):RA K (okA ow) true H' v d:=by
 have key:∀ j a,ow j=some a→∃ xs m,H a=some (.lst xs)∧RAs K (okA ow) true H xs m∧apD m d=true:=fun j a h=>by
  obtain ⟨_,hf,xs,ds,h1,h2,h3,h4⟩:=R.own j a h
  refine ⟨xs,ds,h2,h3,?_⟩
  rcases hf with ⟨hf,_⟩ | ⟨hf,_⟩
  ·rcases yG hk hf with z | ⟨_,z⟩ | ⟨z,_⟩
   ·cases z
   ·have:=ho j z
    rw [h4] at this
    exact this
   ·cases z
  ·rcases yG hk hf with z | ⟨z,_⟩ | ⟨z,_⟩ <;> cases z
 have all:=RA.ind (K:=K) (ok:=ok1) (pl:=true) (H:=H') (P:=fun v d=>RA K ok1 true H' v d∧((∀ j a,ow j=some a→∃ xs m,H a=some (.lst xs)∧RAs K (okA ow) true H xs m∧apD m d=true)→RA K (okA ow) true H' v d))
  (Q:=fun vs ds=>RAs K ok1 true H' vs ds∧((∀ j a,ow j=some a→∃ xs m,H a=some (.lst xs)∧RAs K (okA ow) true H xs m∧Ga m ds=true)→RAs K (okA ow) true H' vs ds))
  ⟨.non,fun _=>.non⟩ (fun b=>⟨.bl b,fun _=>.bl b⟩) (fun i=>⟨.int i,fun _=>.int i⟩) (fun x=>⟨.str x,fun _=>.str x⟩)
  (fun {a xs ds} e k q=>⟨.lst e k q.1,fun h=>.lst e ⟨fun j z=>by
   obtain ⟨ys,m,y1,y2,y3⟩:=h j a z
   have:H' a=some (.lst ys):=s _ _ y1
   rw [e] at this
   cases this
   rw [apD,aU] at y3
   exact Jt s hK y3.1 q.1 y2,fun i z=>by rw [hn i] at z;cases z⟩ (q.2 fun j a' z=>by
    obtain ⟨ys,m,y1,y2,y3⟩:=h j a' z
    rw [apD,aU] at y3
    exact ⟨ys,m,y1,y2,y3.2⟩)⟩)
  (fun {a xs ds} e k q=>⟨.lsk e k q.1,fun h=>.lsk e k (q.2 fun j a' z=>by
   obtain ⟨ys,m,y1,y2,y3⟩:=h j a' z
   rw [apD,aU] at y3
   exact ⟨ys,m,y1,y2,y3.2⟩)⟩)
  (fun {a xs ds} e q=>⟨.tup e q.1,fun h=>.tup e (q.2 fun j a' z=>by
   obtain ⟨ys,m,y1,y2,y3⟩:=h j a' z
   rw [apD] at y3
   exact ⟨ys,m,y1,y2,y3⟩)⟩)
  (fun {a u kvs} e g k=>⟨.dic e g k,fun h=>.dic e g ⟨fun j z=>by
   obtain ⟨ys,m,y1,_⟩:=h j a z
   have:H' a=some (.lst ys):=s _ _ y1
   rw [e] at this
   injection this with this
   rcases g.or with ⟨_,z⟩ | ⟨_,z⟩ <;> (rw [z] at this;cases this),fun i z=>by rw [hn i] at z;cases z⟩⟩)
  (fun e g k=>⟨.dik e g k,fun _=>.dik e g k⟩) ⟨.nil,fun _=>.nil⟩
  (fun {v d vs ds} e q=>⟨.cons e.1 q.1,fun h=>.cons (e.2 fun j a z=>by
   obtain ⟨ys,m,y1,y2,y3⟩:=h j a z
   rw [Ga,aU] at y3
   exact ⟨ys,m,y1,y2,y3.1⟩) (q.2 fun j a z=>by
   obtain ⟨ys,m,y1,y2,y3⟩:=h j a z
   rw [Ga,aU] at y3
   exact ⟨ys,m,y1,y2,y3.2⟩)⟩)
 exact (all.1 r).2 key
end
theorem Mx {X:Cx} {fl:List Fl} {os ns:List Nat} {e:Expr} {f:FE} {pos:Pos} {i:Nat} {x:Str} {pos':Pos} (hk:kpF os ns fl=true) (hfl:fl[i]? = some .A) (hN:X.N.Nodup) (hi:X.N[i]? = some x) (hv:X.env.scope.names.lookup x=some .local∨X.env.scope.names.lookup x=some .cell) (h:DE X fl .P e f)
 (hs:swapsWith e (some (.Name x pos')) pos.line X.env=pure false:=by rfl) (hfn:X.fn x=true∨X.env.scope.names.lookup x=some .local:=by first | exact .inl rfl | exact .inr rfl) :
 DS1 X fl (.Assign [.Name x pos'] e pos) (Eb os ns i f):=fun pins s σ H Dn I h'=>uF (i:=i) hN hi hv h hs hfn pins s σ H Dn I (by
 obtain ⟨G,ow,δ,o,R,hf,q⟩:=h'
 unfold Eb at hf
 by_cases hl:i < δ.length
 ·rw [if_pos hl] at hf
  obtain ⟨d,e1,e2⟩:=bind1 hf
  by_cases c:((os.all fun j=>apS d δ[j]?) && ns.all fun j=>noS δ[j]?)=true
  ·rw [if_pos c] at e2
   cases e2
   rw [aU] at c
   have R2:=Va R hk c.2
   refine ⟨G,_,δ,d,R2,e1,fun v H' s' r=>q _ _ H' ((R2.grow s').setA hfl (nY R hl) (Vb R2 hk (fun j hj=>fj.mp c.1 j hj) (fun _=>rfl) s' (fun b o z=>(I.bs b o (I.mod.kin b o z)).2) r))⟩
  ·rw [if_neg c] at e2;cases e2
 ·rw [if_neg hl] at hf;cases hf)
end XQ
namespace XB
open PySem PySem.Spec PyProof.Rows L2 My D3 XK
def nIs:Option Key→Value→Bool
 | none,.none=>true
 | none,_=>false
 | some k,v=>oA k v
def nH (w:World):Option Key→Int
 | none=>0xFCA86420
 | some k=>TX w k
theorem kj {v:Value} (h:nIs none v=true):v = .none:=by
 cases v <;> first | rfl | cases h
theorem Gg {P:Program} {w:World} {A:Around} {E:Value→Shared→Prop} {s:Shared} {Q:Int→Shared→Prop} (h:Q 0xFCA86420 { s with toks:=s.toks + 1 }):wpAny (model P w) A (pyHash .none) Q E s :=
 PySem.W.pyHash_slot (T := "NoneType") rfl F.slot_NoneType_hash F.entry_NoneType_hash (F.args_NoneType_hash_1 _) (beq_builtin_none _) (.inl rfl) (wpAny_bind (wpAny_pure (wpAny_bind (wpAny_mkInt (wpAny_pure ⟨_,_,rfl,h⟩)))))
theorem Mz {P:Program} {w:World} {A:Around} {E:Value→Shared→Prop} {s:Shared} {Q:Bool→Shared→Prop} (h:Q true s):wpAny (model P w) A (eqBool .none .none) Q E s:=by
 unfold eqBool
 refine wpAny_holding ?_
 refine wpAny_ite_split (fun _=>wpAny_bind (wpAny_rule (wpAny_pure h))) (fun z=>absurd rfl z)
def Pj (P:Program) (w:World):PySem.KeyKind P w (Option Key) where
 is:=nIs
 hash:=nH w
 inj:=fun v a b ha hb=>by
  cases a with
  | none =>
   cases b with
   | none=>rfl
   | some k =>
    rw [kj ha] at hb
    rcases dX (show oA k .none=true from hb) with ⟨i,t,_,e⟩ | ⟨x,t,_,e⟩ <;> cases e
  | some k =>
   cases b with
   | none =>
    rw [kj hb] at ha
    rcases dX (show oA k .none=true from ha) with ⟨i,t,_,e⟩ | ⟨x,t,_,e⟩ <;> cases e
   | some l=>rw [(dD P w).inj v k l ha hb]
 byValue:=fun k v h=>by
  cases k with
  | none=>rw [kj h];rfl
  | some k=>exact (dD P w).byValue k v h
 pyHash:=fun {A E s k v Q} h q=>by
  cases k with
  | none=>rw [kj h];exact Gg q
  | some k=>exact (dD P w).pyHash (k:=k) h q
 eqBool:=fun {A E s a b u v Q} ha hb q=>by
  cases a with
  | none =>
   rw [kj ha]
   cases b with
   | none=>rw [kj hb];exact Mz q
   | some k =>
    rcases dX (show oA k v=true from hb) with ⟨i,t,_,rfl⟩ | ⟨x,t,_,rfl⟩
    ·exact PySem.SeqAt.EqAt.none_int i t P w E Q q
    ·exact PySem.SeqAt.EqAt.none_str x t P w E Q q
  | some k =>
   cases b with
   | none =>
    rw [kj hb]
    rcases dX (show oA k u=true from ha) with ⟨i,t,_,rfl⟩ | ⟨x,t,_,rfl⟩
    ·exact PySem.SeqAt.EqAt.int_none i t P w E Q q
    ·exact PySem.SeqAt.EqAt.str_none x t P w E Q q
   | some l =>
    have e:decide (some k=some l)=decide (k=l):=by simp
    exact (dD P w).eqBool (a:=k) (b:=l) ha hb (e ▸ q)
 «strs»:=fun k x t v h=>by
  cases k with
  | none=>cases h
  | some k=>exact (dD P w).«strs» k x t v h
theorem map_none {P:Program} {w:World} {h:Heap} {a:Addr} {vs:List (Key × Value)} (d:h.DictOf (dD P w) a vs):h.MapOf (Pj P w) a fun k=>match k with | none=>none | some k=>valueAt vs k:=by
 obtain ⟨o,es,ep,h1,h2,h3,h4,h5⟩:=d.mapOf
 refine ⟨o,es,ep,h1,h2,h3,fun e he=>?_,fun k=>?_⟩
 ·obtain ⟨k,k1,k2⟩:=h4 e he
  exact ⟨some k,k1,k2⟩
 ·cases k with
  | some k=>exact h5 k
  | none =>
   show findBy nIs es none=none
   unfold findBy
   rw [Option.map_eq_none_iff,Array.find?_eq_none]
   intro e he z
   obtain ⟨k,k1,_⟩:=h4 e he
   rw [kj z] at k1
   rcases dX (show oA k .none=true from k1) with ⟨i,t,_,e⟩ | ⟨x,t,_,e⟩ <;> cases e
theorem Gi {X:Cx} {pins:List (Addr × Obj)} {σ:L2.St} {H:Hp} {s:Shared} {a:Addr} {kvs:List (Key × V)} {A:Around} {E:Value→Shared→Prop} {Q:Value→Shared→Prop} (I:Inv X pins σ H s) (g:Rd H a (.dK kvs)) (h:∀ s',Inv X pins σ H s'→Q (.bool false) s') :
 wpAny (model X.prog X.w) A (compareOp .In .none (.ref a)) Q E s:=by
 obtain ⟨z,hd,vs,rel,dd⟩:=Jp I.hok g
 exact wpAny_in_of (knd:=Pj X.prog X.w) (k:=none) rfl hd (map_none dd) (h _ (I.tok _))
def dbI (S:List Int):List (Key × V):=S.map fun i=>(.inl i,.bl true)
def Vc:R2:=fun x y H Q=>∃ p kvs,y = .ref p∧Rd H p (.dK kvs)∧((x = .non∧Q (.bl false) H)∨∃ k,x=kV k∧Q (.bl (rY kvs k).isSome) H)
theorem Rv {X:Cx} (hu:X.A.units + 64 < cLine):OpR X (compareOp .In) Vc:=by
 intro pins s σ H x y v u Q I rx ry h
 obtain ⟨p,kvs,rfl,g,h⟩:=h
 obtain rfl:u=Value.ref p:=ry
 rcases h with ⟨rfl,q⟩ | ⟨k,rfl,q⟩
 ·obtain rfl:v=Value.none:=rx
  exact Gi I g fun s' I'=>⟨.bl false,H,I',rfl,q⟩
 ·exact WR (by omega) I (.inl ⟨kvs,k,g,rfl,rfl⟩) rx fun s' I'=>⟨.bl (rY kvs k).isSome,H,I',rfl,q⟩
theorem Ju:∀ {kvs:List (D × D)} {S:List Int},bsD kvs=some S→dk0 kvs=dbI S
 | [],S,h=>by cases h;rfl
 | (a,b) :: r,S,h=>by
  unfold bsD at h
  split at h
  ·next e=>cases e
  ·next i r' e =>
   cases e
   cases e3:bsD r with
   | none=>rw [e3] at h;cases h
   | some S' =>
    rw [e3] at h
    cases h
    rw [dk0,Ju e3]
    rfl
  ·cases h
theorem yH:∀ {kvs:List (D × D)} {S:List Int},bsD kvs=some S→vX kvs=true
 | [],_,_=>rfl
 | (a,b) :: r,S,h=>by
  unfold bsD at h
  split at h
  ·next e=>cases e
  ·next e =>
   cases e
   cases e3:bsD r with
   | none=>rw [e3] at h;cases h
   | some S=>exact (show vX r=true from yH e3)
  ·cases h
theorem Ce {kvs:List (D × D)} {S:List Int} (h:bsD kvs=some S):dh0 kvs = .dK (dbI S):=by
 rw [← Ju h]
 cases kvs with
 | nil=>rfl
 | cons q r =>
  obtain ⟨k,v⟩:=q
  unfold dh0
  cases k with
  | int i=>rfl
  | _=>unfold bsD at h;cases h
theorem MF {K:PySem.W.Frag} {ok:Ok} {pl:Bool} {H:Hp} {v:V} {x:D} {S:List Int} (e:FZ x=some S) (r:RA K ok pl H v x):∃ a,v = .ref a∧L2.Rd H a (.dK (dbI S)):=by
 cases x with
 | dict kvs =>
  obtain ⟨a,rfl,h⟩:=r.dicE (yH e)
  rw [Ce e] at h
  exact ⟨a,rfl,h⟩
 | _=>cases e
theorem Jv:∀ (S:List Int) (i:Int),(rY (dbI S) (Sum.inl i)).isSome=decide (i ∈ S)
 | [],i=>rfl
 | q :: S,i=>by
  unfold dbI
  rw [bH]
  by_cases h:q=i
  ·subst h
   rw [rZ rfl]
   simp
  ·rw [su (fun z=>h (by injection z))]
   have:=Jv S i
   unfold dbI at this
   rw [this]
   have h2:¬ i=q:=fun z=>h z.symm
   simp [h2]
theorem Rw (S:List Int) (i:Int):putK (dbI S) (Sum.inl i) (.bl true)=dbI (B_ S i):=by
 unfold putK B_ dbI
 have e:((S.map fun i=>((Sum.inl i,V.bl true):Key × V)).any fun q=>decide (q.1=Sum.inl i))=decide (i ∈ S):=by
  induction S with
  | nil=>rfl
  | cons q S ih =>
   rw [bH,iQ,ih]
   by_cases h:q=i
   ·subst h;simp
   ·have h2:¬ i=q:=fun z=>h z.symm
    simp [h2,h]
 rw [e]
 by_cases h:i ∈ S
 ·rw [dTr h,if_pos rfl,if_pos h,gG]
  refine jl fun q _=>?_
  show (if (Sum.inl q:Key)=Sum.inl i then ((Sum.inl q:Key),V.bl true) else (Sum.inl q,V.bl true))=_
  split <;> rfl
 ·rw [dFa h,if_neg gA,if_neg h,jw]
  rfl
theorem Vd {K:PySem.W.Frag}:BrO K Vc zZ:=by
 intro H x y dx dy d Q rx ry e q
 obtain ⟨S,e4,e5⟩:=bind1 e
 obtain ⟨p,rfl,hp⟩:=MF e4 ry
 split at e5
 ·next i =>
  cases e5
  obtain rfl:=RA.intE rx
  refine ⟨p,_,rfl,hp,.inr ⟨.inl i,rfl,?_⟩⟩
  rw [Jv]
  exact q _ rfl (.bl _)
 ·cases e5
  obtain rfl:=RA.nonE rx
  exact ⟨p,_,rfl,hp,.inl ⟨rfl,q _ rfl (.bl _)⟩⟩
 ·cases e5
section
variable {K:PySem.W.Frag} {fl:List Fl}
theorem Jw {G:Gh} {ow:Ow} {σ:L2.St} {H:Hp} {δ:DS} {i:Nat} {x:D} {S:List Int} (R:Rel K fl G ow σ H δ) (hfl:fl[i]? = some .N) (hx:aD i δ=some x) (hq:FZ x=some S) :
 ∃ a,σ[i]? = some (some (.ref a))∧H a=some (.dK (dbI S))∧∀ H',Same H H'→∀ S',∃ ow',Rel K fl G ow' σ (upd H' a (.dK (dbI S'))) (δ.set i (some (.d (dsB S')))):=by
 have e:=pC hx
 have hi:i < δ.length:=by
  rcases lq i δ.length with z | z
  ·exact z
  ·rw [bD z] at e;cases e
 obtain ⟨v,h1,h2,h3⟩:=R.nr i x (by rw [hfl];rfl) e
 generalize hN:ow.n i=as at h2 h3
 cases h2 with
 | dic ha hg =>
  rename_i a u kvs
  rw [hg.old (yH hq)] at ha
  have ha':=ha
  rw [Ce hq] at ha'
  refine ⟨a,h1,ha',fun H' s S'=>?_⟩
  refine (R.grow s).mutN (as:=[a]) hfl hi (by rw [hN];exact List.mem_singleton_self _) (s _ _ ha) h1 ?_ (fun b hb=>by rw [hN];exact hb) (cU.mpr ⟨List.not_mem_nil,.nil⟩)
  refine .dic d7 (.inl ⟨yH (Ea S'),?_⟩)
  rw [Ce (Ea S')]
 | non=>cases hq
 | bl _=>cases hq
 | int _=>cases hq
 | str _=>cases hq
 | lst _ _=>cases hq
 | tup _ _=>cases hq
end
section
variable {X:Cx} {fl:List Fl} {e a b c ke:Expr} {f fa fb fc fk:FE} {pos:Pos}
theorem MJ (hu:X.A.units + 1 < cLine) {i:Nat} {x:Str} {vpos spos:Pos} (hfl:fl[i]? = some .N) (he:PE X e (tC (.bl true))) (hk:DE X fl .P ke fk) (hN:X.N[i]? = some x) (hv:Vis X.env.scope x:=by first | exact Or.inl rfl | exact Or.inr (Or.inl rfl) | exact Or.inr (Or.inr rfl)) (hd:(x == ("__debug__" : Str))=false:=by decide)
 (hcd:(x == ("__classdict__" : Str))=false:=by decide) (ha:∀ v,assign (.Subscript (.Name x vpos) ke spos) X.env v=(do
  let ov ← holding [v] (eval (.Name x vpos) X.env)
  let iv ← holding [v,ov] (eval ke X.env)
  standAt spos
  holding [v,ov,iv] (setItem ov iv v)
  release [v,ov,iv] []):=by intro _;rfl)
 (hs:swapsWithSole [.Subscript (.Name x vpos) ke spos] e pos.line X.env=pure false:=by rfl) (hw:swappedStores [.Subscript (.Name x vpos) ke spos] e X.env=pure none:=by rfl)
 (h1:(assignEach [.Subscript (.Name x vpos) ke spos] X.env).map (·.2)=[assign (.Subscript (.Name x vpos) ke spos) X.env]:=by rfl) :
 DS1 X fl (.Assign [.Subscript (.Name x vpos) ke spos] e pos) (xq i fk) :=
 PS.imp (Aq he (Hg (lY hN hv hd hcd) hk (Jq hu) ha) hs hw h1) fun Dn σ H h=>by
 obtain ⟨G,ow,δ,o,R,hf,q⟩:=h
 obtain ⟨y,e1,hf⟩:=bind1 hf
 obtain ⟨z,e2,hf⟩:=bind1 hf
 obtain ⟨S,e3,hf⟩:=bind1 hf
 split at hf
 case h_2=>cases hf
 next k _ =>
 by_cases hc:S.length < 1000000
 case neg=>rw [if_neg hc] at hf;cases hf
 rw [if_pos hc] at hf
 cases hf
 obtain ⟨p,h1,h2,h3⟩:=Jw R hfl e1 e3
 refine ⟨_,h1,G,ow,δ,_,R,e2,fun u H2 s2 r2=>?_⟩
 obtain rfl:=RA.intE r2
 obtain ⟨ow',R'⟩:=h3 H2 s2 (B_ S k)
 refine ⟨p,dbI S,.inl k,rfl,rfl,s2 _ _ h2,by unfold dbI;rw [aL];exact lg hc (by decide),?_⟩
 rw [Rw]
 exact q ow' σ _ R'
end
end XB
namespace XL
open PySem PySem.Spec PySem.W PyProof.Rows L2 My D3
abbrev Gj (x y:Str) (p1 p2 p3 p4 p5:Pos) (kd:Nat):Expr:=.Subscript (.Subscript (.Name x p1) (.Name y p2) p3) (.Constant (.int 0) kd p4) p5
section
variable {prog:Program} {w:World} {A:Around} {R:Result→Shared→Prop} {s:Shared} {f c' a b cell:Addr} {nm q x y:Str} {params:Arguments} {scope:Scope} {pm ctv:Value} {p1 p2 p3 p4 p5:Pos} {kd:Nat} {i k:Int} {j:Nat} {t t':Tok} {its its2:Array Value}
theorem Jx {x:Value} {E:Value→Shared→Prop} {Q:Value→Shared→Prop} (hl:s.heap.IsList a its) (hlo : -(its.size:Int) ≤ i) (hhi:i < its.size) (hsz:its.size ≤ sizeLine) (hsx:seqIndex? i its.size=some j) (hi:its[j]? = some x) (h:Q x s) :
 wpAny (model prog w) A (getItem (.ref a) (.int i t)) Q E s:=by
 have hn:=sI
 by_cases h0:0 ≤ i
 ·have hj:i.toNat=j:=by
   rw [seqIndex_of h0 hhi] at hsx
   exact cX.inj hsx
  exact wpAny_getItem_list hl h0 (by omega) (by rw [hj];exact hi) h
 ·have hj:(i + (its.size:Int)).toNat=j:=by
   rw [seqIndex_neg (by omega) hlo] at hsx
   exact cX.inj hsx
  exact wpAny_getItem_list_neg hl (by omega) hlo (by omega) (by rw [hj];exact hi) h
theorem MK (ho:s.heap.get? f=some (kla_obj nm q params (Gj x y p1 p2 p3 p4 p5 kd) scope [(x,cell)] pm c' ctv)) (hcd:s.heap.CodeRec (.ref c') q) (hroom:A.depth < recursionLimit) (hlim:s.heap.NoLimit)
 (hbind:∀ u,bindArgs (kla_fn nm q params (Gj x y p1 p2 p3 p4 p5 kd) scope [(x,cell)] pm (.ref c') ctv) ⟨[u],[]⟩=pure [(y,u)])
 (hco:scope.isCoroutine=false) (hgen:scope.isGenerator=false) (hk:scope.kind = .function) (hcell:∀ z ∈ scope.names,z.2 ≠ .cell) (hy:scope.names.lookup y=some .local) (hx:scope.names.lookup x=some .free)
 (hxd:(x == ("__debug__" : Str))=false) (hyd:(y == ("__debug__" : Str))=false) (hxc:(x == ("__classdict__" : Str))=false)
 (hc:s.heap.IsCell cell (some (.ref a))) (hl:s.heap.IsList a its) (hlo : -(its.size:Int) ≤ i) (hhi:i < its.size) (hsz:its.size ≤ sizeLine) (hsx:seqIndex? i its.size=some j) (hi:its[j]? = some (.ref b)) (ht:IsTup s.heap b its2) (hk0:its2[0]? = some (.int k t'))
 (h:∀ h' tk,(∀ b o,s.heap.get? b=some o→h'.get? b=some o)→R (.ok (.ret (.int k t'))) { s with heap:=h',toks:=tk }) :
 codeAny (model prog w) A (.call (.ref f) ⟨[.int i t],[]⟩) R s:=by
 refine kla_callFunE hroom ho rfl hco hgen rfl hcd ?_
 rw [hbind]
 refine wpAny_pure (wpAny_newFunctionEnv hcell (fun z hz=>?_) (fun h₁ hns hsb=>⟨hlim.fresh _ hsb,?_⟩) hk)
 ·rw [aQ.mp hz]
  exact hy
 have hk₁:∀ b o,s.heap.get? b=some o→h₁.get? b=some o:=fun b o e=>hsb.extBut b o (bL (Heap.lt_size e)) (Heap.get?_push_of_some _ e)
 refine kla_codeExpr ?_
 have hl':h₁.IsList a its:=by
  obtain ⟨o,e1,e2⟩:=hl
  exact ⟨o,hk₁ _ _ e1,e2⟩
 have ht':IsTup h₁ b its2:=by
  obtain ⟨o,e1,e2⟩:=ht
  exact ⟨o,hk₁ _ _ e1,e2⟩
 refine Subscript_ ?_
 refine Subscript_ ?_
 refine wpAny_Name ?_ hxd
 refine wpAny_loadName_free (c:=cell) (v:=.ref a) hk hx ?_ ?_ ?_ hxc
 ·show tG x [(x,cell)]=some cell
  simp
 ·obtain ⟨o,e1,e2⟩:=hc
  exact ⟨o,hk₁ _ _ e1,e2⟩
 refine wpAny_Name ?_ hyd
 refine wpAny_loadName_local (v:=.int i t) hk hy hns ?_ ?_
 ·simp
 refine subscriptTail_builtin (T := "list") (id := "list.__getitem__") ?_ PySem.F.slot_list_getitem.lookup ?_
 ·obtain ⟨o,e1,e2,_⟩:=hl'
  exact ⟨o,e1,e2⟩
 refine Jx hl' hlo hhi hsz hsx hi ?_
 refine wpAny_Constant_int ?_
 refine kba_turn (value':=PySem.Expr.Name (PySem.Str.ofString "_") ⟨0,0,0,0⟩) (fun _=>rfl) ?_
 refine subscriptTail_builtin (T := "tuple") (id := "tuple.__getitem__") ?_ PySem.F.slot_tuple_getitem.lookup ?_
 ·obtain ⟨o,e1,e2,_⟩:=ht'
  exact ⟨o,e1,e2⟩
 refine PyProof.Rows.getItem_tuple (j:=0) (x:=.int k t') ht' (by decide) (by decide) ?_ hk0 ?_
 ·have:0 < its2.size:=by
   rcases lq 0 its2.size with z | z
   ·exact z
   ·rw [Array.getElem?_eq_none z] at hk0;cases hk0
  unfold seqIndex?
  have h2:(0:Int) < (its2.size:Int):=by omega
  show (if (decide ((0:Int) ≤ 0) && decide ((0:Int) < (its2.size:Int)))=true then some (0:Int).toNat else none)=some 0
  rw [dTr (j_ 0),dTr h2]
  rfl
 ·exact h h₁ _ hk₁
end
section
variable {M:Model} {A:Around} {E:Value→Shared→Prop} {s:Shared} {params:Arguments} {body:Expr} {scope:Scope} {env:Env} {c P:Addr} {pos:Pos} {mg:Str→Option Value} {clos:List (Str × Addr)} {Q:Value→Shared→Prop} {q:Str}
abbrev ent (pos:Pos) (c':Addr):Array Value:=#[rawInt pos.line,rawInt pos.col,.ref c']
theorem Jy (hq:env.qual ++ "<lambda>" = q) (hdef:defaultsOf params env=([],[])) (hcl:closureFor scope env=pure clos) (hge0:env.globals=mainGlobals) (hg:s.heap.Ns mainGlobals mg) (hcode:env.code = .ref c) (C:CodeHd s.heap c P) (hgP:mainGlobals ≠ P) (hb:s.heap.BuiltinsAt mg P)
 (hT:∃ ps,s.heap.get? P=some (tabObj ps)∧(ps = #[]∨∃ c',ps=ent pos c'∧s.heap.CodeRec (.ref c') q))
 (h:∀ f c' ctv h' tk,(∀ b o,b ≠ P→s.heap.get? b=some o→h'.get? b=some o)→h'.get? P=some (tabObj (ent pos c'))→(s.heap.get? P=some (tabObj (ent pos c'))∨(s.heap.get? P=some (tabObj #[])∧s.heap.objs.size ≤ c'∧c' ≠ f))→s.heap.objs.size ≤ f →
  h'.get? f=some (kla_obj "<lambda>" q params body scope clos ((mg "__name__").getD .none) c' ctv)→h'.CodeRec (.ref c') q→Q (.ref f) { s with heap:=h',toks:=tk }) :
 wpAny M A (eval (.Lambda params body scope pos) env) Q E s:=by
 refine kla_eval hdef ?_
 rw [hq]
 obtain ⟨ps,hP,z | ⟨c',z,hr⟩⟩:=hT
 ·subst z
  refine kla_makeFunction (mg:=mg) hcl hge0 hg hcode C hP trivial rfl hgP hb fun c' ctv h' tk hx hge hlt hrec htb=>?_
  have up:∀ b o,h'.get? b=some o→(h'.push (kla_obj "<lambda>" q params body scope clos ((mg "__name__").getD .none) c' ctv)).get? b=some o:=fun b o e=>Heap.get?_push_of_some _ e
  obtain ⟨c2,oc,vs,tq,e1,e2,e3⟩:=hrec
  refine h h'.objs.size c' ctv _ tk (fun b o hb e=>up b o (hx b o hb e)) (up _ _ (by rw [htb];rfl)) (.inr ⟨hP,hge,bL hlt⟩) (bV hge (h_ hlt)) (Heap.get?_push_size _ rfl) ⟨c2,oc,vs,tq,e1,up _ _ e2,e3⟩
 ·subst z
  have ha:codeAmong pos (ent pos c').toList=some (.ref c'):=by simp [codeAmong,rawInt]
  refine kla_makeFunctionHit (mg:=mg) hcl hge0 hg hcode C hP trivial ha hb fun ctv h' tk hk hsz=>?_
  have up:∀ b o,s.heap.get? b=some o→(h'.push (kla_obj "<lambda>" q params body scope clos ((mg "__name__").getD .none) c' ctv)).get? b=some o:=fun b o e=>Heap.get?_push_of_some _ (hk b o e)
  obtain ⟨c2,oc,vs,tq,e1,e2,e3⟩:=hr
  exact h h'.objs.size c' ctv _ tk (fun b o _ e=>up b o e) (up _ _ hP) (.inl hP) hsz (Heap.get?_push_size _ rfl) ⟨c2,oc,vs,tq,e1,up _ _ e2,e3⟩
end
end XL
namespace XL
open PySem PySem.Spec PySem.W PyProof.Rows L2 My D3 XS
section
variable {prog:Program} {w:World} {A:Around} {h₀:Heap} {L kS:Addr} {m:Str→Option Value} {f:Value} {nw:List (Addr × Obj)}
def z7 (prog:Program) (w:World) (A:Around) (nw:List (Addr × Obj)) (f v:Value) (k:Int):Prop :=
 ∃ t,∀ (s:Shared) (R:Result→Shared→Prop),(∀ p ∈ nw,s.heap.get? p.1=some p.2)→s.heap.NoLimit→(∀ h' tk,(∀ b o,s.heap.get? b=some o→h'.get? b=some o)→R (.ok (.ret (.int k t))) { s with heap:=h',toks:=tk }) →
  codeAny (model prog w) A (.call f ⟨[v],[]⟩) R s
theorem z8 {Fin:List Value→Nat→Shared→Prop} (hne:∀ y ∈ nw,y.1 ≠ kS) (hlim:∀ s:Shared,(∀ p ∈ nw,s.heap.get? p.1=some p.2)→s.heap.NoLimit):∀ (vs:List Value) (ns:List Int) (ks:List Value) (e:Nat) (s:Shared),Paired (fun v k=>z7 prog w A nw f v k) vs ns →
 Fr h₀ L s.heap m→News h₀ L s.heap ((kS,seqObj "list" (gH ks) e) :: nw) →
 (∀ ks' e' s',Fr h₀ L s'.heap m→News h₀ L s'.heap ((kS,seqObj "list" (gH (ks++ks')) e') :: nw)→s'.gens=s.gens→s'.drawn=s.drawn→s'.os=s.os→Paired (fun (v:Value) (k:Int)=>∃ t,v = .int k t) ks' ns→Fin (ks++ks') e' s') →
 KatKeys prog w A h₀ L m kS f Fin vs ks e s
 | [],_,ks,e,s,p,F,N,h=>by
  cases p
  have:=h [] e s F (by rw [eV];exact N) rfl rfl rfl .nil
  rw [eV] at this
  exact this
 | v :: vs,_,ks,e,s,p,F,N,h=>by
  cases p with
  | cons p1 p2 =>
  rename_i k ns
  obtain ⟨t,c⟩:=p1
  have hnw:∀ p ∈ nw,s.heap.get? p.1=some p.2:=fun p hp=>(N p (aF _ hp)).1
  refine KatKeys.cons (wpAny_call (c s _ hnw (hlim s hnw) fun h' tk hk=>?_))
  have F':Fr h₀ L h' m:=⟨F.ns.keeps hk,fun b o z=>hk b o (F.keep b o z),F.above⟩
  have N':News h₀ L h' ((kS,seqObj "list" (gH ks) e) :: nw):=fun p hp=>⟨hk _ _ (N p hp).1,(N p hp).2⟩
  refine KatBack.intro (s:={ s with heap:=h',toks:=tk }) F' N' (.head hne) fun h2 e2 F2 N2=>?_
  refine z8 hne hlim vs ns (ks++[.int k t]) e2 { s with heap:=h2,toks:=tk } p2 F2 N2 fun ks' e' s' F3 N3 g1 g2 g3 q=>?_
  have z:=h (.int k t :: ks') e' s' F3 (by rw [show ks++.int k t :: ks'=ks++[.int k t]++ks' by simp];exact N3) g1 g2 g3 (.cons ⟨t,rfl⟩ q)
  rw [show ks++.int k t :: ks'=ks++[.int k t]++ks' by simp] at z
  exact z
end
section
variable {prog:Program} {w:World} {A:Around} {E:Value→Shared→Prop} {s:Shared} {h₀:Heap} {L l fa:Addr} {m:Str→Option Value} {vs:List Value} {ns:List Int} {news:List (Addr × Obj)} {Q:Value→Shared→Prop}
def ltK (ns:List Int) (i j:Nat):Bool:=decide (ns.getD i 0 < ns.getD j 0)
theorem vg (a b:Value):argsOk "sorted" ⟨[a],[(Str.ofString "key", b)]⟩:=by unfold argsOk;kernel_rfl
theorem tW (a b:Value):argsOk "list.sort" ⟨[a],[(Str.ofString "key", b)]⟩:=by unfold argsOk;kernel_rfl
theorem ints_of:∀ {ks:List Value} {ns:List Int},Paired (fun (v:Value) (k:Int)=>∃ t,v = .int k t) ks ns→IntsAre ks ns
 | _,_,.nil=>.nil
 | _,_,.cons p q=>by
  obtain ⟨t,rfl⟩:=p
  exact .cons _ _ (ints_of q)
theorem yI:∀ {ks:List Value} {ns:List Int},Paired (fun (v:Value) (k:Int)=>∃ t,v = .int k t) ks ns→∀ i,i < ks.length→∃ t,ks.getD i .none = .int (ns.getD i 0) t
 | _,_,.nil,i,h=>by cases h
 | _,_,.cons p q,0,h=>by obtain ⟨t,rfl⟩:=p;exact ⟨t,rfl⟩
 | _,_,.cons p q,i + 1,h=>by
  obtain ⟨t,e⟩:=yI q i (by simpa using h)
  exact ⟨t,by simpa using e⟩
theorem Jz (F:Fr h₀ L s.heap m) (N:News h₀ L s.heap news) (hl:s.heap.IsList l vs.toArray) (h2:2 ≤ vs.length) (h64:vs.length < 64)
 (hc:Paired (fun v k=>z7 prog w A.in1.in1 news (.ref fa) v k) vs ns) (hlim:∀ s:Shared,(∀ p ∈ news,s.heap.get? p.1=some p.2)→s.heap.NoLimit)
 (h:∀ D h' e tk,Fr h₀ L h' m→News h₀ L h' ((D,seqObj "list" (gH ((qw vs.length (ltK ns)).map fun i=>vs.getD i Value.none)) e) :: news)→(∀ q ∈ news,q.1 < D)→Q (.ref D) { s with heap:=h',toks:=tk }) :
 wpAny (model prog w) A (call (.builtin "sorted") [.ref l] [(Str.ofString "key", .ref fa)]) Q E s:=by
 refine kat_sortedK (b:=false) (f:=.ref fa) F N hl h2 h64 (vg _ _) (fun x=>tW _ _) (fun x=>ksk_t1 fa x) fun D kS e1 h' F' N' lt1 lt2=>?_
 have hne:∀ y ∈ (D,seqObj "list" #[] e1) :: news,y.1 ≠ kS:=fun y hy=>by
  rcases aO.mp hy with rfl | z
  ·exact bL lt1
  ·exact bL (lg (lt2 y z) lt1)
 have hc':Paired (fun v k=>z7 prog w A.in1.in1 ((D,seqObj "list" #[] e1) :: news) (.ref fa) v k) vs ns:=Paired.mapP hc fun v k ⟨t,z⟩=>⟨t,fun s R q1 q2 q3=>z s R (fun p hp=>q1 p (aF _ hp)) q2 q3⟩
 refine z8 (kS:=kS) hne (fun s q=>hlim s fun p hp=>q p (aF _ hp)) vs ns [] 0 _ hc' F' N' fun ks e s' F2 N2 g1 g2 g3 pk=>?_
 have lk:ks.length=vs.length:=pk.length.trans hc.length.symm
 rw [kJ] at N2 ⊢
 rw [ksk_kind (ints_of pk) (by rw [aZ,lk];exact h2)]
 refine wpAny_pure ?_
 refine DX (n:=vs.length) (lt:=ltK ns) (R:=good vs.length) (fun i j C hi hj hC=>?_) _ (w6 (by omega)) ?_
 ·obtain ⟨t1,q1⟩:=yI pk i (by rw [lk];exact hi)
  obtain ⟨t2,q2⟩:=yI pk j (by rw [lk];exact hj)
  unfold kas_ask
  show wpAny _ _ (keyLt' oneType' (ks.getD i Value.none) (ks.getD j Value.none)) _ _ _
  rw [q1,q2]
  exact kat_lt_int hC
 ·obtain ⟨hp,gn,dr,tk,os⟩:=s'
  simp only at g1 g2 g3 F2 N2
  subst g1 g2 g3
  refine KatFin.intro F2 N2 (.head hne) fun h3 c3 F3 N3=>?_
  refine KasFin.intro F3 N3 (.tail (nO lt1) (.head fun y hy=>bL (lt2 y hy))) fun h4 c4 F4 N4=>?_
  exact h D h4 c4 tk F4 (fun p hp=>N4 p (aF _ hp)) lt2
theorem xH {α β:Type} {R:α→β→Prop}:∀ {l:List α} {r:List β},Paired R l r→∀ {i:Nat} {a:α} {b:β},l[i]? = some a→r[i]? = some b→R a b
 | _,_,.nil,i,a,b,h,_=>by simp at h
 | _,_,.cons p q,0,a,b,h1,h2=>by
  simp at h1 h2
  subst h1 h2
  exact p
 | _,_,.cons p q,i + 1,a,b,h1,h2=>xH q (i:=i) (by simpa using h1) (by simpa using h2)
theorem MN (F:Fr h₀ L s.heap m) (N:News h₀ L s.heap news) (hl:s.heap.IsList l vs.toArray) (h1:vs.length ≤ 1)
 (hc:Paired (fun v k=>z7 prog w A.in1.in1 news (.ref fa) v k) vs ns) (hlim:∀ s:Shared,(∀ p ∈ news,s.heap.get? p.1=some p.2)→s.heap.NoLimit)
 (h:∀ D h' e tk,Fr h₀ L h' m→News h₀ L h' ((D,seqObj "list" (gH vs) e) :: news)→(∀ q ∈ news,q.1 < D)→Q (.ref D) { s with heap:=h',toks:=tk }) :
 wpAny (model prog w) A (call (.builtin "sorted") [.ref l] [(Str.ofString "key", .ref fa)]) Q E s:=by
 refine ksk_sorted (b:=false) (kz:=ns) (f:=.ref fa) F N hl hc.length.symm (by omega) (vg _ _) (fun x=>tW _ _) (fun x=>ksk_t1 fa x) (fun i v k hv hk hp tk own F' N'=>?_) fun D h' tk out c F' N' lt ko=>?_
 ·obtain ⟨t,z⟩:=xH hc hv hk
  have hnw:∀ p ∈ news,hp.get? p.1=some p.2:=fun p q=>(N' p (bF _ q)).1
  refine wpAny_call (z { s with heap:=hp,toks:=tk } _ hnw (hlim { s with heap:=hp,toks:=tk } hnw) fun h2 tk2 hk2=>?_)
  exact ⟨h2,tk2,t,rfl,rfl,⟨F'.ns.keeps hk2,fun b o z=>hk2 b o (F'.keep b o z),F'.above⟩,fun p q=>⟨hk2 _ _ (N' p q).1,(N' p q).2⟩⟩
 ·obtain ⟨ps,hp,ho,_⟩:=ko
  have e:out.toList=vs:=by
   cases hc with
   | nil =>
    have hp:ps.Perm []:=hp
    rw [List.perm_nil.mp hp] at ho
    exact ho
   | cons p q =>
    cases q with
    | nil =>
     have hp:ps.Perm [(_,_)]:=hp
     rw [List.perm_singleton.mp hp] at ho
     exact ho
    | cons _ _=>simp at h1
  have e2:out=vs.toArray:=Array.toList_inj.mp (e.trans (by simp))
  rw [e2] at N'
  exact h D h' c tk F' N' lt
end
end XL
namespace XS
open PySem D3
def pX (l:List D) (ns:List Int):List D:=if l.length ≤ 1 then l else (qw l.length fun i j=>decide (ns.getD i 0 < ns.getD j 0)).map fun i=>l.getD i .none
def yJ (fa fe:FE) (ix:List Nat):FE:=fun δ=>(fa δ).bind fun x=>match x with
 | .list l=>if l.length < 64∧flats l=true then (fK (gNl 0) D3.jA fe (jH 1 ix δ) l).bind fun ks=>(jm ks).map fun ns=>.list (pX l ns) else none
 | _=>none
def dK0:FE:=fun δ=>match δ with
 | [some (.d (.int z)),some (.d (.list ds))]=>(pAt ds z).bind fun t=>match t with
  | .tuple (.int n :: _)=>some (.int n)
  | _=>none
 | _=>none
def qSK (x:Option D) (k:List D→Option (List D)):Option D:=match x with
 | some (.list l)=>if l.length < 64∧flats l=true then (k l).bind fun ks=>(jm ks).map fun ns=>.list (pX l ns) else none
 | _=>none
theorem MP {fa fe:FE} {ix:List Nat} {δ:DS}:yJ fa fe ix δ=qSK (fa δ) (fK (gNl 0) D3.jA fe (jH 1 ix δ)):=by
 unfold yJ qSK
 cases fa δ with
 | none=>rfl
 | some d=>cases d <;> rfl
theorem Gk {l ks:List D} {ns:List Int} {k:List D→Option (List D)} (h1:l.length < 64) (h2:flats l=true) (h3:k l=some ks) (h4:jm ks=some ns):qSK (some (.list l)) k=some (.list (pX l ns)):=by
 unfold qSK
 dsimp only
 rw [if_pos ⟨h1,h2⟩,h3,aH,h4]
 rfl
end XS
namespace XL
open PySem PySem.Spec PySem.W PyProof.Rows L2 My D3 XS
section
variable {X:Cx} {pins:List (Addr × Obj)} {σ:L2.St} {H:Hp} {s:Shared} {h':Heap} {P c':Addr} {q:Str} {lp:Pos} {tk:Nat}
theorem M4 (I:Inv X pins σ H s) (hT:H P=some (.tbl q lp)) (kp:∀ b o,b ≠ P→s.heap.get? b=some o→h'.get? b=some o) (hP:h'.get? P=some (tabObj (ent lp c')))
 (hor:s.heap.get? P=some (tabObj (ent lp c'))∨(s.heap.get? P=some (tabObj #[])∧s.heap.objs.size ≤ c')) (hrec:h'.CodeRec (.ref c') q) :
 ∃ H2,Inv X pins σ H2 { s with heap:=h',toks:=tk }∧Same H H2:=by
 rcases hor with z | ⟨z,hge⟩
 ·refine ⟨H,I.kept fun b o e=>?_,fun _ _ e=>e⟩
  by_cases hb:b=P
  ·subst hb
   rw [z] at e;cases e
   exact hP
  ·exact kp b o hb e
 ·have hn:H c'=none:=I.hok.fresh hge
  have ne:∀ {b u},H b=some u→b ≠ c':=fun e=>i_ e hn
  have nP:∀ {b},H b=none→b ≠ P:=fun e y=>by rw [y,hT] at e;cases e
  refine ⟨upd H c' (.own P),?_,fJ hn _⟩
  refine I.step (g':=s.gens) (d':=s.drawn) (ch:=[]) (fun b hb=>by cases hb) (fun b u _ _ _ e n=>kp b u (nP n) e) (fun b u _ _ _ e n=>⟨u.slots,kp b u (nP n) e⟩) (fun b u _ e n=>?_) (fun b u _ e=>?_)
   (fun b xs e=>by rw [cM (ne e)];exact e) (fun b u v e=>by rw [cM (ne e)];exact e) (fun b q p e=>by rw [cM (ne e)];exact e) (fun m ⟨o,es,ep,e,r⟩=>⟨o,es,ep,kp _ o (nP I.free) e,r⟩) (fun b u e=>?_) I.bare
  ·rw [cM (bL (bQ (Heap.lt_size e) hge))];exact n
  ·by_cases hb:b=P
   ·exact ⟨_,by rw [hb];exact hP⟩
   ·exact ⟨u,kp b u hb e⟩
  ·by_cases hb:b=c'
   ·subst hb
    rw [d7] at e
    cases e
    obtain ⟨c2,oc,vs,tq,e1,e2,_⟩:=hrec
    cases e1
    exact ⟨_,e2⟩
   ·rw [cM hb] at e
    by_cases hbP:b=P
    ·subst hbP
     rw [hT] at e;cases e
     exact ⟨_,hP,.inr ⟨c',rfl,d7,hrec⟩⟩
    ·refine (I.hok b u e).stay (fun c w hc y=>kp c w (fun y2=>?_) y) (fun c y=>by rw [cM (ne y)];exact y) fun c xs y=>by rw [cM (ne y)];exact y
     rcases hc with rfl | y3
     ·exact hbP y2
     ·rw [y2,hT] at y3;cases y3
end
theorem M5 {K:Frag} {H H':Hp} {a:Addr} {xs:List V} (e:Same H H') (h:SqL K H a xs):SqL K H' a xs:=by
 rcases h with (h | ⟨o,h⟩) | h
 ·exact .inl (.inl (e _ _ h))
 ·exact .inl (.inr ⟨o,e _ _ h⟩)
 ·exact .inr h
theorem xJ:∀ {ys:List V} {vs:List Value},Vals ys vs→∀ i,RelV (ys.getD i .non) (vs.getD i .none)
 | _,_,.nil,i=>by simp;rfl
 | _,_,.cons r rs,0=>r
 | _,_,.cons r rs,i + 1=>by simpa using xJ rs i
theorem xK {fe:FE} {δ0:DS}:∀ {l ks:List D} {ns:List Int},fK (gNl 0) D3.jA fe δ0 l=some ks→jm ks=some ns→Paired (fun d n=>∃ δ1,gNl 0 d δ0=some δ1∧fe δ1=some (.int n)) l ns
 | [],ks,ns,h1,h2=>by
  cases h1
  cases h2
  exact .nil
 | d :: l,ks,ns,h1,h2=>by
  unfold fK at h1
  obtain ⟨δ1,e1,h1⟩:=bind1 h1
  obtain ⟨b,e2,h1⟩:=bind1 h1
  cases e2
  rw [if_pos rfl] at h1
  obtain ⟨x,e3,h1⟩:=bind1 h1
  obtain ⟨r,e4,h1⟩:=bind1 h1
  cases h1
  cases x with
  | int n =>
   have h2':(jm r).bind (fun m=>some (n :: m))=some ns:=by
    cases e5:jm r with
    | none=>unfold jm at h2;rw [e5] at h2;cases h2
    | some m=>unfold jm at h2;rw [e5] at h2;cases h2;rfl
   obtain ⟨m,e5,e6⟩:=bind1 h2'
   cases e6
   exact .cons ⟨δ1,e1,e3⟩ (xK e4 e5)
  | _=>unfold jm at h2;cases h2
theorem Ed {K:PySem.W.Frag} {ok:Ok} {pl:Bool} {H:Hp} {S:D→Int→Prop} {R:Value→Int→Prop} (f:∀ y d v n,RA K ok pl H y d→RelV y v→S d n→R v n):∀ {ys:List V} {l:List D} {vs:List Value} {ns:List Int},RAs K ok pl H ys l→Vals ys vs→Paired S l ns→Paired R vs ns
 | _,_,_,_,.nil,.nil,.nil=>.nil
 | _,_,_,_,.cons a b,.cons c d,.cons e g=>.cons (f _ _ _ _ a c e) (Ed f b d g)
structure LamAt (X:Cx) (P:Addr) (q:Str) (lp:Pos):Prop where
 cd:∃ c,X.env.code = .ref c∧codeHdIn X.K c P=true
 qn:X.env.qual ++ "<lambda>" = q
 tb:(P,q,lp) ∈ tabs
section
variable {X:Cx} {fl:List Fl} {e:Expr} {fa:FE} {p pos kpos lp p1 p2 p3 p4 p5:Pos} {x y q:Str} {P:Addr} {kd i k:Nat} {params:Arguments} {scope:Scope}
theorem Rx {δ0 δ1:DS} {d:D} {n:Int} {u:Option U} (h0:δ0=[none,u]) (h1:gNl 0 d δ0=some δ1) (h2:dK0 δ1=some (.int n)):∃ z ds r,d = .int z∧u=some (.d (.list ds))∧pAt ds z=some (.tuple (.int n :: r)):=by
 subst h0
 cases h1
 unfold dK0 at h2
 split at h2
 ·next z ds e =>
  cases e
  obtain ⟨t,e1,e2⟩:=bind1 h2
  split at e2
  ·next m r=>cases e2;exact ⟨z,ds,r,rfl,rfl,e1⟩
  ·cases e2
 ·cases h2
theorem Cg (hl:LamAt X P q lp) (hr:Room k X.A) (ha:DB X fl .P [e] (aj fa aJ)) (hg:Gl X "sorted") (hm:X.mg "sorted" = none)
 (hix:X.N[i]? = some x) (hfl:fl[i]? = some .A) (hcell:X.env.kindOf x=some .cell)
 (hdef:defaultsOf params X.env=([],[])) (hcl:∀ c,X.env.cells.lookup x=some c→closureFor scope X.env=pure [(x,c)])
 (hbind:∀ (cl:List (Str × Addr)) (pm:Value) (c':Addr) (ctv u:Value),bindArgs (kla_fn "<lambda>" q params (Gj x y p1 p2 p3 p4 p5 kd) scope cl pm (.ref c') ctv) ⟨[u],[]⟩=pure [(y,u)])
 (hco:scope.isCoroutine=false) (hgen:scope.isGenerator=false) (hk:scope.kind = .function) (hcells:∀ z ∈ scope.names,z.2 ≠ .cell) (hy:scope.names.lookup y=some .local) (hxf:scope.names.lookup x=some .free)
 (hxd:(x == ("__debug__" : Str))=false) (hyd:(y == ("__debug__" : Str))=false) (hxc:(x == ("__classdict__" : Str))=false)
 (he:backTo pos (starEach [e] X.env)=(false,eval e X.env) :: backTo pos (starEach [] X.env)) (hpl:(backTo pos (starEach [e] X.env)).any (·.1)=false)
 : DE X fl .FC (.Call (.Name "sorted" p) [e] [⟨some (Str.ofString "key"),.Lambda params (Gj x y p1 p2 p3 p4 p5 kd) scope lp,kpos⟩] pos) (yJ fa dK0 [i]):=by
 have bs:bootBuiltins "sorted" = some (.builtin "sorted"):=by decide +kernel
 intro pins s σ H Q I hq
 obtain ⟨G,ow,δ,d,R,hf,q0⟩:=hq
 obtain ⟨xd,e1,hf1⟩:=bind1 hf
 obtain ⟨l,rfl⟩:∃ l,xd = .list l:=by
  cases xd <;> first | exact ⟨_,rfl⟩ | cases hf1
 dsimp only at hf1
 by_cases hc:l.length < 64∧flats l=true
 case neg=>rw [if_neg hc] at hf1;cases hf1
 rw [if_pos hc] at hf1
 obtain ⟨ks,e2,hf2⟩:=bind1 hf1
 cases e3:jm ks with
 | none=>rw [e3] at hf2;cases hf2
 | some ns =>
 rw [e3] at hf2
 cases hf2
 have e1':aj fa aJ δ=some [.list l]:=by unfold aj;rw [e1];rfl
 refine wpAny_Call_Name_kw (sG I hg hm bs ?_)
 refine PyProof.Rows.callWith_kw ?_ he hpl rfl rfl
 refine thn (ha pos pins s σ H (fun vs H1=>Same H H1∧RAs X.K ok1 true H1 vs [.list l]) I ⟨G,ow,δ,_,R,e1',fun vs H' s' r'=>⟨s',r'⟩⟩) fun us s1 ⟨vs,H1,I1,r1,sm1,ra⟩=>?_
 cases ra with
 | cons ra1 ra2 =>
 cases ra2
 obtain ⟨a,ys,rfl,hx,hrs⟩:=ra1.lstE
 cases r1 with
 | cons c1 c2 =>
 cases c2
 cases c1
 have R1:=R.grow sm1
 have hT:H1 P=some (.tbl q lp):=R1.tb _ hl.tb
 obtain ⟨c,hcx⟩:=I1.ok.has x (.inl hcell)
 obtain ⟨cc,hcode,hhd⟩:=hl.cd
 have KX:=I1.kIn
 have hgl:s1.heap.Ns mainGlobals X.mg:=I1.mod.glob.keeps I1.bk
 have hgP:mainGlobals ≠ P:=fun z=>by
  obtain ⟨o,_,_,g1,_⟩:=I1.mod.glob
  have:=(I1.bs _ _ g1).2
  rw [z,hT] at this;cases this
 have hbm:s1.heap.BuiltinsAt X.mg P:=by
  obtain ⟨bm,ob,g1,g2,g3,g4,g5,g6⟩:=I1.mod.bm
  refine ⟨bm,ob,g1,g2,fun z=>?_,fun z=>?_,I1.bk _ _ g3,g4,g5,g6⟩
  ·obtain ⟨o,_,_,k1,k2,_⟩:=I1.mod.glob
   rw [z,k1] at g3;cases g3
   rw [k2] at g6;cases g6
  ·have:=(I1.bs _ _ g3).2
   rw [z,hT] at this;cases this
 have hTT:∃ ps,s1.heap.get? P=some (tabObj ps)∧(ps = #[]∨∃ c',ps=ent lp c'∧s1.heap.CodeRec (.ref c') q):=by
  obtain ⟨ps,g1,g2⟩:=I1.hok P _ hT
  refine ⟨ps,g1,?_⟩
  rcases g2 with g | ⟨c',g,_,g3⟩
  ·exact .inl g
  ·exact .inr ⟨c',g,g3⟩
 show wpAny _ _ (evalAll [do let v ← eval (.Lambda params (Gj x y p1 p2 p3 p4 p5 kd) scope lp) X.env;standAt pos;pure v]) _ _ s1
 refine wpAny_evalAll_cons (wpAny_bind ?_)
 refine Jy (mg:=X.mg) hl.qn hdef (hcl c hcx) I1.ok.glob hgl hcode (codeHd_of_K KX hhd) hgP hbm hTT fun f c' ctv h' tk kp hP' hor hfs hfo hrec=>wpAny_bind (wpAny_standAt (wpAny_pure ?_))
 refine wpAny_evalAll_nil ?_
 show wpAny _ _ (PySem.call (.builtin "sorted") [.ref a] [(Str.ofString "key", .ref f)]) _ _ _
 obtain ⟨H2,I2,sm2⟩:=M4 (tk:=tk) I1 hT kp hP' (hor.imp (fun z=>z) fun z=>⟨z.1,z.2.1⟩) hrec
 have R2:=R1.grow sm2
 obtain ⟨its,rvs,pli,hz⟩:=I2.list (show SqL X.K H2 a ys from M5 sm2 hx)
 have hrs2:=hrs.same sm2
 have len:its.length=l.length:=rvs.length.symm.trans hrs2.length
 obtain ⟨m,hmm,hlk⟩:=id I2.loc
 have notL:∀ {b:Addr} {o:Obj},h'.get? b=some o→(∀ es ep,o.data ≠ .dict es ep)→b ≠ X.env.locals:=fun {b o} g1 g2 z=>by
  obtain ⟨o2,es,ep,k1,k2,_⟩:=hmm
  rw [← z] at k1
  rw [show h'.get? b=some o2 from k1] at g1;cases g1
  exact g2 _ _ k2
 have mem:∀ {b:Addr} {o:Obj},h'.get? b=some o→b ≠ X.env.locals→(b,o) ∈ mK (Att.mX h') h' X.env.locals:=fun g1 g2=>zq g2 (Att.uI _ _) g1
 have hlim:∀ s':Shared,(∀ p ∈ mK (Att.mX h') h' X.env.locals,s'.heap.get? p.1=some p.2)→s'.heap.NoLimit:=fun s' hk'=>I2.ok.mod.nolimit.keeps fun b o g=>hk' (b,o) (mem (I2.bk b o g) (bL (bQ (Heap.lt_size (I2.ok.bs b o g).1) I2.ok.above)))
 have calls:Paired (fun v n=>z7 X.prog X.w X.A.in1.in1 (mK (Att.mX h') h' X.env.locals) (.ref f) v n) its ns:=by
  refine Ed (S:=fun d n=>∃ δ1,gNl 0 d (jH 1 [i] δ)=some δ1∧dK0 δ1=some (.int n)) (fun y0 d v n r1 r2 ⟨δ1,g1,g2⟩=>?_) hrs2 rvs (xK e2 e3)
  obtain ⟨z,ds,r,rfl,g4,g5⟩:=Rx (u:=(δ[i]?).getD none) rfl g1 g2
  obtain rfl:=r1.intE
  obtain ⟨t0,rfl⟩:=r2
  have g6:δ[i]? = some (some (.d (.list ds))):=by
   cases g7:δ[i]? with
   | none=>rw [g7] at g4;cases g4
   | some u=>rw [g7] at g4;exact congrArg some g4
  have own0:ow i=none:=by
   cases g7:ow i with
   | none=>rfl
   | some b =>
    obtain ⟨_,g8,_⟩:=R2.own i b g7
    rw [hfl] at g8
    rcases g8 with ⟨g8,_⟩ | ⟨g8,_⟩ <;> cases g8
  obtain ⟨v0,k1,k2⟩:=R2.dat i _ g6 (by rw [hfl];rfl) own0
  obtain ⟨b,xs,rfl,k3,k4⟩:=k2.lstE
  obtain ⟨v1,k5,k6⟩:=k4.at g5
  obtain ⟨b2,ws,rfl,k7,k8⟩:=k6.tupE
  cases k8 with
  | cons k9 k10 =>
  obtain rfl:=k9.intE
  obtain ⟨it2,rv2,pl2,hz2⟩:=I2.list k3
  obtain ⟨it3,rv3,pl3,_⟩:=I2.tuple k7
  obtain ⟨j,j1,j2,j3,j4,j5⟩:=uh k5
  obtain ⟨w1,j6,j7⟩:=rv2.get j2
  cases j7
  cases rv3 with
  | cons r3 rv3 =>
  obtain ⟨t3,rfl⟩:=r3
  have l2:=rv2.length
  obtain ⟨u,u1,u2⟩:=hlk i x _ hix k1 (.inr (.inl hcell))
  cases u1
  rcases u2 with ⟨u3,_⟩ | ⟨_,cl,u4,u5⟩
  ·have:some NameKind.cell=some NameKind.local:=hcell.symm.trans u3
   cases this
  have:cl=c:=by rw [hcx] at u4;exact (cX.inj u4).symm
  subst this
  refine ⟨t3,fun s' R' hk' hlim' hR=>?_⟩
  have kk:∀ {b:Addr} {o:Obj},h'.get? b=some o→(∀ es ep,o.data ≠ .dict es ep)→s'.heap.get? b=some o:=fun g1 g2=>hk' _ (mem g1 (notL g1 g2))
  have f1:s'.heap.get? f=some (kla_obj "<lambda>" q params (Gj x y p1 p2 p3 p4 p5 kd) scope [(x,cl)] ((X.mg "__name__").getD .none) c' ctv):=kk hfo (fun _ _ z=>by cases z)
  have f2:s'.heap.CodeRec (.ref c') q:=by
   obtain ⟨c2,oc,vs2,tq,w1,w2,w3,w4⟩:=hrec
   exact ⟨c2,oc,vs2,tq,w1,kk w2 (fun _ _ z=>by rw [w3] at z;cases z),w3,w4⟩
  have f3:s'.heap.IsCell cl (some (.ref b)):=by
   obtain ⟨o,w1,w2⟩:=u5
   exact ⟨o,kk w1 (fun _ _ z=>by rw [w2] at z;cases z),w2⟩
  have f4:s'.heap.IsList b it2.toArray:=by
   obtain ⟨o,w1,w2,w3,w4⟩:=pl2.isList
   exact ⟨o,kk w1 (fun _ _ z=>by rw [w4] at z;cases z),w2,w3,w4⟩
  have f5:∀ {it5:Array Value},IsTup h' b2 it5→IsTup s'.heap b2 it5:=fun ⟨o,w1,w2,w3,w4⟩=>⟨o,kk w1 (fun _ _ z=>by rw [w4] at z;cases z),w2,w3,w4⟩
  exact MK (i:=z) (j:=j) (its:=it2.toArray) f1 f2 (by have:=hr.dp;show X.A.depth < _;omega) hlim' (fun u=>hbind _ _ _ _ u) hco hgen hk hcells hy hxf hxd hyd hxc f3 f4 (by rw [aZ,← l2];exact j4) (by rw [aZ,← l2];exact j5)
   (by rw [aZ,← l2];exact hz2) (by rw [aZ,← l2];exact j1) (by simpa using j6) (f5 pl3) (by simp) hR
 have fin:∀ (D:Addr) (h3:Heap) (ec tk3:Nat) (is:List V) (ds:List D3.D) (vo:List Value),Vals is vo→is.length ≤ sizeLine→(∀ (Hx:Hp),RAs X.K ok1 true Hx ys l→RAs X.K ok0 false Hx is ds) →
  pX l ns=ds→Fr (Att.mX h') X.env.locals h3 m→News (Att.mX h') X.env.locals h3 ((D,seqObj "list" (gH vo) ec) :: mK (Att.mX h') h' X.env.locals)→(∀ z ∈ mK (Att.mX h') h' X.env.locals,z.1 < D) →
  EP X pins σ Q (.ref D) { s1 with heap:=h3,toks:=tk3 }:=fun D h3 ec tk3 is ds vo v1 v2 v3 v4 F3 N3 lt=>by
  have kept3:∀ b o,b ≠ X.env.locals→h'.get? b=some o→h3.get? b=some o:=fun b o hb g=>(N3 (b,o) (aF _ (mem g hb))).1
  have hD:h'.get? D=none:=by
   cases g:h'.get? D with
   | none=>rfl
   | some o =>
    by_cases z:D=X.env.locals
    ·exact absurd z (N3 _ (aG ..)).2.1
    ·exact absurd (lt (D,o) (mem g z)) (iM _)
  have hn:H2 D=none:=by
   cases g:H2 D with
   | none=>rfl
   | some u =>
    obtain ⟨w,hw⟩:=xg (I2.hok D u g)
    rw [show h'.get? D=some w from hw] at hD;cases hD
  have new:gB X.prog X.w (upd H2 D (.lst is)) h3 D (.lst is):=⟨v2,vo,ec,v1,(N3 _ (aG ..)).1⟩
  have J:=Mu (s:={ s1 with heap:=h',toks:=tk }) (h':=h3) I2 hmm F3.ns kept3 hD new
  refine ⟨.ref D,_,J.tok tk3,rfl,q0 _ _ ((sm1.trans sm2).trans (fJ hn _)) (.inr ⟨D,is,ds,rfl,(by show PyData.list (pX l ns)=_;rw [v4]),(sm1.trans sm2).free hn,d7,?_⟩)⟩
  exact (v3 _ (hrs2.same (fJ hn _))).imp (fun _ z=>z.elim) (fun z=>z)
 by_cases h1:l.length ≤ 1
 ·refine MN (Att.Hu hmm) zu pli.isList (by rw [len];exact h1) calls hlim fun D h3 ec tk3 F3 N3 lt=>?_
  exact fin D h3 ec tk3 ys l its rvs (by rw [hrs2.length];exact bV h1 (by decide)) (fun Hx r=>RAs.flat hc.2 r) (by unfold pX;rw [if_pos h1]) F3 N3 lt
 ·refine Jz (Att.Hu hmm) zu pli.isList (by omega) (by omega) calls hlim fun D h3 ec tk3 F3 N3 lt=>?_
  have eo:pX l ns=(qw its.length (ltK ns)).map fun i=>l.getD i .none:=by unfold pX;rw [if_neg h1,len];rfl
  have pm:=nD (n:=its.length) (by omega) (ltK ns)
  refine fin D h3 ec tk3 ((qw its.length (ltK ns)).map fun i=>ys.getD i .non) _ _ ?_ ?_ ?_ eo F3 N3 lt
  ·generalize qw its.length (ltK ns)=is
   induction is with
   | nil=>exact .nil
   | cons i is ih=>exact .cons (xJ rvs i) ih
  ·rw [aL,pm.length_eq,dW,len]
   exact bV (h_ hc.1) (by decide)
  ·intro Hx r
   generalize qw its.length (ltK ns)=is
   induction is with
   | nil=>exact .nil
   | cons i is ih=>exact .cons (RA.flat (zY hc.2 i) (DY r i)) ih
end
theorem M6 {K:Frag} {h:Heap} {c P:Addr} {q:Str} {lp:Pos} (KX:K.In h) (hP:h.get? P=some (tabObj #[])) (hc:codeHdIn K c P=true) (hn:K.lookup P=none) :
 (∀ t ∈ [(P,q,lp)],h.get? t.1=some { cls:=.none,data:=.fields #[] })∧(∀ t ∈ [(P,q,lp)],isCodeTable h t.1)∧∀ t ∈ [(P,q,lp)],K.lookup t.1=none :=
 ⟨fun t ht=>by rw [aQ.mp ht];exact hP,fun t ht=>by rw [aQ.mp ht];exact ((codeHd_of_K KX hc).tab hP).isCodeTable,fun t ht=>by rw [aQ.mp ht];exact hn⟩
theorem JB {P:Addr} {q:Str} {lp:Pos}:∀ t ∈ [(P,q,lp)],∀ t' ∈ [(P,q,lp)],t.1=t'.1→t=t':=fun t ht t' ht' _=>(aQ.mp ht).trans (aQ.mp ht').symm
theorem JC {scope:Scope} {env:Env} {x y:Str} {c:Addr} (hn:scope.names=[(y,.local),(x,.free)]) (h:env.cells.lookup x=some c):closureFor scope env=pure [(x,c)]:=by
 unfold closureFor
 rw [hn]
 simp [cellOf,h]
section
variable {P:Program} {w:World} {K:PySem.W.Frag} {mg:Str→Option Value} {base:Heap} {x:Str} {ps N:List Str} {st:Stmt} {k n:Nat} {fs:FS} {fl:List Fl} {Pt:Addr} {q:Str} {lp:Pos}
structure DgT (K:PySem.W.Frag) (mg:Str→Option Value) (x:Str) (st:Stmt) (ps:List Str) (Pt:Addr) (q:Str) (lp:Pos):Prop where
 ex:∃ (f:Addr) (fd:FuncData) (c:Addr),FunD K x st f fd∧Binds K fd ps []∧mg x=some (.ref f)∧fd.code = .ref c∧codeHdIn K c Pt=true
 tb:(Pt,q,lp) ∈ tabs
theorem Ry {h:Heap} {f c:Addr} {oc kV dc pm ct:Value} {od an:Option Addr} {sl:Array (Option Value)} (X:K.In h) (G:h.Ns mainGlobals mg)
 (hb:∀ (kV doc pm:Value) (an:Option Addr) (cdv ct:Value) (us:List Value),us.length=ps.length→bindArgs (PySem.W.fnOf x x (gQ st) (dI st) (aP st) .none kV doc pm an cdv ct) ⟨us,[]⟩=pure (ps.zip us))
 (a:PySem.W.nsIn K mainGlobals x=some (some (.ref f))) (l:K.lookup f=some ⟨oc,od,.func (PySem.W.fnOf x x (gQ st) (dI st) (aP st) .none kV dc pm an (.ref c) ct),sl⟩) (ci:PySem.W.codeIn K (.ref c) x=true) (k:PySem.W.keepIn K (.ref f)=true)
 (hd:codeHdIn K c Pt=true) (tb:(Pt,q,lp) ∈ tabs):DgT K mg x st ps Pt q lp :=
 ⟨⟨_,_,c,⟨⟨oc,od,.none,kV,dc,pm,an,.ref c,ct,sl,rfl,l,ci⟩,k⟩,.all (hb kV dc pm an (.ref c) ct),PySem.W.mg_of X G a,rfl,hd⟩,tb⟩
theorem okT {f c:Addr} {fd:FuncData} {sp:Sp} (F:FunD K x st f fd) (hcd:fd.code = .ref c) (S:FnScope N ps (aP st)) (len:∀ vs H Q E,sp vs H Q E→vs.length=ps.length)
 (hbody:∀ (A:Around) (outer:List Env) (s:Shared) (H:Hp) (vs:List V) (Q:VK) (E:XK),Room k (A.deeper (envOfC x (aP st) s.heap.objs.size f (.ref c)))→sp vs H Q E →
  ∃ t,PSs (gW CX0 P w K mg base N x (aP st) f (.ref c) A outer s H E).nox (dI st) t∧t { nx:=fun _ H'=>Q .non H',rt:=Q } (L2.start N vs) H):FnOk P w K mg base CX0 (k + 1) f fd ps sp:=by
 obtain ⟨oc,od,dV,kV,doc,pm,an,cdv,ct,osl,rfl,lk,hcd'⟩:=F.ex
 have e:cdv = .ref c:=hcd
 subst e
 refine Hr lk hcd' S len fun A outer s H vs Q E hr hsp=>?_
 obtain ⟨t,h,q⟩:=hbody A outer s H vs Q E hr hsp
 exact ⟨t,h.nox,q⟩
theorem Rz (Dd:DgT K mg x st ps Pt q lp) (S:FnScope N ps (aP st)) (hp:∀ i,i < ps.length→fl[i]? = some .A) (hN:ps.length ≤ N.length)
 (hbody:∀ (f c:Addr) (A:Around) (outer:List Env) (s:Shared) (H:Hp) (E:XK),codeHdIn K c Pt=true→Room k (A.deeper (envOfC x (aP st) s.heap.objs.size f (.ref c)))→DSs (cx P w K mg base N x st f (.ref c) A outer s H E) fl (dI st) fs) :
 Has P w K mg base (k + 1) x ps (spD K (fnD ps.length (N.length - ps.length) fs)):=by
 obtain ⟨f,fd,c,Fn,b,m,hcd,hhd⟩:=Dd.ex
 refine ⟨f,fd,?_,b,Fn.kp,m⟩
 refine okT Fn hcd S (fun vs H Q E h=>?_) (fun A outer s H vs Q E hr h=>?_)
 ·obtain ⟨ds,d,r,hf,_⟩:=h
  unfold fnD at hf
  by_cases z:ds.length=ps.length
  ·rw [r.2.length];exact z
  ·rw [if_neg z] at hf;cases hf
 ·obtain ⟨ds,d,r,hf,q⟩:=h
  refine ⟨_,hbody f c A outer s H E hhd hr,?_⟩
  unfold fnD at hf
  by_cases z:ds.length=ps.length
  ·rw [if_pos z] at hf
   split at hf
   ·next d' e =>
    cases hf
    exact ⟨_,_,_,_,iR ps.length hp z hN r,e,fun v H' s r=>q v H' s r⟩
   ·next δ' e =>
    cases hf
    exact ⟨_,_,_,_,iR ps.length hp z hN r,e,fun ow' σ' H' R'=>q .non H' R'.same0 .non⟩
   ·cases hf
  ·rw [if_neg z] at hf;cases hf
end
end XL
namespace D3
open PySem PySem.Spec PyProof.Rows L2 My
section
variable {X:Cx} {fl:List Fl} {e a b:Expr} {es:List Expr} {f fa fb:FE} {fr:FA} {k:Kd} {pos:Pos}
theorem vA (i:Nat) {x:Str} (hfl:fl[i]? = some .A:=by rfl) (hN:X.N[i]? = some x:=by rfl) (hv:Vis X.env.scope x:=by first | exact Or.inl rfl | exact Or.inr (Or.inl rfl) | exact Or.inr (Or.inr rfl)) (hd:(x == ("__debug__" : Str))=false:=by decide)
 (hcd:(x == ("__classdict__" : Str))=false:=by decide):DE X fl .A (.Name x pos) (aD i):=xZ i hfl hN hv hd hcd
theorem vP (i:Nat) {x:Str} (hfl:fl[i]? = some .A:=by rfl) (hN:X.N[i]? = some x:=by rfl) (hv:Vis X.env.scope x:=by first | exact Or.inl rfl | exact Or.inr (Or.inl rfl) | exact Or.inr (Or.inr rfl)) (hd:(x == ("__debug__" : Str))=false:=by decide)
 (hcd:(x == ("__classdict__" : Str))=false:=by decide):DE X fl .P (.Name x pos) (aD i):=b_ (xZ i hfl hN hv hd hcd)
theorem vB (i:Nat) {x:Str} (hfl:fl[i]? = some .A:=by rfl) (hN:X.N[i]? = some x:=by rfl) (hv:Vis X.env.scope x:=by first | exact Or.inl rfl | exact Or.inr (Or.inl rfl) | exact Or.inr (Or.inr rfl)) (hd:(x == ("__debug__" : Str))=false:=by decide)
 (hcd:(x == ("__classdict__" : Str))=false:=by decide):DE X fl (.B []) (.Name x pos) (aD i):=gP (xZ i hfl hN hv hd hcd)
theorem iP {i j pos}:DE X fl .P (.Constant (.int i) j pos) (dC (.int i)):=bC jC
theorem iC {i j pos}:DE X fl .C (.Constant (.int i) j pos) (dC (.int i)):=jc jC
theorem dz:DB X fl k [] aJ:=Ig
theorem dq (h:DE X fl k e f) (hr:DB X fl k es fr) (hk:isR k=true:=by rfl) (hs:starEach (e :: es) X.env=(false,eval e X.env) :: starEach es X.env:=by exact fD rfl):DB X fl k (e :: es) (aj f fr):=Lk hk h hr hs
theorem dx {L:List Nat} (ha:DE X fl (.B L) a fa) (hb:DE X fl .P b fb) (hs:xW b:=by exact fun _ _=>rfl):DE X fl .A (.Subscript a b pos) (dOp gIx fa fb):=Uu ha hb hs
theorem sA {i:Nat} {x:Str} {pos':Pos} (hN:X.N.Nodup) (h:DE X fl .A e f) (hfl:fl[i]? = some .A:=by rfl) (hi:X.N[i]? = some x:=by rfl) (hv:X.env.scope.names.lookup x=some .local∨X.env.scope.names.lookup x=some .cell:=by first | exact Or.inl rfl | exact Or.inr rfl)
 (hs:swapsWith e (some (.Name x pos')) pos.line X.env=pure false:=by rfl) (hfn:X.fn x=true∨X.env.scope.names.lookup x=some .local:=by first | exact .inl rfl | exact .inr rfl) :
 DS1 X fl (.Assign [.Name x pos'] e pos) (bJ i f):=Lh hfl hN hi hv h hs hfn
theorem gN' {i:Nat} {x:Str} {pos:Pos} (hN:X.N.Nodup) (hfl:fl[i]? = some .A:=by rfl) (hi:X.N[i]? = some x:=by rfl) (hv:X.env.scope.names.lookup x=some .local∨X.env.scope.names.lookup x=some .cell:=by first | exact Or.inl rfl | exact Or.inr rfl)
 (hfn:X.fn x=true∨X.env.scope.names.lookup x=some .local:=by first | exact .inl rfl | exact .inr rfl):DG X fl [i] (.Name x pos) (gNl i):=Li hfl hN hi hv hfn
end
theorem fsc {N P:List Str} {sc:Scope} (a:sc.kind = .function:=by rfl) (b:sc.isCoroutine=false:=by rfl) (c:sc.isGenerator=false:=by rfl) (d:N.Nodup:=by decide +kernel) (e:N.take P.length=P:=by rfl) (f:∀ x ∈ P,sc.names.lookup x=some .local∨sc.names.lookup x=some .cell:=by decide +kernel) (g:∀ y ∈ sc.names,y.2 ≠ .free:=by decide +kernel):FnScope N P sc:=⟨a,b,c,d,e,f,g⟩
end D3
namespace D3
open PySem
def qS (o:Option Oc) (b:FS):Option Oc:=match o with
 | some (.nx δ)=>b δ
 | some o=>some o
 | none=>none
def qI (o:Option Bool) (a b:FS) (δ:DS):Option Oc:=match o with
 | some true=>a δ
 | some false=>b δ
 | none=>none
def qO (g:D→D→Option D) (a b:Option D):Option D:=match a,b with
 | some x,some y=>g x y
 | _,_=>none
def qU (g:D→Option D) (a:Option D):Option D:=match a with
 | some x=>g x
 | none=>none
def qC (a:Option D) (r:Option (List D)):Option (List D):=match a,r with
 | some x,some l=>some (x :: l)
 | _,_=>none
def qF (F:List D→Option D) (l:Option (List D)):Option D:=match l with
 | some l=>F l
 | none=>none
def qR (a:Option D):Option Oc:=match a with
 | some d=>some (.rt d)
 | none=>none
def RB (i:Nat) (a:Option D) (δ:DS):Option Oc:=match a with
 | some d=>if i < δ.length then some (.nx (δ.set i (some (.d d)))) else none
 | none=>none
def Gm (a:Option D) (fb:FE) (δ:DS):Option D:=match a with
 | some (.bool true)=>fb δ
 | some (.bool false)=>some (.bool false)
 | _=>none
def qOr (a:Option D) (fb:FE) (δ:DS):Option D:=match a with
 | some (.bool true)=>some (.bool true)
 | some (.bool false)=>fb δ
 | _=>none
def qN (a:Option D):Option D:=match a with
 | some (.bool b)=>some (.bool (!b))
 | _=>none
def qB (a:Option D):Option Bool:=match a with
 | some (.bool b)=>some b
 | _=>none
def qTA (a:Option Bool) (b:FT) (δ:DS):Option Bool:=match a with
 | some true=>b δ
 | some false=>some false
 | none=>none
def qTO (a:Option Bool) (b:FT) (δ:DS):Option Bool:=match a with
 | some true=>some true
 | some false=>b δ
 | none=>none
def qTN (a:Option Bool):Option Bool:=match a with
 | some b=>some (!b)
 | none=>none
def qE (a:Option Bool) (fa fb:FE) (δ:DS):Option D:=match a with
 | some true=>fa δ
 | some false=>fb δ
 | none=>none
def qL (a:Option D):Option (List D):=match a with
 | some (.list l)=>some l
 | _=>none
def RD (a:Option (List D)) (g:FG) (b:FS) (δ:DS):Option Oc:=match a with
 | some l=>gR g b l δ
 | none=>none
def qD (a:Option DS):Option Oc:=match a with
 | some δ=>some (.nx δ)
 | none=>none
def qG (a:Option D) (g:FG) (δ:DS):Option DS:=match a with
 | some d=>g d δ
 | none=>none
def qGs (a:Option DS) (r:List D→DS→Option DS) (l:List D):Option DS:=match a with
 | some δ=>r l δ
 | none=>none
def qT (a:Option (List D)):Option D:=match a with
 | some l=>if l.length ≤ sizeLine then some (.tuple l) else none
 | none=>none
def qK (a:Option (List D)):Option D:=match a with
 | some l=>if l.length ≤ sizeLine then some (.list l) else none
 | none=>none
def qFl (p:D→Bool) (a:Option D):Option D:=match a with
 | some d=>if p d=true then some d else none
 | none=>none
def qA (i:Nat) (x a:Option D) (δ:DS):Option Oc:=match x,a with
 | some (.list l),some d=>if l.length < 1000000 then some (.nx (δ.set i (some (.d (.list (l++[d])))))) else none
 | _,_=>none
def qP (i:Nat) (a x k:Option D) (δ:DS):Option Oc:=match a,x,k with
 | some d,some (.list l),some (.int j)=>(pIx l.length j).bind fun n=>some (.nx (δ.set i (some (.d (.list (l.set n d))))))
 | _,_,_=>none
def qCh (g':D→D→Option D) (z:Option D) (y:Option D) (fc:FE) (δ:DS):Option D:=match z with
 | some (.bool true)=>qO g' y (fc δ)
 | some (.bool false)=>some (.bool false)
 | _=>none
def qFn (o:Option Oc):Option D:=match o with
 | some (.rt d)=>some d
 | some (.nx _)=>some .none
 | _=>none
def qCo (a:Option (List D)) (g:FG) (c:FT) (e:FE) (t:Nat) (ix:List Nat) (δ:DS):Option D:=match a with
 | some l=>if l.length ≤ 100000 then (match fK g c e (jH t ix δ) l with | some r=>some (.list r) | none=>none) else none
 | none=>none
section
variable {a b:FS} {c c':FT} {fa fb fc:FE} {fr:FA} {δ:DS} {g:D→D→Option D} {h:D→Option D} {F:List D→Option D} {i:Nat} {G:FG} {d:D}
theorem Ve:aW a b δ=qS (a δ) b:=by
 unfold aW qS
 cases a δ with
 | none=>rfl
 | some o=>cases o <;> rfl
theorem JD {δ':DS}:qS (some (.nx δ')) b=b δ':=rfl
theorem JF:qS (some (.rt d)) b=some (.rt d):=rfl
theorem JG {δ':DS}:qS (some (.bk δ')) b=some (.bk δ'):=rfl
theorem JH {δ':DS}:qS (some (.ct δ')) b=some (.ct δ'):=rfl
theorem Vf:bI δ=some (.nx δ):=rfl
theorem WT:sBk δ=some (.bk δ):=rfl
theorem WW:sCt δ=some (.ct δ):=rfl
theorem WX:sIf c a b δ=qI (c δ) a b δ:=by
 unfold sIf qI
 cases c δ with
 | none=>rfl
 | some t=>cases t <;> rfl
theorem RG:qI (some true) a b δ=a δ:=rfl
theorem RJ:qI (some false) a b δ=b δ:=rfl
theorem v_op:dOp g fa fb δ=qO g (fa δ) (fb δ):=by
 unfold dOp qO
 cases fa δ <;> cases fb δ <;> rfl
theorem RK {x y:D}:qO g (some x) (some y)=g x y:=rfl
theorem WY:dUn h fa δ=qU h (fa δ):=by
 unfold dUn qU
 cases fa δ <;> rfl
theorem RM {x:D}:qU h (some x)=h x:=rfl
theorem RN:aJ δ=some []:=rfl
theorem M7:aj fa fr δ=qC (fa δ) (fr δ):=by
 unfold aj qC
 cases fa δ <;> cases fr δ <;> rfl
theorem Gn {x:D} {l:List D}:qC (some x) (some l)=some (x :: l):=rfl
theorem RP:dCall F fr δ=qF F (fr δ):=by
 unfold dCall qF
 cases fr δ <;> rfl
theorem JK {l:List D}:qF F (some l)=F l:=rfl
theorem Vg:bO fa δ=qR (fa δ):=by
 unfold bO qR
 cases fa δ <;> rfl
theorem M8:qR (some d)=some (.rt d):=rfl
theorem RQ:Ul δ=some (.rt .none):=rfl
theorem Vh:bJ i fa δ=RB i (fa δ) δ:=by
 unfold bJ Uk RB
 cases fa δ with
 | none=>simp
 | some d=>rfl
theorem M9:RB i (some d) δ=if i < δ.length then some (.nx (δ.set i (some (.d d)))) else none:=rfl
theorem v_c:dC d δ=some d:=rfl
theorem v_and:qg fa fb δ=Gm (fa δ) fb δ:=by
 unfold qg Gm
 cases fa δ with
 | none=>rfl
 | some x =>
  cases x <;> try rfl
  next b=>cases b <;> rfl
theorem M_:Gm (some (.bool true)) fb δ=fb δ:=rfl
theorem Nb:Gm (some (.bool false)) fb δ=some (.bool false):=rfl
theorem v_or:dOr fa fb δ=qOr (fa δ) fb δ:=by
 unfold dOr qOr
 cases fa δ with
 | none=>rfl
 | some x =>
  cases x <;> try rfl
  next b=>cases b <;> rfl
theorem RV:qOr (some (.bool true)) fb δ=some (.bool true):=rfl
theorem RW:qOr (some (.bool false)) fb δ=fb δ:=rfl
theorem v_not:HD fa δ=qN (fa δ):=by
 unfold HD qN
 cases fa δ with
 | none=>rfl
 | some x=>cases x <;> rfl
theorem Nf {b:Bool}:qN (some (.bool b))=some (.bool (!b)):=rfl
theorem W0:aM fa δ=qB (fa δ):=by
 unfold aM qB
 cases fa δ with
 | none=>rfl
 | some x=>cases x <;> rfl
theorem RX {b:Bool}:qB (some (.bool b))=some b:=rfl
theorem RZ:D3.mW c c' δ=qTA (c δ) c' δ:=by
 unfold D3.mW qTA
 cases c δ with
 | none=>rfl
 | some t=>cases t <;> rfl
theorem JL:qTA (some true) c δ=c δ:=rfl
theorem JM:qTA (some false) c δ=some false:=rfl
theorem Vi:D3.tOr c c' δ=qTO (c δ) c' δ:=by
 unfold D3.tOr qTO
 cases c δ with
 | none=>rfl
 | some t=>cases t <;> rfl
theorem Ng:qTO (some true) c δ=some true:=rfl
theorem Nh:qTO (some false) c δ=c δ:=rfl
theorem R3:D3.dG c δ=qTN (c δ):=by
 unfold D3.dG qTN
 cases c δ <;> rfl
theorem JN {b:Bool}:qTN (some b)=some (!b):=rfl
theorem v_ite:dIf c fa fb δ=qE (c δ) fa fb δ:=by
 unfold dIf qE
 cases c δ with
 | none=>rfl
 | some t=>cases t <;> rfl
theorem Ni:qE (some true) fa fb δ=fa δ:=rfl
theorem Nj:qE (some false) fa fb δ=fb δ:=rfl
theorem Vj:lB fa δ=qL (fa δ):=by
 unfold lB qL asList
 cases fa δ with
 | none=>rfl
 | some x=>cases x <;> rfl
theorem Nk {l:List D}:qL (some (.list l))=some l:=rfl
theorem Vk:pO fr G b δ=RD (fr δ) G b δ:=by
 unfold pO RD
 cases fr δ <;> rfl
theorem Nm {l:List D}:RD (some l) G b δ=gR G b l δ:=rfl
theorem Gp:gR G b [] δ=some (.nx δ):=rfl
theorem Vl:K8 fa G δ=qD (qG (fa δ) G δ):=by
 unfold K8 qG qD
 cases fa δ with
 | none=>rfl
 | some d =>
  dsimp only [aH]
  cases G d δ <;> rfl
theorem Np:qG (some d) G δ=G d δ:=rfl
theorem Nq {δ':DS}:qD (some δ')=some (.nx δ'):=rfl
theorem W2:gNl i d δ=if i < δ.length then some (δ.set i (some (.d d))) else none:=rfl
theorem W3 {n:Nat} {gs:List D→DS→Option DS} {l:List D}:gTn n gs (.tuple l) δ=if l.length=n then gs l δ else none:=rfl
theorem Vm:mj [] δ=some δ:=rfl
theorem Vo {gs:List D→DS→Option DS} {l:List D}:eX G gs (d :: l) δ=qGs (G d δ) gs l:=by
 show (G d δ).bind (fun δ'=>gs l δ')=qGs (G d δ) gs l
 cases G d δ <;> rfl
theorem Nr {gs:List D→DS→Option DS} {l:List D} {δ':DS}:qGs (some δ') gs l=gs l δ':=rfl
theorem Vp:dTup fr δ=qT (fr δ):=by
 unfold dTup qT
 cases fr δ <;> rfl
theorem Nt {l:List D}:qT (some l)=if l.length ≤ sizeLine then some (.tuple l) else none:=rfl
theorem W4:d_ fr δ=qK (fr δ):=by
 unfold d_ qK
 cases fr δ <;> rfl
theorem R5 {l:List D}:qK (some l)=if l.length ≤ sizeLine then some (.list l) else none:=rfl
theorem R6:eE fa δ=qFl flat (fa δ):=by
 unfold eE qFl
 cases fa δ <;> rfl
theorem Vq:Ba fa δ=qFl fl1 (fa δ):=by
 unfold Ba qFl
 cases fa δ <;> rfl
theorem R7 {p:D→Bool}:qFl p (some d)=if p d=true then some d else none:=rfl
theorem Vr:Fi i fa δ=qA i (aD i δ) (fa δ) δ:=by
 unfold Fi qA
 cases aD i δ with
 | none=>rfl
 | some x =>
  cases fa δ with
  | none=>cases x <;> rfl
  | some d=>cases x <;> rfl
theorem Nu {l:List D}:qA i (some (.list l)) (some d) δ=if l.length < 1000000 then some (.nx (δ.set i (some (.d (.list (l++[d])))))) else none:=rfl
theorem Vs {fk:FE}:vV i fk fa δ=qP i (fa δ) (aD i δ) (fk δ) δ:=by
 unfold vV qP
 cases fa δ with
 | none=>rfl
 | some d =>
  cases aD i δ with
  | none=>rfl
  | some x =>
   cases fk δ with
   | none=>cases x <;> rfl
   | some k=>cases x <;> cases k <;> rfl
theorem Nv {l:List D} {j:Int}:qP i (some d) (some (.list l)) (some (.int j)) δ=(pIx l.length j).bind fun n=>some (.nx (δ.set i (some (.d (.list (l.set n d)))))):=rfl
theorem Nx {g':D→D→Option D}:oW g g' fa fb fc δ=qCh g' (qO g (fa δ) (fb δ)) (fb δ) fc δ:=by
 unfold oW qCh qO
 cases fa δ with
 | none=>rfl
 | some x =>
  cases fb δ with
  | none=>rfl
  | some y =>
   dsimp only [aH]
   cases g x y with
   | none=>rfl
   | some z =>
    cases z <;> try rfl
    next b =>
    cases b with
    | false=>rfl
    | true=>dsimp only [aH];cases fc δ <;> rfl
theorem Gq {g':D→D→Option D} {y:Option D}:qCh g' (some (.bool true)) y fc δ=qO g' y (fc δ):=rfl
theorem Gs {g':D→D→Option D} {y:Option D}:qCh g' (some (.bool false)) y fc δ=some (.bool false):=rfl
theorem Vt {p q:Nat} {ds:List D}:fnD p q b ds=if ds.length=p then qFn (b (ds.map (fun d=>some (.d d))++aK q none)) else none:=by
 unfold fnD qFn
 rfl
theorem Ny:qFn (some (.rt d))=some d:=rfl
theorem Nz {δ':DS}:qFn (some (.nx δ'))=some .none:=rfl
theorem R8 {t:Nat} {ix:List Nat}:iT fr G c fa t ix δ=qCo (fr δ) G c fa t ix δ:=by
 unfold iT qCo
 cases fr δ with
 | none=>rfl
 | some l =>
  dsimp only [aH]
  by_cases z:l.length ≤ 100000
  ·rw [if_pos z,if_pos z]
   cases fK G c fa (jH t ix δ) l <;> rfl
  ·rw [if_neg z,if_neg z]
theorem JQ {t:Nat} {ix:List Nat} {l:List D}:qCo (some l) G c fa t ix δ=if l.length ≤ 100000 then (match fK G c fa (jH t ix δ) l with | some r=>some (.list r) | none=>none) else none:=rfl
theorem Vu:D3.jA δ=some true:=rfl
theorem R9 {r:DS} {x:D}:aD 0 (some (.d x) :: r)=some x:=rfl
theorem R_ {r:DS} {y:Option U}:aD (i + 1) (y :: r)=aD i r:=rfl
end
section
variable {i j:Int} {l m:List D} {d:D}
theorem Vv:iW (.int i) (.int j)=some (.int (i + j)):=rfl
theorem Vw:xV (.int i) (.int j)=some (.int (i - j)):=rfl
theorem W5:gLt (.int i) (.int j)=some (.bool (decide (i < j))):=rfl
theorem W6:gLe (.int i) (.int j)=some (.bool (decide (i ≤ j))):=rfl
theorem W7:gGt (.int i) (.int j)=some (.bool (decide (j < i))):=rfl
theorem W8:gGe (.int i) (.int j)=some (.bool (decide (j ≤ i))):=rfl
theorem Vx:gEq (.int i) (.int j)=some (.bool (decide (i=j))):=rfl
theorem JR:gNe (.int i) (.int j)=some (.bool (!decide (i=j))):=rfl
theorem Vy:jB [.list l]=some (.int l.length):=rfl
theorem Sd:jB [.tuple l]=some (.int l.length):=rfl
theorem nF:∀ ns:List Int,jm (ns.map .int)=some ns
 | []=>rfl
 | n :: r=>by rw [bH,jm,nF r];rfl
theorem Vz:Wz [.int i]=some (.int (if i < 0 then -i else i)):=rfl
theorem vh:oE [.int i,.int j]=some (.int (if j > i then j else i)):=rfl
theorem xM:pW [.int i,.int j]=some (.int (if j < i then j else i)):=rfl
theorem VB:HN (.int i)=some (.int (-i)):=rfl
theorem W9:gIx (.list l) (.int i)=pAt l i:=rfl
theorem VD:gIx (.tuple l) (.int i)=pAt l i:=rfl
theorem xO:pQ (.list l) (.list m)=if l.length + m.length ≤ 1000000 then some (.list (l++m)) else none:=rfl
theorem Sg:rG (.list l)=some (.list l):=rfl
theorem NK:rG (.tuple l)=some (.list l):=rfl
theorem VF:pAt (d :: l) 0=some d:=by
 unfold pAt pIx
 rw [if_pos (by decide),if_pos (by simp)]
 rfl
end
def Sq (i j:Nat) (a:Option (List D)) (δ:DS):Option Oc:=match a with
 | some l=>match l with
  | [x,y]=>if i < δ.length∧j < δ.length then some (.nx ((δ.set i (some (.d x))).set j (some (.d y)))) else none
  | _=>none
 | none=>none
def vm (a:Option (List D)):Option (List D):=match a with
 | some l=>match l with
  | [.int j]=>if uO j=true then some (jK 0 j) else none
  | _=>none
 | none=>none
def Pk (a:Option (List D)):Option (List D):=match a with
 | some l=>match l with
  | [.int i,.int j]=>if (uO i && uO j)=true then some (jK i j) else none
  | _=>none
 | none=>none
def qSl (x:Option D) (a b:Option (Option Int)):Option D:=match x,a,b with
 | some (.list l),some a,some b=>some (.list (cutD l a b))
 | _,_,_=>none
def qOP (x:Option D):Option (Option Int):=match x with
 | some (.int i)=>some (some i)
 | _=>none
def qEn (x:Option D):Option (List D):=match x with
 | some (.list l)=>some (jo l)
 | _=>none
section
variable {a b:FS} {fa:FE} {fr:FA} {δ:DS} {i j:Nat} {g:FG}
theorem VG:Uq i j fr δ=Sq i j (fr δ) δ:=by
 unfold Uq Sq
 cases fr δ with
 | none=>rfl
 | some l=>rfl
theorem NP {x y:D}:Sq i j (some [x,y]) δ=if i < δ.length∧j < δ.length then some (.nx ((δ.set i (some (.d x))).set j (some (.d y)))) else none:=rfl
theorem Sv:tK fr δ=vm (fr δ):=by
 unfold tK vm
 cases fr δ with
 | none=>rfl
 | some l=>rfl
theorem JT {k:Int} (h : -(2 ^ 62) ≤ k) (h2:k < 2 ^ 62):vm (some [.int k])=some (jK 0 k):=by
 show (if uO k=true then some (jK 0 k) else none)=_
 rw [if_pos]
 unfold uO
 rw [dTr h,dTr h2]
 rfl
theorem Sw:O2 fr δ=Pk (fr δ):=by
 unfold O2 Pk
 cases fr δ with
 | none=>rfl
 | some l=>rfl
theorem W_ {lo hi:FO}:dSl fa lo hi δ=qSl (fa δ) (lo δ) (hi δ):=by
 unfold dSl qSl
 cases fa δ with
 | none=>rfl
 | some x =>
  dsimp only [aH]
  cases lo δ with
  | none=>cases x <;> rfl
  | some p =>
   dsimp only [aH]
   cases hi δ with
   | none=>cases x <;> rfl
   | some r=>cases x <;> rfl
theorem Sx {l:List D} {p r:Option Int}:qSl (some (.list l)) (some p) (some r)=some (.list (cutD l p r)):=rfl
theorem Xa:Uo δ=some none:=rfl
theorem Xb:O3 fa δ=qOP (fa δ):=by
 unfold O3 qOP
 cases fa δ with
 | none=>rfl
 | some x=>cases x <;> rfl
theorem Sy {k:Int}:qOP (some (.int k))=some (some k):=rfl
theorem SJ:oX fa δ=qEn (fa δ):=by
 unfold oX qEn
 cases fa δ with
 | none=>rfl
 | some x=>cases x <;> rfl
theorem JV {l:List D}:qEn (some (.list l))=some (jo l):=rfl
theorem sy (Inv:Nat→DS→Prop):∀ (l:List D) (δ:DS),Inv 0 δ→(∀ i d δ,l[i]? = some d→Inv i δ→∃ δ1 δ',g d δ=some δ1∧(b δ1=some (.nx δ')∨b δ1=some (.ct δ'))∧Inv (i + 1) δ')→∃ δ',gR g b l δ=some (.nx δ')∧Inv l.length δ':=by
 have key:∀ (l:List D) (k:Nat) (δ:DS),Inv k δ→(∀ i d δ,l[i]? = some d→Inv (k + i) δ→∃ δ1 δ',g d δ=some δ1∧(b δ1=some (.nx δ')∨b δ1=some (.ct δ'))∧Inv (k + i + 1) δ')→∃ δ',gR g b l δ=some (.nx δ')∧Inv (k + l.length) δ':=by
  intro l
  induction l with
  | nil=>exact fun k δ h _=>⟨δ,rfl,h⟩
  | cons d r ih =>
   intro k δ h hs
   obtain ⟨δ1,δ',e1,e2,e3⟩:=hs 0 d δ rfl h
   obtain ⟨δ2,e4,e5⟩:=ih (k + 1) δ' e3 fun i d' δ'' hd hi=>by
    have:=hs (i + 1) d' δ'' (by simpa using hd) (by rw [show k + (i + 1)=k + 1 + i by omega];exact hi)
    rw [show k + (i + 1) + 1=k + 1 + i + 1 by omega] at this
    exact this
   refine ⟨δ2,?_,by rw [bZ,show k + (r.length + 1)=k + 1 + r.length by omega];exact e5⟩
   rw [gR,e1,aH]
   rcases e2 with e2 | e2
   ·rw [e2];exact e4
   ·rw [e2];exact e4
 intro l δ h hs
 have:=key l 0 δ h fun i d δ hd hi=>by
  have:=hs i d δ hd (by rw [lu] at hi;exact hi)
  rw [lu]
  exact this
 rw [lu] at this
 exact this
end
def qX (a:Option D) (δ:DS):Option Oc:=match a with
 | some _=>some (.nx δ)
 | none=>none
theorem SM {fa:FE} {δ:DS}:O1 fa δ=qX (fa δ) δ:=by
 unfold O1 qX
 cases fa δ <;> rfl
theorem JW {d:D} {δ:DS}:qX (some d) δ=some (.nx δ):=rfl
theorem JX {g g' g'':D→D→Option D} {fa fb fc fd:FE} {δ:DS}:um g g' g'' fa fb fc fd δ=Gm (qO g (fa δ) (fb δ)) (oW g' g'' fb fc fd) δ:=by
 unfold um Gm oW qO
 cases fa δ with
 | none=>rfl
 | some x =>
  cases fb δ with
  | none=>rfl
  | some y =>
   dsimp only [aH]
   cases g x y with
   | none=>rfl
   | some z =>
    cases z <;> try rfl
    next b=>cases b <;> rfl
def qZ (a b:Option D):Option (List D):=match a,b with
 | some (.list l),some (.list m)=>some (K9 l m)
 | _,_=>none
theorem VH {f g:FE} {δ:DS}:Ur f g δ=qZ (f δ) (g δ):=by
 unfold Ur qZ
 cases f δ with
 | none=>rfl
 | some x =>
  cases g δ with
  | none=>cases x <;> rfl
  | some y=>cases x <;> cases y <;> rfl
theorem NQ {l m:List D}:qZ (some (.list l)) (some (.list m))=some (K9 l m):=rfl
theorem Xc {fa:FE} {δ:DS}:dN1 fa δ=qFl (fun d=>decide (nl d ≤ 1)) (fa δ):=by
 unfold dN1 qFl
 cases fa δ <;> rfl
theorem VJ:flat .none=true:=rfl
theorem Xd {b:Bool}:flat (.bool b)=true:=rfl
theorem f_int {i:Int}:flat (.int i)=true:=rfl
theorem VL {x:Str}:flat (.str x)=true:=rfl
theorem VN {l:List D}:flat (.list l)=false:=rfl
theorem f_tup {l:List D}:flat (.tuple l)=flats l:=rfl
theorem VP:flats []=true:=rfl
theorem SN {d:D} {l:List D}:flats (d :: l)=(flat d && flats l):=rfl
theorem SX:fl1 .none=true:=rfl
theorem VR {b:Bool}:fl1 (.bool b)=true:=rfl
theorem S5 {i:Int}:fl1 (.int i)=true:=rfl
theorem S6 {x:Str}:fl1 (.str x)=true:=rfl
theorem yK {l:List D}:fl1 (.list l)=flats l:=rfl
theorem S7 {l:List D}:fl1 (.tuple l)=flats l:=rfl
theorem Xe {c:String} {d:D}:gIs c d=some (.bool (isT c (tyD d))):=rfl
theorem V0 {d:D}:vW d=some (.bool (isNone d)):=rfl
theorem S8 {d:D}:mq d=some (.bool (!isNone d)):=rfl
theorem V1:isNone .none=true:=rfl
theorem Xf {b:Bool}:isNone (.bool b)=false:=rfl
theorem V2 {i:Int}:isNone (.int i)=false:=rfl
theorem V3 {x:Str}:isNone (.str x)=false:=rfl
theorem V4 {l:List D}:isNone (.list l)=false:=rfl
theorem V5 {l:List D}:isNone (.tuple l)=false:=rfl
theorem V6 {l:List (D × D)}:isNone (.dict l)=false:=rfl
def EVL:=And.intro @VJ <| And.intro @Xd <| And.intro @f_int <| And.intro @VL <| And.intro @VN <| And.intro @f_tup <| And.intro @VP <| And.intro @SN <| And.intro @SX <| And.intro @VR <| And.intro @S5 <| And.intro @S6 <| And.intro @yK <| And.intro @S7 <| And.intro @Xe <| And.intro @V0 <| And.intro @S8 <| And.intro @V1 <| And.intro @Xf <| And.intro @V2 <| And.intro @V3 <| And.intro @V4 <| And.intro @V5 <| And.intro @V6 <| And.intro @bZ.{0} <| And.intro @iH.{0} <| And.intro @bH.{0,0} <| And.intro @qH.{0,0} <| And.intro @cQ.{0} <| And.intro @List.replicate_zero.{0} <| And.intro @List.cons_append.{0} <| And.intro @kJ.{0} <| And.intro @eV.{0} <| And.intro @List.set_cons_zero.{0} <| And.intro @List.set_cons_succ.{0} <| And.intro @lu <| And.intro @if_true.{1} <| And.intro @decide_true <| And.intro @decide_false <| And.intro @Int.cast_ofNat_Int <| And.intro @pR <| And.intro @Bool.not_false <| @Bool.and_self
def EV:=And.intro EVL <| And.intro @Xc <| And.intro @VH <| And.intro @NQ <| And.intro @SM <| And.intro @JW <| And.intro @JX <| And.intro @Ve (And.intro @JD (And.intro @JF (And.intro @JG (And.intro @JH (And.intro @Vf (And.intro @WT (And.intro @WW (And.intro @WX (And.intro @RG (And.intro @RJ (And.intro @v_op (And.intro @RK (And.intro @WY (And.intro @RM (And.intro @RN (And.intro @M7 (And.intro @Gn (And.intro @RP (And.intro @JK (And.intro @Vg (And.intro @M8 (And.intro @RQ (And.intro @Vh (And.intro @M9 (And.intro @v_c (And.intro @v_and (And.intro @M_ (And.intro @Nb (And.intro @v_or (And.intro @RV (And.intro @RW (And.intro @v_not (And.intro @Nf (And.intro @W0 (And.intro @RX (And.intro @RZ (And.intro @JL (And.intro @JM (And.intro @Vi (And.intro @Ng (And.intro @Nh (And.intro @R3 (And.intro @JN (And.intro @v_ite (And.intro @Ni (And.intro @Nj (And.intro @Vj (And.intro @Nk (And.intro @Vk (And.intro @Nm (And.intro @Gp (And.intro @Vl (And.intro @Np (And.intro @Nq (And.intro @W2 (And.intro @W3 (And.intro @Vm (And.intro @Vo (And.intro @Nr (And.intro @Vp (And.intro @Nt (And.intro @W4 (And.intro @R5 (And.intro @R6 (And.intro @Vq (And.intro @R7 (And.intro @Vr (And.intro @Nu (And.intro @Vs (And.intro @Nv (And.intro @Nx (And.intro @Gq (And.intro @Gs (And.intro @Vt (And.intro @Ny (And.intro @Nz (And.intro @R8 (And.intro @JQ (And.intro @Vu (And.intro @R9 (And.intro @R_ (And.intro @Vv (And.intro @Vw (And.intro @W5 (And.intro @W6 (And.intro @W7 (And.intro @W8 (And.intro @Vx (And.intro @JR (And.intro @Vy (And.intro @Sd (And.intro @Vz (And.intro @vh (And.intro @xM (And.intro @VB (And.intro @W9 (And.intro @VD (And.intro @xO (And.intro @Sg (And.intro @NK (And.intro @VF (And.intro @VG (And.intro @NP (And.intro @Sv (And.intro @Sw (And.intro @W_ (And.intro @Sx (And.intro @Xa (And.intro @Xb (And.intro @Sy (And.intro @SJ @JV)))))))))))))))))))))))))))))))))))))))))))))))))))))))))))))))))))))))))))))))))))))))))))))))))))))))))))))))
end D3
namespace My
def mU (ns:List Int) (i:Int):Int :=
 if i < (ns.length:Int) then ns.getD i.toNat 0 % 1000000007
 else if ns=[] then 7919 * i + 5000011
 else ns.getD (i * 7 % (ns.length:Int)).toNat 0 % 1000000007 + 7919 * i
def divs (n:Int):Nat→Int
 | 0=>n
 | k + 1=>divs n k / 1000003
def Ef (c i k m:Int):Int :=
 (((c + 65537 * i + 3) * (1299709 + 15485863 * k) % 2147483629 * ((c + 65537 * i + 3) * (1299709 + 15485863 * k) % 2147483629) % 1500450271 + 104729) *
  ((c + 65537 * i + 3) * (1299709 + 15485863 * k) % 2147483629 * ((c + 65537 * i + 3) * (1299709 + 15485863 * k) % 2147483629) % 1500450271 + 104729)) % 715827883 / 64 % m
def fM (ns:List Int) (i k m:Int):Int :=
 if i < (ns.length:Int)∧10 ^ 40 ≤ ns.getD i.toNat 0∧0 < divs (ns.getD i.toNat 0) k.toNat then divs (ns.getD i.toNat 0) k.toNat % 1000003 % m
 else Ef (mU ns i) i k m
theorem cD (ns:List Int) (i k:Int) {m:Int} (h:0 < m):0 ≤ fM ns i k m∧fM ns i k m < m:=by
 unfold fM Ef
 split
 ·exact ⟨jx _ (by omega),ig _ h⟩
 ·exact ⟨jx _ (by omega),ig _ h⟩
theorem Gu {ns:List Int} {i k m:Int} (h1:i < (ns.length:Int)) (h2:10 ^ 40 ≤ ns.getD i.toNat 0) (h3:0 < divs (ns.getD i.toNat 0) k.toNat) :
 fM ns i k m=divs (ns.getD i.toNat 0) k.toNat % 1000003 % m:=by
 unfold fM
 rw [if_pos ⟨h1,h2,h3⟩]
theorem qx {ns:List Int} {i k m:Int} (h:¬ (i < (ns.length:Int)∧10 ^ 40 ≤ ns.getD i.toNat 0∧0 < divs (ns.getD i.toNat 0) k.toNat)) :
 fM ns i k m=Ef (mU ns i) i k m:=by
 unfold fM
 rw [if_neg h]
end My
namespace Com
open PySem D3
noncomputable def eN:List D→Option D:=fnD 1 0 (bO (qg (dUn (gIs "int") (aD 0)) (HD (dUn (gIs "bool") (aD 0)))))
noncomputable def gZ:List D→Option D:=fnD 2 0 (aW (sIf (aM (dOp gLt (aD 1) (dCall jB (aj (aD 0) (aJ))))) (bO (dOp qj (dOp gIx (aD 0) (aD 1)) (dC (.int 1000000007)))) (bI))
 (aW (sIf (aM (dOp gEq (aD 0) (d_ (aJ)))) (bO (dOp iW (dOp nW (dC (.int 7919)) (aD 1)) (dC (.int 5000011)))) (bI))
 (bO (dOp iW (dOp qj (dOp gIx (aD 0) (dOp qj (dOp nW (aD 1) (dC (.int 7))) (dCall jB (aj (aD 0) (aJ))))) (dC (.int 1000000007))) (dOp nW (dC (.int 7919)) (aD 1))))))
noncomputable def bA:List D→Option D:=fnD 4 2 (aW (sIf (D3.mW (aM (dOp gLt (aD 1) (dCall jB (aj (aD 0) (aJ))))) (aM (dOp gGe (dOp gIx (aD 0) (aD 1)) (dOp QS (dC (.int 10)) (dC (.int 40)))))) (aW (bJ 4 (dOp gIx (aD 0) (aD 1)))
 (aW (pO (tK (aj (aD 2) (aJ))) (gNl 5) (bJ 4 (dOp zF (aD 4) (dC (.int 1000003)))))
 (sIf (aM (dOp gGt (aD 4) (dC (.int 0)))) (bO (dOp qj (dOp qj (aD 4) (dC (.int 1000003))) (aD 3))) (bI)))) (bI))
 (aW (bJ 4 (dOp qj (dOp nW (dOp iW (dOp iW (dCall gZ (aj (aD 0) (aj (aD 1) (aJ)))) (dOp nW (dC (.int 65537)) (aD 1))) (dC (.int 3))) (dOp iW (dC (.int 1299709)) (dOp nW (dC (.int 15485863)) (aD 2)))) (dC (.int 2147483629))))
 (aW (bJ 4 (dOp iW (dOp qj (dOp nW (aD 4) (aD 4)) (dC (.int 1500450271))) (dC (.int 104729))))
 (bO (dOp qj (dOp zF (dOp qj (dOp nW (aD 4) (aD 4)) (dC (.int 715827883))) (dC (.int 64))) (aD 3))))))
noncomputable def cP:List D→Option D:=fnD 1 0 (bO (qg (dUn (gIs "int") (aD 0)) (HD (dUn (gIs "bool") (aD 0)))))
noncomputable def iV:List D→Option D:=fnD 2 0 (bO (oW gLe gLt (dOp gIx (aD 0) (dC (.int 0))) (aD 1) (dOp gIx (aD 0) (dC (.int 1)))))
noncomputable def nG:List D→Option D:=fnD 2 2 (aW (bJ 2 (dCall oE (aj (dOp gIx (aD 0) (dC (.int 0))) (aj (dOp gIx (aD 1) (dC (.int 0))) (aJ)))))
 (aW (bJ 3 (dCall pW (aj (dOp gIx (aD 0) (dC (.int 1))) (aj (dOp gIx (aD 1) (dC (.int 1))) (aJ)))))
 (aW (sIf (aM (dOp gGe (aD 2) (aD 3))) (bO (dC (.none))) (bI))
 (bO (dTup (aj (eE (aD 2)) (aj (eE (aD 3)) (aJ))))))))
noncomputable def lJ:List D→Option D:=fnD 2 0 (bO (dUn mq (dCall nG (aj (aD 0) (aj (aD 1) (aJ))))))
noncomputable def je:List D→Option D:=fnD 2 0 (bO (dCall jB (aj (iT (lB (aD 0)) (gNl 0) (aM (dCall iV (aj (aD 0) (aj (aD 1) (aJ))))) (eE (aD 0)) 1 [1]) (aJ))))
noncomputable def mG:List D→Option D:=fnD 1 0 (bO (iT (lB (aD 0)) (gNl 0) (jA) (eE (dOp gIx (aD 0) (dC (.int 0)))) 1 []))
noncomputable def jO:List D→Option D:=fnD 3 2 (aW (bJ 3 (iT (lB (dCall mG (aj (aD 0) (aJ)))) (gNl 0) (aM (dOp gGt (aD 0) (aD 1))) (eE (aD 0)) 1 [2]))
 (aW (pO (lB (dOp pQ (d_ (aj (aD 2) (aJ))) (dCall pU (aj (aD 3) (aJ))))) (gNl 4) (sIf (aM (dOp gGt (dCall je (aj (aD 0) (aj (aD 4) (aJ)))) (aD 1))) (bO (eE (aD 4))) (bI)))
 (bO (dC (.none)))))
noncomputable def cH:List D→Option D:=fnD 1 0 (bO (dTup (aj (eE (dOp gIx (aD 0) (dC (.int 0)))) (aj (eE (dOp gIx (aD 0) (dC (.int 1)))) (aJ)))))
noncomputable def f9:List D→Option D:=fnD 3 2 (aW (bJ 3 (dOp HS (d_ (aj (aD 2) (aJ))) (aD 1)))
 (aW (pO (lB (aD 0)) (gNl 4) (sIf (aM (dUn mq (dOp gIx (aD 4) (dC (.int 2))))) (vV 3 (dOp gIx (aD 4) (dC (.int 2))) (dOp gIx (aD 4) (dC (.int 1)))) (bI)))
 (bO (Ba (aD 3)))))
noncomputable def gj:List D→Option D:=fnD 2 0 (bO (eE (dOp gIx (iT (oX (aD 0)) (gTn 2 (eX (gNl 0) (eX (gNl 1) (mj)))) (aM (dOp gLe (aD 1) (aD 2))) (eE (aD 0)) 2 [1]) (dC (.int 0)))))
noncomputable def cN:List D→Option D:=fnD 3 1 (aW (pO (lB (dCall pU (aj (dOp pQ (d_ (aj (aD 2) (aJ))) (iT (lB (aD 0)) (gNl 0) (jA) (dCall oE (aj (aD 1) (aj (dOp gIx (aD 0) (dC (.int 0))) (aJ)))) 1 [2])) (aJ)))) (gNl 3) (sIf (aM (dOp gGt (dCall jB (aj (iT (lB (aD 0)) (gNl 0) (D3.mW (aM (dOp gLe (dOp gIx (aD 0) (dC (.int 0))) (aD 1))) (aM (dOp gLt (aD 1) (dOp gIx (aD 0) (dC (.int 1)))))) (eE (aD 0)) 1 [3]) (aJ))) (aD 1))) (bO (eE (aD 3))) (bI)))
 (bO (dC (.none))))
noncomputable def fO:List D→Option D:=fnD 1 2 (aW (bJ 1 (d_ (aj (dC (.int 0)) (aj (dCall bA (aj (aD 0) (aj (dC (.int 0)) (aj (dC (.int 1)) (aj (dC (.int 40)) (aJ)))))) (aj (dCall bA (aj (aD 0) (aj (dC (.int 0)) (aj (dC (.int 1)) (aj (dC (.int 400)) (aJ)))))) (aj (dOp xV (dC (.int 399)) (dCall bA (aj (aD 0) (aj (dC (.int 0)) (aj (dC (.int 1)) (aj (dC (.int 4)) (aJ))))))) (aJ)))))))
 (aW (bJ 2 (d_ (aj (dCall bA (aj (aD 0) (aj (dC (.int 0)) (aj (dC (.int 3)) (aj (dC (.int 4)) (aJ)))))) (aj (dOp iW (dC (.int 1)) (dCall bA (aj (aD 0) (aj (dC (.int 0)) (aj (dC (.int 3)) (aj (dC (.int 3)) (aJ))))))) (aj (dCall bA (aj (aD 0) (aj (dC (.int 0)) (aj (dC (.int 3)) (aj (dC (.int 13)) (aJ)))))) (aJ))))))
 (bO (dTup (aj (eE (dOp gIx (aD 2) (dCall bA (aj (aD 0) (aj (dC (.int 0)) (aj (dC (.int 4)) (aj (dC (.int 3)) (aJ)))))))) (aj (eE (dOp gIx (aD 1) (dCall bA (aj (aD 0) (aj (dC (.int 0)) (aj (dC (.int 2)) (aj (dC (.int 4)) (aJ)))))))) (aJ)))))))
noncomputable def cV:List D→Option D:=fnD 3 0 (aW (sIf (aM (dUn mq (dOp gIx (aD 0) (dC (.int 2))))) (bO (dOp gEq (aD 1) (dOp gIx (aD 0) (dC (.int 2))))) (bI))
 (bO (oW gLe gLt (dC (.int 0)) (aD 1) (aD 2))))
noncomputable def eU:List D→Option D:=fnD 3 1 (aW (pO (tK (aj (aD 2) (aJ))) (gNl 3) (sIf (D3.mW (aM (dOp gEq (dOp gIx (aD 1) (aD 3)) (dOp gIx (aD 1) (aD 2)))) (aM (dCall lJ (aj (dCall cH (aj (dOp gIx (aD 0) (aD 3)) (aJ))) (aj (dCall cH (aj (dOp gIx (aD 0) (aD 2)) (aJ))) (aJ)))))) (bO (dC (.bool false))) (bI)))
 (bO (dC (.bool true))))
end Com
namespace Com
open PySem D3 My
theorem sE {ns:List Int} {i:Int} (h0:0 ≤ i) (h1:i < ns.length):pAt (ns.map PyData.int) i=some (.int (ns.getD i.toNat 0)):=by
 unfold pAt pIx
 rw [aL,if_pos h0,if_pos h1,aH,bx]
 have h:i.toNat < ns.length:=by omega
 rw [bf h]
 simp [List.getD,h]
theorem n_ {l:List D} {k:Nat}:pAt l (k:Int)=l[k]?:=by
 unfold pAt pIx
 rw [if_pos (by omega)]
 by_cases h:k < l.length
 ·rw [if_pos (by omega),aH]
  simp
 ·rw [if_neg (by omega),bD (by omega)]
  rfl
theorem at0 {a:D} {l:List D}:pAt (a :: l) 0=some a:=n_ (k:=0)
theorem at1 {a b:D} {l:List D}:pAt (a :: b :: l) 1=some b:=n_ (k:=1)
theorem yL {i j:Int} (h:0 < j):qj (.int i) (.int j)=some (.int (i % j)):=by
 show (if decide (j ≠ 0)=true then some (PyData.int (i.fmod j)) else none)=_
 rw [if_pos (dTr (by omega)),Int.fmod_eq_emod_of_nonneg i (by omega)]
theorem JZ {j:Int} (h:j.natAbs < 2 ^ 64):j.natAbs < 2 ^ 9000:=bQ h (Nat.pow_le_pow_right (by decide) (by decide))
theorem Xh {i j:Int} (h:0 < j) (h2:j.natAbs < 2 ^ 9000):zF (.int i) (.int j)=some (.int (i / j)):=by
 show (if Bb i j=true then some (PyData.int (i.fdiv j)) else none)=_
 have e:Bb i j=true:=by
  unfold Bb
  rw [aU]
  exact ⟨dTr (by omega),dTr h2⟩
 rw [if_pos e,Int.fdiv_eq_ediv_of_nonneg i (by omega)]
theorem V7 {i j:Int} (h:0 < j) (h2:j < 18446744073709551616):zF (.int i) (.int j)=some (.int (i / j)):=Xh h (JZ (by omega))
theorem mulL {i j:Int} (h1 : -18446744073709551616 < i) (h2:i < 18446744073709551616):nW (.int i) (.int j)=some (.int (i * j)):=by
 show (if uN i j=true then some (PyData.int (i * j)) else none)=_
 have e:uN i j=true:=by
  unfold uN
  rw [dTr (show i.natAbs < 2 ^ 64 by omega)]
  rfl
 rw [if_pos e]
theorem mulR {i j:Int} (h1 : -18446744073709551616 < j) (h2:j < 18446744073709551616):nW (.int i) (.int j)=some (.int (i * j)):=by
 show (if uN i j=true then some (PyData.int (i * j)) else none)=_
 have e:uN i j=true:=by
  unfold uN
  rw [dTr (show j.natAbs < 2 ^ 64 by omega),jf]
  rfl
 rw [if_pos e]
theorem Pn:QS (.int 10) (.int 40)=some (.int (10 ^ 40)):=rfl
theorem sz {n:Nat} (h:n ≤ 1000000):n ≤ sizeLine:=bV h (by decide)
theorem shaped_ints (ns:List Int):SeqAt.shaped (.list (ns.map PyData.int))=true:=by
 have h1:∀ ns:List Int,PyData.canLayAll0 (ns.map PyData.int)=true:=fun ns=>by
  induction ns with
  | nil=>rfl
  | cons a r ih=>simp [PyData.canLayAll0,PyData.canLay0,ih]
 have h2:∀ ns:List Int,PyData.depthAll (ns.map PyData.int) ≤ 1:=fun ns=>by
  induction ns with
  | nil=>simp [PyData.depthAll]
  | cons a r ih=>simp [PyData.depthAll,PyData.depth];omega
 unfold SeqAt.shaped
 rw [aU]
 refine ⟨by simp [PyData.canLay0,h1],dTr ?_⟩
 have:=h2 ns
 simp only [PyData.depth]
 omega
theorem eq_empty (ns:List Int):gEq (.list (ns.map PyData.int)) (.list [])=some (.bool (decide (ns=[]))):=by
 unfold gEq
 rw [shaped_ints ns]
 cases ns with
 | nil=>rfl
 | cons a r=>rfl
theorem Gv {ns:List Int} {i:Int} (h0:0 ≤ i):gZ [.list (ns.map .int),.int i]=some (.int (mU ns i)):=by
 unfold gZ mU
 by_cases h:i < (ns.length:Int)
 ·rw [if_pos h]
  simp only [EV,reduceIte,aq,au,ak,ao,aA,aB,aC,lMp,dTr h,sE h0 h,yL (show (0:Int) < 1000000007 by decide)]
 ·rw [if_neg h]
  by_cases hn:ns=[]
  ·rw [if_pos hn]
   simp only [EV,reduceIte,aq,au,ak,ao,aA,aB,aC,lMp,dFa h,eq_empty,dTr hn,fG,mulL (show (-18446744073709551616:Int) < 7919 by decide) (show (7919:Int) < 18446744073709551616 by decide)]
  ·rw [if_neg hn]
   have hl:0 < ns.length:=by
    cases ns with
    | nil=>exact absurd rfl hn
    | cons _ _=>simp
   have h7:0 ≤ i * 7 % (ns.length:Int):=jx _ (by omega)
   have h8:i * 7 % (ns.length:Int) < (ns.length:Int):=ig _ (by omega)
   simp only [EV,reduceIte,aq,au,ak,ao,aA,aB,aC,lMp,dFa h,eq_empty,dFa hn,fG,mulL (show (-18446744073709551616:Int) < 7919 by decide) (show (7919:Int) < 18446744073709551616 by decide),mulR (show (-18446744073709551616:Int) < 7 by decide) (show (7:Int) < 18446744073709551616 by decide),yL (show (0:Int) < 1000000007 by decide),yL (show (0:Int) < ns.length by omega),sE h7 h8]
theorem xP {l:D} {i k m:D} (n:Int):∀ (js:List D) (c:Nat) (y:Option U),(∀ j ∈ js,∃ x,j = .int x)→∃ y',gR (gNl 5) (bJ 4 (dOp zF (aD 4) (dC (.int 1000003)))) js [some (.d l),some (.d i),some (.d k),some (.d m),some (.d (.int (divs n c))),y] =
 some (.nx [some (.d l),some (.d i),some (.d k),some (.d m),some (.d (.int (divs n (c + js.length)))),y'])
 | [],c,y,_=>⟨y,rfl⟩
 | j :: js,c,y,h=>by
  obtain ⟨y',e⟩:=xP (l:=l) (i:=i) (k:=k) (m:=m) n js (c + 1) (some (.d j)) fun j' hj=>h j' (aF _ hj)
  refine ⟨y',?_⟩
  rw [gR]
  simp only [EV,reduceIte,aq,au,ak,ao,aA,aB,aC,V7 (show (0:Int) < 1000003 by decide) (show (1000003:Int) < 18446744073709551616 by decide),aH]
  rw [show c + (js.length + 1)=c + 1 + js.length by omega,← e]
  rfl
theorem Gw (lo hi:Int):∀ j ∈ jK lo hi,∃ x,j = .int x:=by
 intro j hj
 unfold jK at hj
 obtain ⟨k,_,rfl⟩:=cT.mp hj
 exact ⟨_,rfl⟩
theorem cJ {ns:List Int} {i k m:Int} (h0:0 ≤ i) (hk0:0 ≤ k) (hk:k ≤ 1000) (hm:0 < m):bA [.list (ns.map .int),.int i,.int k,.int m]=some (.int (fM ns i k m)):=by
 have rest:∀ x y:Option U,qFn ((aW (bJ 4 (dOp qj (dOp nW (dOp iW (dOp iW (dCall gZ (aj (aD 0) (aj (aD 1) (aJ)))) (dOp nW (dC (.int 65537)) (aD 1))) (dC (.int 3))) (dOp iW (dC (.int 1299709)) (dOp nW (dC (.int 15485863)) (aD 2)))) (dC (.int 2147483629))))
  (aW (bJ 4 (dOp iW (dOp qj (dOp nW (aD 4) (aD 4)) (dC (.int 1500450271))) (dC (.int 104729))))
  (bO (dOp qj (dOp zF (dOp qj (dOp nW (aD 4) (aD 4)) (dC (.int 715827883))) (dC (.int 64))) (aD 3))))) [some (.d (.list (ns.map .int))),some (.d (.int i)),some (.d (.int k)),some (.d (.int m)),x,y])=some (.int (Ef (mU ns i) i k m)):=by
  intro x y
  have b1:0 ≤ (mU ns i + 65537 * i + 3) * (1299709 + 15485863 * k) % 2147483629:=jx _ (by decide)
  have b2:(mU ns i + 65537 * i + 3) * (1299709 + 15485863 * k) % 2147483629 < 2147483629:=ig _ (by decide)
  have b3:0 ≤ (mU ns i + 65537 * i + 3) * (1299709 + 15485863 * k) % 2147483629 * ((mU ns i + 65537 * i + 3) * (1299709 + 15485863 * k) % 2147483629) % 1500450271:=jx _ (by decide)
  have b4:(mU ns i + 65537 * i + 3) * (1299709 + 15485863 * k) % 2147483629 * ((mU ns i + 65537 * i + 3) * (1299709 + 15485863 * k) % 2147483629) % 1500450271 < 1500450271:=ig _ (by decide)
  simp only [EV,reduceIte,aq,au,ak,ao,aA,aB,aC,Gv h0,mulL (show (-18446744073709551616:Int) < 65537 by decide) (show (65537:Int) < 18446744073709551616 by decide),mulL (show (-18446744073709551616:Int) < 15485863 by decide) (show (15485863:Int) < 18446744073709551616 by decide),
   mulR (i:=mU ns i + 65537 * i + 3) (show (-18446744073709551616:Int) < 1299709 + 15485863 * k by omega) (show 1299709 + 15485863 * k < (18446744073709551616:Int) by omega),yL (show (0:Int) < 2147483629 by decide)]
  simp only [mulL (show (-18446744073709551616:Int) < (mU ns i + 65537 * i + 3) * (1299709 + 15485863 * k) % 2147483629 by omega) (show (mU ns i + 65537 * i + 3) * (1299709 + 15485863 * k) % 2147483629 < (18446744073709551616:Int) by omega)]
  simp only [EV,reduceIte,aq,au,ak,ao,aA,aB,aC,yL (show (0:Int) < 1500450271 by decide)]
  rw [mulL (by omega) (by omega)]
  simp only [EV,reduceIte,aq,au,ak,ao,aA,aB,aC,yL (show (0:Int) < 715827883 by decide),V7 (show (0:Int) < 64 by decide) (show (64:Int) < 18446744073709551616 by decide),yL hm]
  rfl
 unfold bA
 rw [Vt]
 simp only [EV,reduceIte,aq,au,ak,ao,aA,aB,aC]
 by_cases h:i < (ns.length:Int)
 ·by_cases h2:10 ^ 40 ≤ ns.getD i.toNat 0
  ·simp only [EV,reduceIte,aq,au,ak,ao,aA,aB,aC,lMp,dTr h,sE h0 h,Pn,dTr h2]
   obtain ⟨y',e⟩:=xP (l:=.list (ns.map .int)) (i:=.int i) (k:=.int k) (m:=.int m) (ns.getD i.toNat 0) (jK 0 k) 0 none (Gw 0 k)
   have el:0 + (jK 0 k).length=k.toNat:=by simp [jK]
   rw [el] at e
   have e':gR (gNl 5) (bJ 4 (dOp zF (aD 4) (dC (.int 1000003)))) (jK 0 k) [some (.d (.list (ns.map .int))),some (.d (.int i)),some (.d (.int k)),some (.d (.int m)),some (.d (.int (ns.getD i.toNat 0))),none] =
    some (.nx [some (.d (.list (ns.map .int))),some (.d (.int i)),some (.d (.int k)),some (.d (.int m)),some (.d (.int (divs (ns.getD i.toNat 0) k.toNat))),y']):=e
   rw [JT (by omega) (by omega)]
   simp only [EV,reduceIte,aq,au,ak,ao,aA,aB,aC,e']
   by_cases h3:0 < divs (ns.getD i.toNat 0) k.toNat
   ·simp only [EV,reduceIte,aq,au,ak,ao,aA,aB,aC,dTr h3,yL (show (0:Int) < 1000003 by decide),yL hm]
    rw [Gu h h2 h3]
   ·simp only [EV,reduceIte,aq,au,ak,ao,aA,aB,aC,dFa h3]
    rw [qx (fun z=>h3 z.2.2)]
    have:=rest (some (.d (.int (divs (ns.getD i.toNat 0) k.toNat)))) y'
    simp only [EV,reduceIte,aq,au,ak,ao,aA,aB,aC] at this
    exact this
  ·simp only [EV,reduceIte,aq,au,ak,ao,aA,aB,aC,lMp,dTr h,sE h0 h,Pn,dFa h2]
   rw [qx (fun z=>h2 z.2.1)]
   have:=rest none none
   simp only [EV,reduceIte,aq,au,ak,ao,aA,aB,aC] at this
   exact this
 ·simp only [EV,reduceIte,aq,au,ak,ao,aA,aB,aC,lMp,dFa h]
  rw [qx (fun z=>h z.1)]
  have:=rest none none
  simp only [EV,reduceIte,aq,au,ak,ao,aA,aB,aC] at this
  exact this
end Com
namespace Com
open PySem D3 My
theorem J0 {α:Type} {g:FG} {c:FT} {e:FE} {δ:DS} (f:α→D) (p:α→Bool) (h:α→D):∀ l:List α,(∀ s ∈ l,∃ δ1,g (f s) δ=some δ1∧c δ1=some (p s)∧(p s=true→e δ1=some (h s)))→fK g c e δ (l.map f)=some ((l.filter p).map h)
 | [],_=>rfl
 | s :: r,hs=>by
  obtain ⟨δ1,e1,e2,e3⟩:=hs s aG
  have ih:=J0 f p h r fun x hx=>hs x (aF _ hx)
  rw [bH,fK,e1,aH,e2,aH]
  by_cases c:p s=true
  ·rw [if_pos c,e3 c,aH,ih,List.filter_cons,if_pos c]
   rfl
  ·rw [if_neg c,ih,List.filter_cons,if_neg c]
theorem yM {α:Type} {g:FG} {c:FT} {e:FE} {δ:DS} (f:α→D) (h:α→D):∀ l:List α,(∀ s ∈ l,∃ δ1,g (f s) δ=some δ1∧c δ1=some true∧e δ1=some (h s))→fK g c e δ (l.map f)=some (l.map h)
 | [],_=>rfl
 | s :: r,hs=>by
  obtain ⟨δ1,e1,e2,e3⟩:=hs s aG
  rw [bH,fK,e1,aH,e2,aH,if_pos rfl,e3,aH,yM f h r fun x hx=>hs x (aF _ hx)]
  rfl
theorem nJ {α:Type} (f:α→D) (h:∀ a,flat (f a)=true):∀ l:List α,flats (l.map f)=true
 | []=>rfl
 | a :: r=>by rw [bH,flats,h,nJ f h r];rfl
theorem at2 {a b c:D} {l:List D}:pAt (a :: b :: c :: l) 2=some c:=n_ (k:=2)
theorem NT {α:Type} (f:α→D) {l:List α} {i:Int} (h0:0 ≤ i) (h1:i < l.length):∃ a ∈ l,pAt (l.map f) i=some (f a):=by
 have hk:i.toNat < l.length:=by omega
 refine ⟨l[i.toNat],gq hk,?_⟩
 obtain ⟨k,rfl⟩:∃ k:Nat,i=(k:Int):=⟨i.toNat,by omega⟩
 rw [n_,bx]
 simp only [rm] at hk ⊢
 rw [bf hk]
 rfl
theorem NZ {m:Int}:(jK 0 m).length=m.toNat:=by unfold jK;rw [aL,dW,qW]
theorem N5 (m:Int):jK 0 m=(aN m.toNat).map fun k:Nat=>PyData.int (k:Int):=by
 unfold jK
 rw [qW]
 apply jl
 intro k _
 rw [Int.zero_add]
theorem Ci {m:Int} {i:Nat} {d:D} (h:(jK 0 m)[i]? = some d):(i:Int) < m∧d = .int (i:Int):=by
 rw [N5,bx] at h
 by_cases hi:i < m.toNat
 ·rw [cR hi] at h
  cases h
  exact ⟨by omega,rfl⟩
 ·rw [bD (by simpa using hi)] at h
  cases h
theorem isList:D3.isT "list" "list" = true:=rfl
mutual
theorem eqv_refl:∀ d:D,d.canLay0=true→PyData.eqv d d=true
 | .none,_=>by simp [PyData.eqv]
 | .bool b,_=>by simp [PyData.eqv]
 | .int i,_=>by simp [PyData.eqv]
 | .str x,_=>by simp [PyData.eqv]
 | .list l,h=>by
  have:=eqvAll_refl l (by simpa [PyData.canLay0] using h)
  simpa [PyData.eqv] using this
 | .tuple l,h=>by
  have:=eqvAll_refl l (by simpa [PyData.canLay0] using h)
  simpa [PyData.eqv] using this
 | .dict l,h=>by simp [PyData.canLay0] at h
theorem eqvAll_refl:∀ l:List D,PyData.canLayAll0 l=true→PyData.eqvAll l l=true
 | [],_=>by simp [PyData.eqvAll]
 | d :: r,h=>by
  rw [PyData.canLayAll0,aU] at h
  rw [PyData.eqvAll,eqv_refl d h.1,eqvAll_refl r h.2]
  rfl
end
def ly (n:Nat) (d:D):Prop:=d.canLay0=true∧d.depth ≤ n
def lys (n:Nat) (l:List D):Prop:=PyData.canLayAll0 l=true∧PyData.depthAll l ≤ n
theorem Eh {n m:Nat} {d:D} (h:ly n d) (l:n ≤ m):ly m d:=⟨h.1,bV h.2 l⟩
theorem yN {n:Nat}:lys n []:=⟨by simp [PyData.canLayAll0],by simp [PyData.depthAll]⟩
theorem pq {n:Nat} {d:D} {l:List D} (h:ly n d) (q:lys n l):lys n (d :: l) :=
 ⟨by rw [PyData.canLayAll0,h.1,q.1];rfl,by have:=h.2;have:=q.2;simp only [PyData.depthAll];omega⟩
theorem Ei {α:Type} {n:Nat} (f:α→D) (h:∀ a,ly n (f a)):∀ l:List α,lys n (l.map f)
 | []=>yN
 | a :: r=>pq (h a) (Ei f h r)
theorem N6 {n:Nat} {l:List D} (h:lys n l):ly (n + 1) (.list l):=⟨by simp [PyData.canLay0,h.1],by have:=h.2;simp only [PyData.depth];omega⟩
theorem J4 {n:Nat} {l:List D} (h:lys n l):ly (n + 1) (.tuple l):=⟨by simp [PyData.canLay0,h.1],by have:=h.2;simp only [PyData.depth];omega⟩
theorem yO {n:Nat} {i:Int}:ly (n + 1) (.int i):=⟨rfl,by simp [PyData.depth]⟩
theorem lQ {d:D} (h:ly 60 d):SeqAt.shaped d=true:=by
 unfold SeqAt.shaped
 rw [aU]
 exact ⟨h.1,dTr (by have:=h.2;omega)⟩
theorem eq_self {d:D} (h:ly 60 d):gEq d d=some (.bool true):=by
 unfold gEq
 rw [lQ h,eqv_refl d h.1]
 rfl
theorem ne_self {d:D} (h:ly 60 d):gNe d d=some (.bool false):=by
 unfold gNe
 rw [lQ h,eqv_refl d h.1]
 rfl
end Com
namespace Com
open PySem D3 My
def q (t b:Int):Rat:=mkRat t b.toNat
end Com
namespace Com
open PySem D3 My
def sm (k:Nat) (x:Int):Prop:=x.natAbs < 2 ^ k
end Com
namespace Com
open PySem D3 My
structure Tb where
 N:Nat
 w:Nat→Int
 B:Int
def sumTo (f:Nat→Int):Nat→Int
 | 0=>0
 | n + 1=>sumTo f n + f n
structure TbOk (t:Tb) (k:Nat):Prop where
 B0:0 < t.B
 Bs:sm (7 * k + 1) t.B
 w0:∀ j,0 ≤ t.w j
 wB:∀ j,t.w j ≤ t.B
 wz:∀ j,t.N ≤ j→t.w j=0
 N1:1 ≤ t.N
 N4:t.N ≤ 1 + 4 * k
 sum:sumTo t.w t.N=t.B
theorem comp_map {g:FG} {c:FT} {e:FE} {δ:DS} (h:D→D):∀ l:List D,(∀ d ∈ l,∃ δ1,g d δ=some δ1∧c δ1=some true∧e δ1=some (h d))→fK g c e δ l=some (l.map h)
 | [],_=>rfl
 | d :: r,hs=>by
  obtain ⟨δ1,e1,e2,e3⟩:=hs d aG
  rw [fK,e1,aH,e2,aH,if_pos rfl,e3,aH,comp_map h r fun x hx=>hs x (aF _ hx)]
  rfl
end Com
namespace Com
open PySem D3 My
end Com
namespace Com
open PySem D3 My
theorem sm1 (k:Nat) {x:Int} (h:x.natAbs ≤ 1):sm (k + 1) x:=by
 unfold sm
 rw [Nat.pow_succ]
 have:=Nat.one_le_two_pow (n:=k)
 omega
structure bd (k:Nat) (a:Rat):Prop where
 n:sm k a.num
 d:sm k (a.den:Int)
end Com
namespace Com
open PySem D3 My
end Com
namespace Com
open PySem D3 My
abbrev Sh:=Int × Int
def stD (s:Sh):D:=.tuple [.int s.1,.int s.2]
def V8 (s:Sh):Prop:=0 ≤ s.1∧s.1 < s.2∧s.2 ≤ 400
def hb (n:Int) (s:Sh):Bool:=decide (s.1 ≤ n) && decide (n < s.2)
def cnt (ss:List Sh) (n:Int):Nat:=(ss.filter (hb n)).length
theorem N7 (r:Sh):flat (stD r)=true:=rfl
theorem Cj (s:Sh) (n:Int):iV [stD s,.int n]=some (.bool (hb n s)):=by
 unfold iV stD hb
 by_cases h:s.1 ≤ n
 ·simp only [EV,reduceIte,aq,au,ak,ao,aA,aB,aC,at0,at1,dTr h,mV]
 ·simp only [EV,reduceIte,aq,au,ak,ao,aA,aB,aC,at0,at1,dFa h,lU]
theorem tX {g:FG} {c:FT} {e:FE} {δ:DS} (f:Sh→D) (p:Sh→Bool) (h:Sh→D):∀ l:List Sh,(∀ s ∈ l,∃ δ1,g (f s) δ=some δ1∧c δ1=some (p s)∧e δ1=some (h s))→fK g c e δ (l.map f)=some ((l.filter p).map h)
 | [],_=>rfl
 | s :: r,hs=>by
  obtain ⟨δ1,e1,e2,e3⟩:=hs s aG
  have ih:=tX f p h r fun x hx=>hs x (aF _ hx)
  rw [bH,fK,e1,aH,e2,aH]
  cases hp:p s with
  | true =>
   rw [if_pos rfl,e3,aH,ih,m5 (by simpa using hp)]
   rfl
  | false =>
   rw [if_neg (by decide),ih,m6 (by simpa using hp)]
theorem Cm {ss:List Sh} (hl:ss.length ≤ 1000) (n:Int):je [.list (ss.map stD),.int n]=some (.int (cnt ss n:Int)):=by
 have C:=tX (g:=gNl 0) (c:=aM (dCall iV (aj (aD 0) (aj (aD 1) (aJ))))) (e:=eE (aD 0)) (δ:=[none,some (.d (.int n))]) stD (hb n) stD ss (fun s _=>⟨[some (.d (stD s)),some (.d (.int n))],rfl,by simp only [EV,reduceIte,aq,au,ak,ao,aA,aB,aC,Cj],by simp only [EV,reduceIte,aq,au,ak,ao,aA,aB,aC,N7]⟩)
 unfold je
 simp only [EV,reduceIte,aq,au,ak,ao,aA,aB,aC,lMp,show ss.length ≤ 100000 by omega]
 rw [show jH 1 [1] [some (U.d (PyData.list (ss.map stD))),some (U.d (PyData.int n))]=[none,some (.d (.int n))] from rfl,C]
 simp only [EV,reduceIte,aq,au,ak,ao,aA,aB,aC,lMp]
 rfl
theorem z9 {ss:List Sh} (hl:ss.length ≤ 1000):mG [.list (ss.map stD)]=some (.list ((ss.map (·.1)).map .int)):=by
 unfold mG
 have C:=comp_map (g:=gNl 0) (c:=D3.jA) (e:=eE (dOp gIx (aD 0) (dC (.int 0)))) (δ:=[none]) (fun d=>match d with | .tuple (a :: _)=>a | _=>.none) (ss.map stD) (fun d hd=>by
  obtain ⟨r,_,rfl⟩:=cT.mp hd
  refine ⟨[some (.d (stD r))],rfl,rfl,?_⟩
  unfold stD
  simp only [EV,reduceIte,aq,au,ak,ao,aA,aB,aC,at0])
 simp only [EV,reduceIte,aq,au,ak,ao,aA,aB,aC,lMp,show ss.length ≤ 100000 by omega]
 rw [show ∀ a:Option U,jH 1 [] [a]=[none] from fun _=>rfl,C]
 simp only [EV,reduceIte,aq,au,ak,ao,aA,aB,aC]
 rw [gG,gG]
 rfl
end Com
namespace Com
open PySem D3 My
end Com
namespace Com
open PySem D3 My
theorem zl0:0 ≤ sizeLine:=fG _
theorem zl1:1 ≤ sizeLine:=sz (by decide)
theorem zl2:2 ≤ sizeLine:=sz (by decide)
theorem zl3:3 ≤ sizeLine:=sz (by decide)
theorem zl4:4 ≤ sizeLine:=sz (by decide)
theorem zl5:5 ≤ sizeLine:=sz (by decide)
abbrev Ty:=Int × Int × Option Nat
def hD:Option Nat→D
 | none=>.none
 | some r=>.int (r:Int)
def yD (s:Ty):D:=.tuple [.int s.1,.int s.2.1,hD s.2.2]
theorem fli (i:Int):flat (.int i)=true:=rfl
theorem yP (s:Ty):flat (yD s)=true:=by
 unfold yD hD
 obtain ⟨a,b,c⟩:=s
 cases c <;> rfl
theorem V9 {n:Nat} (o:Option Nat):ly (n + 1) (hD o):=by
 cases o with
 | none=>exact ⟨rfl,by simp [hD,PyData.depth]⟩
 | some r=>exact yO
def hol (x:Int) (s:Ty):Bool:=decide (s.1 ≤ x) && decide (x < s.2.1)
def mZ (L:List Ty) (x:Int):Nat:=(L.filter (hol x)).length
theorem J5 {g:FG} {b:FS} (Inv:DS→Prop) (P V:D→Prop):∀ (l:List D) (δ:DS),Inv δ→(∀ d ∈ l,∀ δ,Inv δ→∃ δ1,g d δ=some δ1∧((∃ δ',b δ1=some (.nx δ')∧Inv δ'∧P d)∨∃ v,b δ1=some (.rt v)∧V v)) →
 (∃ δ',gR g b l δ=some (.nx δ')∧Inv δ'∧∀ d ∈ l,P d)∨∃ v,gR g b l δ=some (.rt v)∧V v
 | [],δ,h,_=>.inl ⟨δ,rfl,h,fun _ z=>by cases z⟩
 | d :: l,δ,h,s=>by
  obtain ⟨δ1,e1,z⟩:=s d aG δ h
  rcases z with ⟨δ',e2,h2,hp⟩ | ⟨v,e2,hv⟩
  ·have e:gR g b (d :: l) δ=gR g b l δ':=by rw [gR,e1,aH,e2,aH]
   rw [e]
   rcases J5 Inv P V l δ' h2 (fun d hd=>s d (aF _ hd)) with ⟨δ2,a1,a2,a3⟩ | z
   ·exact .inl ⟨δ2,a1,a2,fun x hx=>by
     rcases aO.mp hx with rfl | y
     ·exact hp
     ·exact a3 x y⟩
   ·exact .inr z
  ·exact .inr ⟨v,by rw [gR,e1,aH,e2,aH],hv⟩
theorem Gx {L:List Ty} {M:Nat} {now:Int} (hl:L.length ≤ 62) :
 (cN [.list (L.map yD),.int (M:Int),.int now]=some .none∧∀ s ∈ L,mZ L (if s.1 > now then s.1 else now) ≤ M)∨∃ x,cN [.list (L.map yD),.int (M:Int),.int now]=some (.int x)∧M < mZ L x:=by
 have C:fK (gNl 0) (D3.jA) (dCall oE (aj (aD 1) (aj (dOp gIx (aD 0) (dC (.int 0))) (aJ)))) (jH 1 [2] [some (.d (.list (L.map yD))),some (.d (.int (M:Int))),some (.d (.int now)),none]) (L.map yD)=some ((L.map fun s=>if s.1 > now then s.1 else now).map PyData.int):=by
  rw [gG]
  exact yM yD _ L fun s _=>⟨[some (.d (yD s)),some (.d (.int now))],rfl,rfl,by unfold yD;simp only [EV,reduceIte,aq,au,ak,ao,aA,aB,aC,at0,vh];rfl⟩
 have len:(L.map yD).length ≤ 100000:=by rw [aL];omega
 have C2:∀ x:Int,∀ u:Option U,fK (gNl 0) (D3.mW (aM (dOp gLe (dOp gIx (aD 0) (dC (.int 0))) (aD 1))) (aM (dOp gLt (aD 1) (dOp gIx (aD 0) (dC (.int 1)))))) (eE (aD 0)) (jH 1 [3] [some (.d (.list (L.map yD))),some (.d (.int (M:Int))),some (.d (.int now)),some (.d (.int x))]) (L.map yD)=some ((L.filter (hol x)).map yD):=fun x u =>
  J0 yD (hol x) yD L fun s _=>⟨[some (.d (yD s)),some (.d (.int x))],rfl,by
   obtain ⟨a,b,c⟩:=s
   unfold yD hol
   simp only [EV,reduceIte,aq,au,ak,ao,aA,aB,aC,at0,at1]
   cases decide (a ≤ x) <;> simp only [D3.qTA,mV,lU] <;> simp only [EV,reduceIte,aq,au,ak,ao,aA,aB,aC,at0,at1],fun _=>by simp only [EV,reduceIte,aq,au,ak,ao,aA,aB,aC,yP]⟩
 let S:=now :: (L.map fun s=>if s.1 > now then s.1 else now)
 have gs:pU [.list (S.map PyData.int)]=some (.list ((m8 S).map .int)):=by
  unfold pU
  have:S.length < 64:=by show (L.map _).length + 1 < 64;rw [aL];omega
  simp only [nF,aH,if_pos this]
 have cat:pQ (.list [.int now]) (.list ((L.map fun s=>if s.1 > now then s.1 else now).map PyData.int))=some (.list (S.map PyData.int)):=by
  rw [xO,if_pos (by rw [aL,aL];show 1 + L.length ≤ _;omega)]
  rfl
 have F:=J5 (g:=(gNl 3)) (b:=(sIf (aM (dOp gGt (dCall jB (aj (iT (lB (aD 0)) (gNl 0) (D3.mW (aM (dOp gLe (dOp gIx (aD 0) (dC (.int 0))) (aD 1))) (aM (dOp gLt (aD 1) (dOp gIx (aD 0) (dC (.int 1)))))) (eE (aD 0)) 1 [3]) (aJ))) (aD 1))) (bO (eE (aD 3))) (bI))) (fun δ=>∃ u,δ=[some (.d (.list (L.map yD))),some (.d (.int (M:Int))),some (.d (.int now)),u]) (fun d=>∀ x,d = .int x→mZ L x ≤ M) (fun v=>∃ x,v = .int x∧M < mZ L x) ((m8 S).map .int)
  [some (.d (.list (L.map yD))),some (.d (.int (M:Int))),some (.d (.int now)),none] ⟨none,rfl⟩ (by
   rintro d hd δ ⟨u,rfl⟩
   obtain ⟨x,hx,rfl⟩:=cT.mp hd
   refine ⟨[some (.d (.list (L.map yD))),some (.d (.int (M:Int))),some (.d (.int now)),some (.d (.int x))],rfl,?_⟩
   have c2:=C2 x none
   have lf:((L.filter (hol x)).map yD).length=mZ L x:=by rw [aL];rfl
   by_cases z:mZ L x ≤ M
   ·left
    refine ⟨[some (.d (.list (L.map yD))),some (.d (.int (M:Int))),some (.d (.int now)),some (.d (.int x))],?_,⟨_,rfl⟩,fun y hy=>by cases hy;exact z⟩
    have:decide ((mZ L x:Int) > (M:Int))=false:=dFa (by omega)
    simp only [EV,reduceIte,aq,au,ak,ao,aA,aB,aC,len,c2,lf,this]
   ·right
    refine ⟨.int x,?_,x,rfl,by omega⟩
    have:decide ((mZ L x:Int) > (M:Int))=true:=dTr (by omega)
    have fl:flat (.int x)=true:=rfl
    simp only [EV,reduceIte,aq,au,ak,ao,aA,aB,aC,len,c2,lf,this,fl])
 rcases F with ⟨δ',e,⟨u,rfl⟩,hP⟩ | ⟨v,e,x,rfl,hx⟩
 ·left
  refine ⟨?_,fun s hs=>hP (.int (if s.1 > now then s.1 else now)) (List.mem_map_of_mem ((jg S).mem_iff.mpr (aF _ (cT.mpr ⟨s,hs,rfl⟩)))) _ rfl⟩
  unfold cN
  simp only [EV,reduceIte,aq,au,ak,ao,aA,aB,aC,zl1,len,C,cat,gs]
  rw [e]
  simp only [EV,reduceIte,aq,au,ak,ao,aA,aB,aC]
 ·right
  refine ⟨x,?_,hx⟩
  unfold cN
  simp only [EV,reduceIte,aq,au,ak,ao,aA,aB,aC,zl1,len,C,cat,gs]
  rw [e]
  simp only [EV,reduceIte,aq,au,ak,ao,aA,aB,aC]
end Com
namespace Com
open PySem D3 My
structure TOk (L:List Ty) (M:Nat) (now:Int):Prop where
 len:L.length ≤ 24
 ok:∀ s ∈ L,s.1 < s.2.1∧(∀ r,s.2.2=some r→r < M∧s.1 ≤ now∧now < s.2.1)∧(s.2.2=none→now ≤ s.1)
 nd:(L.filterMap (·.2.2)).Nodup
 full:∀ s ∈ L,mZ L (if s.1 > now then s.1 else now) ≤ M
 bd:∀ s ∈ L,0 ≤ s.1∧s.2.1 ≤ 400
 nr:∀ s ∈ L,s.2.2=none→s.1 ≤ now + 59
def vp (k:Nat) (s:Ty) (L:List Ty):List Ty:=L.take k++s :: L.drop k
theorem xQ (k:Nat) (s:Ty) (L:List Ty):(vp k s L).Perm (s :: L):=by
 unfold vp
 refine List.perm_middle.trans ?_
 rw [jQ]
theorem z_ {s:Ty} {L:List Ty} {j:Int} (hl:L.length ≤ 1000) (h0:0 ≤ j) (h1:j ≤ 1000):∃ k,Bo j (yD s) (L.map yD)=some ((vp k s L).map yD):=by
 refine ⟨vY (L.map yD).length j,?_⟩
 unfold Bo
 rw [if_pos ⟨by rw [aL];omega,by omega,by omega⟩]
 unfold vp
 rw [jw,bH,List.map_take,List.map_drop]
theorem N8 (x:Int):decide (x=1)=true∨decide (x=1)=false:=by cases decide (x=1) <;> simp
end Com
namespace Xg
structure Ss where
 n:Nat
 fst:Nat→Int
 bhd:Nat→Int
 hld:Nat→Bool
 now:Int
structure Ss.Ok (S:Ss):Prop where
 lt:∀ k,k < S.n→S.fst k < S.bhd k
 h1:∀ k,k < S.n→S.hld k=true→S.fst k ≤ S.now∧S.now < S.bhd k
 h2:∀ k,k < S.n→S.hld k=false→S.now ≤ S.fst k
def Valid (S:Ss) (h:Nat→Int):Prop:=∀ k l,k < S.n→l < S.n→k ≠ l→S.fst k < S.bhd l→S.fst l < S.bhd k→h k ≠ h l
def hind (S:Ss) (t:Int) (k:Nat):Prop:=(S.hld k=true∨S.fst k < t)∧t < S.bhd k
def swp (S:Ss) (h:Nat→Int) (t a b:Int) (k:Nat):Int:=if S.fst k < t then h k else if h k=a then b else if h k=b then a else h k
structure Agr (S:Ss) (h o:Nat→Int) (done:Nat→Prop):Prop where
 held:∀ k,k < S.n→S.hld k=true→h k=o k
 don:∀ k,k < S.n→done k→h k=o k
section
variable {S:Ss} {h o:Nat→Int} {done:Nat→Prop} {p:Nat}
end
end Xg
namespace Xg
abbrev Sp3:=Int × Int × Int
def Gy (S:Ss) (h:Nat→Int) (st:List Sp3):Nat→Int:=st.foldl (fun g s=>swp S g s.1 s.2.1 s.2.2) h
structure V8 (S:Ss) (M:Int) (g:Nat→Int) (s:Sp3):Prop where
 now:S.now ≤ s.1
 ne:s.2.1 ≠ s.2.2
 a0:0 ≤ s.2.1
 a1:s.2.1 < M
 b0:0 ≤ s.2.2
 b1:s.2.2 < M
 nh:∀ k,k < S.n→(g k=s.2.1∨g k=s.2.2)→¬ hind S s.1 k
def Good (S:Ss) (M:Int) (h:Nat→Int) (st:List Sp3):Prop:=∀ i s,st[i]? = some s→V8 S M (Gy S h (st.take i)) s
variable {S:Ss} {M:Int} {h o:Nat→Int} {st:List Sp3} {s:Sp3} {done:List Nat} {p:Nat}
structure LInv (S:Ss) (M:Int) (h o:Nat→Int) (done:List Nat) (st:List Sp3):Prop where
 good:Good S M h st
 val:Valid S (Gy S h st)
 agr:Agr S (Gy S h st) o (· ∈ done)
 bd:∀ k,k < S.n→0 ≤ Gy S h st k∧Gy S h st k < M
 len:st.length ≤ done.length
theorem LInv.fin (I:LInv S M h o done st) (all:∀ k,k < S.n→S.hld k=false→k ∈ done):∀ k,k < S.n→Gy S h st k=o k:=fun k hk=>by
 cases z:S.hld k with
 | true=>exact I.agr.held k hk z
 | false=>exact I.agr.don k hk (all k hk z)
end Xg
namespace Com
open PySem D3 My
theorem S9 {n c:Nat} {l:List D} (hl:l.length=n) (h:c < n):pIx l.length (c:Int)=some c:=by
 unfold pIx
 rw [hl,if_pos (by omega),if_pos (by omega)]
 rfl
theorem S_ {n c:Nat} (f:Nat→D) (h:c < n):pAt ((aN n).map f) (c:Int)=some (f c):=by
 rw [n_,bx,cR h]
 rfl
theorem J6 {n c:Nat} {d:D} (f:Nat→D):((aN n).map f).set c d=(aN n).map fun p=>if p=c then d else f p:=by
 apply fQ
 intro i
 rw [qQ,bx,bx]
 by_cases hi:i < n
 ·rw [cR hi,fV,fV]
  by_cases z:c=i
  ·subst z
   rw [if_pos rfl,if_pos (by simpa using hi),if_pos rfl]
  ·rw [if_neg z,if_neg (fun w=>z w.symm)]
 ·rw [bD (l:=aN n) (by simpa using hi)]
  by_cases z:c=i
  ·subst z
   rw [if_pos rfl,if_neg (by simpa using hi)]
   rfl
  ·rw [if_neg z]
   rfl
def tAt (L:List Ty) (k:Nat):Ty:=L.getD k (0,0,none)
theorem oh {L:List Ty} {k:Nat} (h:k < L.length):tAt L k ∈ L:=by
 unfold tAt
 rw [bR,bf h]
 exact gq h
theorem pI (L:List Ty):L.map yD=(aN L.length).map fun k=>yD (tAt L k):=by
 apply fQ
 intro i
 rw [bx,bx]
 by_cases h:i < L.length
 ·rw [cR h,bf h]
  unfold tAt
  rw [fV,fV,bR,bf h]
  rfl
 ·rw [bD (by omega),bD (by simpa using h)]
  rfl
def hB (s:Ty) (t:Int):Bool:=(s.2.2.isSome || decide (s.1 < t)) && decide (t < s.2.1)
theorem Tc (o:Option Nat):isNone (hD o) = !o.isSome:=by cases o <;> rfl
section
variable {L:List Ty} {now t a b:Int} {h:Nat→Int}
end
end Com
namespace Gr
structure GInv (M:Nat) (b e:Nat→Int) (done:List Nat) (seat:Nat→Option Nat) (fs:Nat→Int):Prop where
 out:∀ p,p ∉ done→seat p=none
 inn:∀ p ∈ done,∃ r,seat p=some r∧r < M∧e p ≤ fs r
 bk:∀ r,r < M→fs r ≤ 0∨∃ p ∈ done,seat p=some r∧e p=fs r
 dj:∀ p ∈ done,∀ q ∈ done,p ≠ q→seat p=seat q→e p ≤ b q∨e q ≤ b p
def holds (b e:Nat→Int) (x:Int) (p:Nat):Bool:=decide (b p ≤ x) && decide (x < e p)
theorem pick {α:Type} (P:Nat→α→Prop):∀ M,(∀ r,r < M→∃ a,P r a)→(∀ r r' a,P r a→P r' a→r=r')→∃ l:List α,l.length=M∧l.Nodup∧∀ a ∈ l,∃ r,r < M∧P r a
 | 0,_,_=>⟨[],rfl,oO,fun _ h=>by cases h⟩
 | M + 1,h,u=>by
  obtain ⟨l,h1,h2,h3⟩:=pick P M (fun r hr=>h r (by omega)) u
  obtain ⟨a,ha⟩:=h M (by omega)
  refine ⟨a :: l,by rw [bZ,h1],cU.mpr ⟨fun z=>?_,h2⟩,fun x hx=>?_⟩
  ·obtain ⟨r,hr,hp⟩:=h3 a z
   have:=u r M a hp ha
   omega
  ·rcases aO.mp hx with rfl | z
   ·exact ⟨M,by omega,ha⟩
   ·obtain ⟨r,hr,hp⟩:=h3 x z
    exact ⟨r,by omega,hp⟩
theorem Gz {M n:Nat} {b e:Nat→Int} {done:List Nat} {seat:Nat→Option Nat} {fs:Nat→Int} {c:Nat} (I:GInv M b e done seat fs) (hc:c ∉ done) (hcn:c < n) (hd:∀ p ∈ done,p < n)
 (hb:∀ p ∈ done,b p ≤ b c) (h0:0 ≤ b c) (h1:b c < e c) (hm:((aN n).filter (holds b e (b c))).length ≤ M):∃ r,r < M∧fs r ≤ b c:=by
 apply Classical.byContradiction
 intro no
 have all:∀ r,r < M→∃ p,(p ∈ done∧seat p=some r∧b c < e p):=fun r hr=>by
  have hn:¬ fs r ≤ b c:=fun z=>no ⟨r,hr,z⟩
  rcases I.bk r hr with z | ⟨p,hp,h2,h3⟩
  ·omega
  ·exact ⟨p,hp,h2,by omega⟩
 obtain ⟨l,l1,l2,l3⟩:=pick (fun r p=>p ∈ done∧seat p=some r∧b c < e p) M all (fun r r' p z z'=>by
  have:=z.2.1.symm.trans z'.2.1
  injection this)
 have nd:(c :: l).Nodup:=cU.mpr ⟨fun z=>by obtain ⟨r,_,hp,_⟩:=l3 c z;exact hc hp,l2⟩
 have sub:(c :: l) ⊆ (aN n).filter (holds b e (b c)):=fun p hp=>by
  rcases aO.mp hp with rfl | z
  ·exact dg.mpr ⟨cA.mpr hcn,by unfold holds;rw [dTr (j_ _),dTr h1];rfl⟩
  ·obtain ⟨r,_,hp,_,h3⟩:=l3 p z
   exact dg.mpr ⟨cA.mpr (hd p hp),by unfold holds;rw [dTr (hb p hp),dTr h3];rfl⟩
 have:=List.Nodup.length_le_of_subset nd sub
 rw [bZ,l1] at this
 omega
theorem GInv.step {M:Nat} {b e:Nat→Int} {done:List Nat} {seat:Nat→Option Nat} {fs:Nat→Int} {c r:Nat} (I:GInv M b e done seat fs) (hc:c ∉ done) (hr:r < M) (hf:fs r ≤ b c) (h1:b c < e c) :
 GInv M b e (done++[c]) (fun p=>if p=c then some r else seat p) (fun x=>if x=r then e c else fs x):=by
 have ne:∀ p ∈ done,p ≠ c:=fun p hp z=>hc (z ▸ hp)
 refine ⟨fun p hp=>?_,fun p hp=>?_,fun x hx=>?_,fun p hp q hq hpq hs=>?_⟩
 ·have h2:p ≠ c:=fun z=>hp (aX _ (by rw [z];exact aQ.mpr rfl))
  rw [if_neg h2]
  exact I.out p fun z=>hp (bF _ z)
 ·rcases bM.mp hp with z | z
  ·obtain ⟨x,s1,s2,s3⟩:=I.inn p z
   refine ⟨x,by rw [if_neg (ne p z)];exact s1,s2,?_⟩
   by_cases hx:x=r
   ·rw [if_pos hx];rw [hx] at s3;omega
   ·rw [if_neg hx];exact s3
  ·have z:=aQ.mp z
   exact ⟨r,by rw [if_pos z],hr,by rw [if_pos rfl,z];exact j_ _⟩
 ·by_cases z:x=r
  ·exact .inr ⟨c,aX _ (aQ.mpr rfl),by rw [if_pos rfl,z],by rw [if_pos z]⟩
  ·rw [if_neg z]
   rcases I.bk x hx with w | ⟨p,hp,w1,w2⟩
   ·exact .inl w
   ·exact .inr ⟨p,bF _ hp,by rw [if_neg (ne p hp)];exact w1,w2⟩
 ·rcases bM.mp hp with z | z
  ·rcases bM.mp hq with w | w
   ·rw [if_neg (ne p z),if_neg (ne q w)] at hs
    exact I.dj p z q w hpq hs
   ·have w:=aQ.mp w
    rw [if_neg (ne p z),if_pos w] at hs
    obtain ⟨x,s1,_,s3⟩:=I.inn p z
    rw [s1] at hs
    injection hs with hs
    rw [hs] at s3
    left
    rw [w]
    omega
  ·have z:=aQ.mp z
   rcases bM.mp hq with w | w
   ·rw [if_pos z,if_neg (ne q w)] at hs
    obtain ⟨x,s1,_,s3⟩:=I.inn q w
    rw [s1] at hs
    injection hs with hs
    rw [← hs] at s3
    right
    rw [z]
    omega
   ·exact absurd (z.trans (aQ.mp w).symm) hpq
end Gr
namespace Pl
open Gr
structure PInv (n M:Nat) (b e:Nat→Int) (held:Nat→Option Nat) (done:List Nat) (seat:Nat→Option Nat):Prop where
 hl:∀ k r,k < n→held k=some r→seat k=some r
 out:∀ k,k < n→held k=none→k ∉ done→seat k=none
 inn:∀ k,k ∈ done→k < n→seat k ≠ none
 lt:∀ k r,k < n→seat k=some r→r < M
 dj:∀ k l r,k < n→l < n→k ≠ l→seat k=some r→seat l=some r→e k ≤ b l∨e l ≤ b k
variable {n M:Nat} {b e:Nat→Int} {held seat:Nat→Option Nat} {done:List Nat} {now:Int} {c r:Nat}
theorem skip (I:PInv n M b e held done seat) (hs:seat c ≠ none):PInv n M b e held (done++[c]) seat :=
 ⟨I.hl,fun k hk h hn=>I.out k hk h fun z=>hn (bF _ z),fun k hk hn=>by
  rcases bM.mp hk with w | w
  ·exact I.inn k w hn
  ·rw [aQ.mp w];exact hs,I.lt,I.dj⟩
end Pl
namespace XS
open PySem PySem.W PyProof.Rows
structure Weak (lt:Nat→Nat→Bool):Prop where
 irr:∀ a,lt a a=false
 tr:∀ a b c,lt a b=true→lt b c=true→lt a c=true
 nt:∀ a b c,lt a c=true→lt a b=true∨lt b c=true
def Rk (lt:Nat→Nat→Bool) (a b:Nat):Prop:=lt a b=true∨(lt b a=false∧a < b)
section
variable {lt:Nat→Nat→Bool} {p:Array Nat} {n:Nat}
theorem Weak.not (W:Weak lt) {a b c:Nat} (h1:lt a b=false) (h2:lt b c=false):lt a c=false:=by
 cases q:lt a c with
 | false=>rfl
 | true =>
  rcases W.nt a b c q with z | z
  ·rw [z] at h1;cases h1
  ·rw [z] at h2;cases h2
theorem Rk.trans (W:Weak lt) {a b c:Nat} (h1:Rk lt a b) (h2:Rk lt b c):Rk lt a c:=by
 rcases h1 with h1 | ⟨h1,l1⟩
 ·rcases h2 with h2 | ⟨h2,l2⟩
  ·exact .inl (W.tr _ _ _ h1 h2)
  ·rcases W.nt a c b h1 with z | z
   ·exact .inl z
   ·rw [z] at h2;cases h2
 ·rcases h2 with h2 | ⟨h2,l2⟩
  ·rcases W.nt b a c h2 with z | z
   ·rw [z] at h1;cases h1
   ·exact .inl z
  ·exact .inr ⟨W.not h2 h1,by omega⟩
abbrev ga (p:Array Nat) (i:Nat):Nat:=p.getD i 0
def Asc (lt:Nat→Nat→Bool) (p:Array Nat) (m:Nat):Prop:=∀ i j,i < j→j < m→Rk lt (ga p i) (ga p j)
structure Run (lt:Nat→Nat→Bool) (n:Nat) (p:Array Nat) (m:Nat):Prop where
 asc:Asc lt p m
 rest:∀ k,m ≤ k→k < n→ga p k=k
 low:∀ k,k < m→ga p k < m
theorem Run.snoc (W:Weak lt) {a:Nat} (R:Run lt n p a) (h1:1 ≤ a) (ha:a < n) (h:lt (ga p a) (ga p (a - 1))=false):Run lt n p (a + 1):=by
 have ea:=R.rest a (bG _) ha
 have la:=R.low (a - 1) (by omega)
 have st:Rk lt (ga p (a - 1)) (ga p a):=.inr ⟨h,by omega⟩
 refine ⟨fun i j hij hj=>?_,fun k hk hn=>R.rest k (by omega) hn,fun k hk=>?_⟩
 ·by_cases z:j < a
  ·exact R.asc i j hij z
  ·have:j=a:=by omega
   subst this
   by_cases y:i=j - 1
   ·rw [y];exact st
   ·exact (R.asc i (j - 1) (by omega) (by omega)).trans W st
 ·by_cases z:k < a
  ·have:=R.low k z;omega
  ·have:k=a:=by omega
   subst this
   omega
theorem Cp (W:Weak lt):∀ (f a:Nat),Run lt n p a→1 ≤ a→a + f ≤ n→Run lt n p (dw lt (kas_asc p f a))∧a ≤ dw lt (kas_asc p f a)∧dw lt (kas_asc p f a) ≤ a + f∧(dw lt (kas_asc p f a) < a + f→lt (ga p (dw lt (kas_asc p f a))) (ga p (dw lt (kas_asc p f a) - 1))=true)
 | 0,a,R,h1,hf=>⟨R,bG _,bG _,fun z=>by
  have z:a < a + 0:=z
  omega⟩
 | f + 1,a,R,h1,hf=>by
  have e:dw lt (kas_asc p (f + 1) a)=dw lt (if lt (ga p a) (ga p (a - 1))=true then .ret a else kas_asc p f (a + 1)):=rfl
  rw [e]
  by_cases c:lt (ga p a) (ga p (a - 1))=true
  ·rw [if_pos c]
   exact ⟨R,bG _,by show a ≤ a + (f + 1);omega,fun _=>c⟩
  ·rw [if_neg c]
   obtain ⟨q1,q2,q3,q4⟩:=Cp W f (a + 1) (R.snoc W h1 (by omega) (by simpa using c)) (by omega) (by omega)
   exact ⟨q1,by omega,by omega,fun z=>q4 (by omega)⟩
theorem vq (W:Weak lt) {k:Nat} (R:Run lt n p k):∀ (f l r:Nat),l ≤ r→r ≤ k→r - l ≤ f→(∀ i,i < l→lt (ga p k) (ga p i)=false)→(∀ i,r ≤ i→i < k→lt (ga p k) (ga p i)=true) →
 dw lt (kas_place p k f l r) ≤ k∧(∀ i,i < dw lt (kas_place p k f l r)→lt (ga p k) (ga p i)=false)∧(∀ i,dw lt (kas_place p k f l r) ≤ i→i < k→lt (ga p k) (ga p i)=true)
 | 0,l,r,h1,h2,h3,h4,h5=>by
  have:l=r:=by omega
  subst this
  exact ⟨h2,h4,h5⟩
 | f + 1,l,r,h1,h2,h3,h4,h5=>by
  by_cases z:l ≥ r
  ·have:l=r:=by omega
   subst this
   have e:kas_place p k (f + 1) l l = .ret l:=by unfold kas_place;rw [if_pos z]
   rw [e]
   exact ⟨h2,h4,h5⟩
  ·have e:dw lt (kas_place p k (f + 1) l r)=dw lt (if lt (ga p k) (ga p ((l + r) / 2))=true then kas_place p k f l ((l + r) / 2) else kas_place p k f ((l + r) / 2 + 1) r):=by
    conv=>lhs;unfold kas_place
    rw [if_neg z]
    rfl
   rw [e]
   have m1:l ≤ (l + r) / 2:=by omega
   have m2:(l + r) / 2 < r:=by omega
   by_cases c:lt (ga p k) (ga p ((l + r) / 2))=true
   ·rw [if_pos c]
    refine vq W R f l ((l + r) / 2) m1 (by omega) (by omega) h4 fun i hi hk=>?_
    by_cases y:i=(l + r) / 2
    ·rw [y];exact c
    ·rcases R.asc ((l + r) / 2) i (by omega) hk with q | ⟨q,_⟩
     ·exact W.tr _ _ _ c q
     ·rcases W.nt _ (ga p i) _ c with w | w
      ·exact w
      ·rw [w] at q;cases q
   ·rw [if_neg c]
    have c:lt (ga p k) (ga p ((l + r) / 2))=false:=by simpa using c
    refine vq W R f ((l + r) / 2 + 1) r (by omega) h2 (by omega) (fun i hi=>?_) h5
    by_cases y:i=(l + r) / 2
    ·rw [y];exact c
    ·cases q:lt (ga p k) (ga p i) with
     | false=>rfl
     | true =>
      rcases R.asc i ((l + r) / 2) (by omega) (by omega) with w | ⟨w,_⟩
      ·rw [W.tr _ _ _ q w] at c;cases c
      ·rcases W.nt _ (ga p ((l + r) / 2)) _ q with w2 | w2
       ·rw [w2] at c;cases c
       ·rw [w2] at w;cases w
theorem Te {k l:Nat} (hk:k < p.size) (hl:l ≤ k) (i:Nat):ga (bubble p k (k - l)) i=if i=l then ga p k else if l < i∧i ≤ k then ga p (i - 1) else ga p i:=by
 have e:=getElem?_bubble hk (k - l) (by omega) i
 rw [show k - (k - l)=l by omega] at e
 have g:∀ (q:Array Nat) (i:Nat),ga q i=(q[i]?).getD 0:=fun q i=>by simp [ga,fZ]
 rw [g,e,g p k,g p (i - 1),g p i]
 by_cases c1:i=l
 ·rw [if_pos c1,if_pos c1]
 ·rw [if_neg c1,if_neg c1]
  by_cases c2:l < i∧i ≤ k
  ·rw [if_pos c2,if_pos c2]
  ·rw [if_neg c2,if_neg c2]
theorem J7 (W:Weak lt) (hs:p.size=n) {k l:Nat} (R:Run lt n p k) (hk:k < n) (hl:l ≤ k) (h1:∀ i,i < l→lt (ga p k) (ga p i)=false) (h2:∀ i,l ≤ i→i < k→lt (ga p k) (ga p i)=true):Run lt n (bubble p k (k - l)) (k + 1):=by
 have ek:=R.rest k (bG _) hk
 have B:=Te (p:=p) (k:=k) (by omega) hl
 refine ⟨fun i j hij hj=>?_,fun m hm hn=>?_,fun m hm=>?_⟩
 ·rw [B,B]
  by_cases c1:i=l
  ·rw [if_pos c1,if_neg (by omega),if_pos (by omega)]
   exact .inl (h2 (j - 1) (by omega) (by omega))
  ·rw [if_neg c1]
   by_cases c2:j=l
   ·rw [if_pos c2,if_neg (by omega)]
    exact .inr ⟨h1 i (by omega),by rw [ek];exact R.low i (by omega)⟩
   ·rw [if_neg c2]
    by_cases c3:l < i∧i ≤ k
    ·rw [if_pos c3,if_pos (by omega)]
     exact R.asc _ _ (by omega) (by omega)
    ·rw [if_neg c3]
     by_cases c4:l < j∧j ≤ k
     ·rw [if_pos c4]
      exact R.asc _ _ (by omega) (by omega)
     ·rw [if_neg c4]
      exact R.asc _ _ hij (by omega)
 ·rw [B,if_neg (by omega),if_neg (by omega)]
  exact R.rest m (by omega) hn
 ·rw [B]
  split
  ·omega
  ·split
   ·have:=R.low (m - 1) (by omega);omega
   ·have:=R.low m (by omega);omega
theorem J8 (W:Weak lt):∀ (f:Nat) (p:Array Nat) (k:Nat),p.size=n→Run lt n p k→k + f=n→Run lt n (dw lt (kas_bin f p k)) n
 | 0,p,k,hs,R,h=>by
  have:k=n:=by omega
  subst this
  exact R
 | f + 1,p,k,hs,R,h=>by
  have e:dw lt (kas_bin (f + 1) p k)=dw lt (kas_bin f (bubble p k (k - dw lt (kas_place p k k 0 k))) (k + 1)):=lM _ _
  rw [e]
  obtain ⟨q1,q2,q3⟩:=vq W R k 0 k (fG _) (bG _) (by omega) (fun i hi=>by omega) (fun i h1 h2=>by omega)
  exact J8 W f _ (k + 1) (by rw [bubble_size];exact hs) (J7 W hs R (by omega) q1 q2 q3) (by omega)
end
end XS
namespace XS
open PySem PySem.W PyProof.Rows
section
variable {lt:Nat→Nat→Bool} {p p':Array Nat} {n a q:Nat}
theorem Rk.nr (W:Weak lt) {a b:Nat} (h:Rk lt a b):lt b a=false:=by
 rcases h with h | ⟨h,_⟩
 ·cases z:lt b a with
  | false=>rfl
  | true=>have:=W.tr _ _ _ h z;rw [W.irr] at this;cases this
 ·exact h
theorem Cq {i j:Nat} (hj:j ≤ p.size) (k:Nat):ga (kas_rev p i j) k=if i ≤ k∧k < j then ga p (i + j - 1 - k) else ga p k:=by
 have e:=getElem?_mirror_all (i:=i) hj k
 have g:∀ (q:Array Nat) (i:Nat),ga q i=(q[i]?).getD 0:=fun q i=>by simp [ga,fZ]
 rw [g,g p (i + j - 1 - k),g p k]
 unfold kas_rev
 rw [e]
 by_cases c:i ≤ k∧k < j
 ·rw [if_pos c,if_pos c]
 ·rw [if_neg c,if_neg c]
theorem vC (i j:Nat):(kas_rev p i j).size=p.size:=mirror_size _ _ _ _
structure Dn (lt:Nat→Nat→Bool) (n:Nat) (p:Array Nat) (a q:Nat):Prop where
 le:q + 1 ≤ a
 desc:∀ i j,i < j→j < a - (q + 1)→Rk lt (ga p j) (ga p i)
 strict:∀ i j,i < a - (q + 1)→a - (q + 1) ≤ j→j < a→lt (ga p j) (ga p i)=true
 run:∀ i j,a - (q + 1) ≤ i→i < j→j < a→lt (ga p i) (ga p j)=false∧lt (ga p j) (ga p i)=false∧ga p i < ga p j
 rest:∀ k,a ≤ k→k < n→ga p k=k
 low:∀ k,k < a→ga p k < a
structure Desc (lt:Nat→Nat→Bool) (n:Nat) (p:Array Nat) (a:Nat):Prop where
 desc:∀ i j,i < j→j < a→Rk lt (ga p j) (ga p i)
 rest:∀ k,a ≤ k→k < n→ga p k=k
 low:∀ k,k < a→ga p k < a
theorem Dn.turn (D:Dn lt n p a q) (h:∀ k,ga p' k=if a - (q + 1) ≤ k∧k < a then ga p (a - (q + 1) + a - 1 - k) else ga p k):Desc lt n p' a:=by
 have l:=D.le
 refine ⟨fun i j hij hj=>?_,fun k hk hn=>?_,fun k hk=>?_⟩
 ·by_cases c:j < a - (q + 1)
  ·rw [h,h,if_neg (by omega),if_neg (by omega)]
   exact D.desc i j hij c
  ·rw [h j,if_pos (by omega),h i]
   by_cases e:i < a - (q + 1)
   ·rw [if_neg (by omega)]
    exact .inl (D.strict _ _ e (by omega) (by omega))
   ·rw [if_pos (by omega)]
    obtain ⟨x,y,z⟩:=D.run (a - (q + 1) + a - 1 - j) (a - (q + 1) + a - 1 - i) (by omega) (by omega) (by omega)
    exact .inr ⟨y,z⟩
 ·rw [h,if_neg (by omega)];exact D.rest k hk hn
 ·rw [h]
  split
  ·exact D.low _ (by omega)
  ·exact D.low _ hk
theorem Desc.up (D:Desc lt n p a) (ha:a < n) (h:∀ i,i < a→lt (ga p a) (ga p i)=true):Dn lt n p (a + 1) 0:=by
 refine ⟨by omega,fun i j hij hj=>D.desc i j hij (by omega),fun i j hi h1 h2=>?_,fun i j h1 h2 h3=>by omega,fun k hk hn=>D.rest k (by omega) hn,fun k hk=>?_⟩
 ·have:j=a:=by omega
  subst this
  exact h i (by omega)
 ·by_cases z:k < a
  ·have:=D.low k z;omega
  ·have:k=a:=by omega
   subst this
   rw [D.rest k (bG _) ha];omega
def turned (p:Array Nat) (a q:Nat):Array Nat:=if q > 0 then kas_rev p (a - (q + 1)) a else p
theorem pJ (hs:p.size=n) (ha:a ≤ n) (l:q + 1 ≤ a) (k:Nat):ga (turned p a q) k=if a - (q + 1) ≤ k∧k < a then ga p (a - (q + 1) + a - 1 - k) else ga p k:=by
 unfold turned
 by_cases c:q > 0
 ·rw [if_pos c];exact Cq (by omega) k
 ·rw [if_neg c]
  by_cases e:a - (q + 1) ≤ k∧k < a
  ·rw [if_pos e,show a - (q + 1) + a - 1 - k=k by omega]
  ·rw [if_neg e]
theorem tY:(turned p a q).size=p.size:=by
 unfold turned
 split
 ·exact vC _ _
 ·rfl
theorem Dn.below (W:Weak lt) (D:Dn lt n p a q) (hs:p.size=n) (ha:a < n) (h:lt (ga p a) (ga p (a - 1))=true) (i:Nat) (hi:i < a):lt (ga (turned p a q) a) (ga (turned p a q) i)=true:=by
 have l:=D.le
 have all:∀ i,i < a→lt (ga p a) (ga p i)=true:=fun i hi=>by
  by_cases c:i < a - (q + 1)
  ·exact W.tr _ _ _ h (D.strict i (a - 1) c (by omega) (by omega))
  ·by_cases e:i=a - 1
   ·rw [e];exact h
   ·rcases W.nt _ (ga p i) _ h with w | w
    ·exact w
    ·rw [(D.run i (a - 1) (by omega) (by omega) (by omega)).1] at w;cases w
 rw [pJ hs (by omega) l,if_neg (by omega),pJ hs (by omega) l]
 split
 ·exact all _ (by omega)
 ·exact all _ hi
theorem Dn.same (W:Weak lt) (D:Dn lt n p a q) (ha:a < n) (h1:lt (ga p a) (ga p (a - 1))=false) (h2:lt (ga p (a - 1)) (ga p a)=false):Dn lt n p (a + 1) (q + 1):=by
 have l:=D.le
 have ea:=D.rest a (bG _) ha
 refine ⟨by omega,fun i j hij hj=>D.desc i j hij (by omega),fun i j hi q1 q2=>?_,fun i j q1 q2 q3=>?_,fun k hk hn=>D.rest k (by omega) hn,fun k hk=>?_⟩
 ·by_cases z:j < a
  ·exact D.strict i j (by omega) (by omega) z
  ·have:j=a:=by omega
   subst this
   rcases W.nt _ (ga p j) _ (D.strict i (j - 1) (by omega) (by omega) (by omega)) with w | w
   ·rw [w] at h2;cases h2
   ·exact w
 ·by_cases z:j < a
  ·exact D.run i j (by omega) q2 z
  ·have:j=a:=by omega
   subst this
   have lo:=D.low i (by omega)
   by_cases e:i=j - 1
   ·subst e
    exact ⟨h2,h1,by omega⟩
   ·obtain ⟨x,y,_⟩:=D.run i (j - 1) (by omega) (by omega) (by omega)
    exact ⟨W.not x h2,W.not h1 y,by omega⟩
 ·by_cases z:k < a
  ·have:=D.low k z;omega
  ·have:k=a:=by omega
   subst this
   omega
theorem yQ (W:Weak lt):∀ (f:Nat) (p:Array Nat) (a q:Nat),p.size=n→Dn lt n p a q→a + f ≤ n →
 (dw lt (kas_desc f p a q)).1.size=n∧Dn lt n (dw lt (kas_desc f p a q)).1 (dw lt (kas_desc f p a q)).2.1 (dw lt (kas_desc f p a q)).2.2∧(dw lt (kas_desc f p a q)).2.1 ≤ n
 | 0,p,a,q,hs,D,h=>⟨hs,D,h⟩
 | f + 1,p,a,q,hs,D,h=>by
  have e:dw lt (kas_desc (f + 1) p a q)=dw lt (if lt (ga p a) (ga p (a - 1))=true then (if q > 0 then kas_desc f (kas_rev p (a - (q + 1)) a) (a + 1) 0 else kas_desc f p (a + 1) 0) else .ask (ga p (a - 1)) (ga p a) fun d=>if d=true then .ret (p,a,q) else kas_desc f p (a + 1) (q + 1)):=rfl
  rw [e]
  by_cases c:lt (ga p a) (ga p (a - 1))=true
  ·rw [if_pos c]
   have e2:(if q > 0 then kas_desc f (kas_rev p (a - (q + 1)) a) (a + 1) 0 else kas_desc f p (a + 1) 0)=kas_desc f (turned p a q) (a + 1) 0:=by
    unfold turned
    split <;> rfl
   rw [e2]
   exact yQ W f (turned p a q) (a + 1) 0 (by rw [tY];exact hs) ((D.turn (pJ hs (by omega) D.le)).up (by omega) (D.below W hs (by omega) c)) (by omega)
  ·rw [if_neg c]
   have e3:dw lt (.ask (ga p (a - 1)) (ga p a) fun d=>if d=true then .ret (p,a,q) else kas_desc f p (a + 1) (q + 1))=dw lt (if lt (ga p (a - 1)) (ga p a)=true then .ret (p,a,q) else kas_desc f p (a + 1) (q + 1)):=rfl
   rw [e3]
   by_cases d:lt (ga p (a - 1)) (ga p a)=true
   ·rw [if_pos d]
    exact ⟨hs,D,by show a ≤ n;omega⟩
   ·rw [if_neg d]
    exact yQ W f p (a + 1) (q + 1) hs (D.same W (by omega) (by simpa using c) (by simpa using d)) (by omega)
theorem N_ (W:Weak lt) (hs:p.size=n) (D:Desc lt n p a) (h1:1 ≤ a) (ha:a ≤ n) :
 (dw lt (kas_tail3 a n p)).2.size=n∧Run lt n (dw lt (kas_tail3 a n p)).2 (dw lt (kas_tail3 a n p)).1∧1 ≤ (dw lt (kas_tail3 a n p)).1∧(dw lt (kas_tail3 a n p)).1 ≤ n:=by
 have e:dw lt (kas_tail3 a n p)=(dw lt (kas_asc (kas_rev p 0 a) (n - a) a),kas_rev p 0 a):=lM _ _
 rw [e]
 have B:=Cq (p:=p) (i:=0) (j:=a) (by omega)
 have R:Run lt n (kas_rev p 0 a) a:=by
  refine ⟨fun i j hij hj=>?_,fun k hk hn=>?_,fun k hk=>?_⟩
  ·rw [B,B,if_pos (by omega),if_pos (by omega)]
   exact D.desc _ _ (by omega) (by omega)
  ·rw [B,if_neg (by omega)];exact D.rest k hk hn
  ·rw [B,if_pos (by omega)];exact D.low _ (by omega)
 obtain ⟨q1,q2,q3,_⟩:=Cp W (n - a) a R h1 (by omega)
 exact ⟨by rw [vC];exact hs,q1,by show 1 ≤ dw lt _;omega,by show dw lt _ ≤ n;omega⟩
theorem Ej (W:Weak lt) (hs:p.size=n) (D:Dn lt n p (a + 1) 0) (ha:a < n) :
 (dw lt (kas_descPart a n p)).2.size=n∧Run lt n (dw lt (kas_descPart a n p)).2 (dw lt (kas_descPart a n p)).1∧1 ≤ (dw lt (kas_descPart a n p)).1∧(dw lt (kas_descPart a n p)).1 ≤ n:=by
 obtain ⟨q1,q2,q3⟩:=yQ W (n - (a + 1)) p (a + 1) 0 hs D (by omega)
 have e:dw lt (kas_descPart a n p)=dw lt (kas_tail3 (dw lt (kas_desc (n - (a + 1)) p (a + 1) 0)).2.1 n (turned (dw lt (kas_desc (n - (a + 1)) p (a + 1) 0)).1 (dw lt (kas_desc (n - (a + 1)) p (a + 1) 0)).2.1 (dw lt (kas_desc (n - (a + 1)) p (a + 1) 0)).2.2)):=by
  refine (lM _ _).trans ?_
  unfold turned
  split <;> rfl
 rw [e]
 have l:=q2.le
 exact N_ W (by rw [tY];exact q1) (q2.turn (pJ q1 q3 l)) (by omega) q3
theorem J9 (W:Weak lt) (hs:p.size=n) (hn:1 ≤ n) (R:Run lt n p 1) :
 (dw lt (kas_count n p)).2.size=n∧Run lt n (dw lt (kas_count n p)).2 (dw lt (kas_count n p)).1∧1 ≤ (dw lt (kas_count n p)).1∧(dw lt (kas_count n p)).1 ≤ n:=by
 obtain ⟨q1,q2,q3,q4⟩:=Cp W (n - 1) 1 R (bG _) (by omega)
 have e:dw lt (kas_count n p)=_:=lM _ _
 rw [e]
 clear e
 generalize dw lt (kas_asc p (n - 1) 1)=m at q1 q2 q3 q4 ⊢
 by_cases c:(m == n)=true
 ·rw [if_pos c];exact ⟨hs,q1,q2,by show m ≤ n;omega⟩
 ·rw [if_neg c]
  have c:m < n:=by
   have:¬ m=n:=by simpa using c
   omega
  have dn:=q4 (by omega)
  have st:∀ p',(∀ k,ga p' k=if 0 ≤ k∧k < m then ga p (0 + m - 1 - k) else ga p k)→lt (ga p 0) (ga p (m - 1))=false→Dn lt n p' (m + 1) 0:=fun p' B z=>by
   have D:Desc lt n p' m:=by
    refine ⟨fun i j hij hj=>?_,fun k hk hn=>?_,fun k hk=>?_⟩
    ·rw [B,B,if_pos (by omega),if_pos (by omega)]
     exact q1.asc _ _ (by omega) (by omega)
    ·rw [B,if_neg (by omega)];exact q1.rest k hk hn
    ·rw [B,if_pos (by omega)];exact q1.low _ (by omega)
   have all:∀ i,i < m→lt (ga p m) (ga p i)=true:=fun i hi=>by
    rcases W.nt _ (ga p i) _ dn with w | w
    ·exact w
    ·by_cases y:i=0
     ·subst y;rw [z] at w;cases w
     ·rcases W.nt _ (ga p 0) _ w with v | v
      ·rw [(q1.asc 0 i (by omega) hi).nr W] at v;cases v
      ·rw [z] at v;cases v
   refine D.up c fun i hi=>?_
   rw [B,if_neg (by omega),B,if_pos (by omega)]
   exact all _ (by omega)
  by_cases g:m > 1
  ·rw [if_pos g]
   show _∧Run lt n (dw lt (if lt (ga p 0) (ga p (m - 1))=true then .ret (m,p) else kas_descPart m n (kas_rev p 0 m))).2 (dw lt (if lt (ga p 0) (ga p (m - 1))=true then .ret (m,p) else kas_descPart m n (kas_rev p 0 m))).1∧_
   by_cases z:lt (ga p 0) (ga p (m - 1))=true
   ·have e:dw lt (.ask (ga p 0) (ga p (m - 1)) fun c=>if c=true then .ret (m,p) else kas_descPart m n (kas_rev p 0 m))=(m,p):=by
     show dw lt (if lt (ga p 0) (ga p (m - 1))=true then .ret (m,p) else kas_descPart m n (kas_rev p 0 m))=_
     rw [if_pos z];rfl
    rw [e,if_pos z]
    exact ⟨hs,q1,q2,by show m ≤ n;omega⟩
   ·have e:dw lt (.ask (ga p 0) (ga p (m - 1)) fun c=>if c=true then .ret (m,p) else kas_descPart m n (kas_rev p 0 m))=dw lt (kas_descPart m n (kas_rev p 0 m)):=by
     show dw lt (if lt (ga p 0) (ga p (m - 1))=true then .ret (m,p) else kas_descPart m n (kas_rev p 0 m))=_
     rw [if_neg z]
    rw [e,if_neg z]
    exact Ej W (by rw [vC];exact hs) (st _ (Cq (by omega)) (by simpa using z)) c
  ·rw [if_neg g]
   have:m=1:=by omega
   subst this
   refine Ej W hs (st p (fun k=>?_) (W.irr _)) c
   split
   ·rw [show 0 + 1 - 1 - k=k by omega]
   ·rfl
theorem Oa (W:Weak lt) (hn:1 ≤ n):Run lt n (dw lt (kas_sort n)) n:=by
 have gr:∀ k,k < n→ga (gH (aN n)) k=k:=fun k hk=>by
  simp [ga,fZ,hk]
 obtain ⟨q1,q2,q3,q4⟩:=J9 (p:=gH (aN n)) W (by simp) hn ⟨fun i j h1 h2=>by omega,fun k hk h=>gr k h,fun k hk=>by rw [gr k (by omega)];exact hk⟩
 have e:dw lt (kas_sort n)=_:=lM _ _
 rw [e]
 clear e
 generalize dw lt (kas_count n (gH (aN n)))=r at q1 q2 q3 q4 ⊢
 by_cases c:r.1 < n
 ·rw [if_pos c,show max r.1 1=r.1 by omega]
  exact J8 W _ _ _ q1 q2 (by omega)
 ·rw [if_neg c]
  have:r.1=n:=by omega
  rw [← this]
  rw [← this] at q2
  exact q2
theorem Cr (W:Weak lt) (hn:1 ≤ n):(qw n lt).Pairwise (Rk lt):=by
 have R:=Oa W hn
 have z:(qw n lt).length=n:=by
  have:=(nD (n:=n) (by omega) lt).length_eq
  simpa using this
 rw [List.pairwise_iff_getElem]
 intro i j hi hj hij
 have:=R.asc i j hij (by omega)
 have g:∀ k (h:k < (qw n lt).length),ga (dw lt (kas_sort n)) k=(qw n lt)[k]:=fun k h=>by
  unfold qw at h ⊢
  have h':k < (dw lt (kas_sort n)).size:=by simpa using h
  simp [ga,fZ,h']
 rw [g i hi,g j hj] at this
 exact this
end
end XS
namespace XS
theorem J_ {k:Nat→Int}:Weak fun i j=>decide (k i < k j):=by
 refine ⟨fun a=>?_,fun a b c h1 h2=>?_,fun a b c h=>?_⟩
 ·simp
 ·simp only [decide_eq_true_eq] at *;omega
 ·simp only [decide_eq_true_eq] at *;omega
end XS
namespace Com
open PySem D3 My XS
theorem V_ {k:Nat→Int} {i j:Nat} (h:Rk (fun i j=>decide (k i < k j)) i j):k i ≤ k j:=by
 rcases h with z | ⟨z,_⟩
 ·have z:=of_decide_eq_true z;omega
 ·have z:=of_decide_eq_false z;omega
theorem Ka {l:List Nat} {lt:Nat→Nat→Bool} (h0:0 < l.length):((qw l.length lt).map fun i=>l.getD i 0).Perm l:=by
 have e:(aN l.length).map (fun i=>l.getD i 0)=l:=by
  apply fQ
  intro i
  rw [bx]
  by_cases h:i < l.length
  ·rw [cR h,bf h,fV,bR,bf h]
   rfl
  ·rw [bD (by simpa using h),bD (by omega)]
   rfl
 have:=(nD h0 lt).map (fun i=>l.getD i 0)
 rw [e] at this
 exact this
theorem Cu (l:List Nat) (f:Nat→Int):∃ L':List Nat,pX (l.map fun p:Nat=>PyData.int (p:Int)) (l.map f)=L'.map (fun p:Nat=>PyData.int (p:Int))∧L'.Perm l∧L'.Pairwise fun a b=>f a ≤ f b:=by
 unfold pX
 rw [aL]
 by_cases h1:l.length ≤ 1
 ·rw [if_pos h1]
  refine ⟨l,rfl,List.Perm.refl _,?_⟩
  match l,h1 with
  | [],_=>exact .nil
  | [_],_=>simp
 ·rw [if_neg h1]
  have gd:∀ i,i < l.length→(l.map f).getD i 0=f (l.getD i 0):=fun i hi=>by
   rw [bR,bx,bR,bf hi]
   rfl
  refine ⟨(qw l.length fun i j=>decide ((l.map f).getD i 0 < (l.map f).getD j 0)).map fun i=>l.getD i 0,?_,Ka (by omega),?_⟩
  ·rw [gG]
   apply jl
   intro i hi
   have hi':=cA.mp ((nD (n:=l.length) (by omega) _).mem_iff.mp hi)
   rw [bR,bx,bf hi']
   show _=PyData.int ((l.getD i 0:Nat):Int)
   rw [bR,bf hi']
   rfl
  ·rw [List.pairwise_map]
   have W:Weak fun i j=>decide ((l.map f).getD i 0 < (l.map f).getD j 0):=J_
   refine List.Pairwise.imp_of_mem ?_ (Cr W (by omega))
   intro i j hi hj hr
   have hi':=cA.mp ((nD (n:=l.length) (by omega) _).mem_iff.mp hi)
   have hj':=cA.mp ((nD (n:=l.length) (by omega) _).mem_iff.mp hj)
   have:=V_ (k:=fun i=>(l.map f).getD i 0) hr
   rw [gd i hi',gd j hj'] at this
   exact this
theorem Kc {n:Nat} (f:Nat→D):jo ((aN n).map f)=(aN n).map fun p:Nat=>PyData.tuple [.int (p:Int),f p]:=by
 unfold jo
 apply fQ
 intro i
 rw [iZ,bx,bx]
 by_cases h:i < n
 ·rw [cR h]
  rfl
 ·rw [bD (by simpa using h)]
  rfl
theorem Wa {L:List Ty} (u:Option U) (ps:List Nat) (h:∀ p ∈ ps,p < L.length):fK (gNl 0) D3.jA dK0 (jH 1 [0] [some (.d (.list (L.map yD))),u]) (ps.map fun p:Nat=>PyData.int (p:Int))=some ((ps.map fun p=>(tAt L p).1).map PyData.int):=by
 rw [gG]
 exact yM (fun p:Nat=>PyData.int (p:Int)) (fun p:Nat=>PyData.int (tAt L p).1) ps fun p hp=>⟨[some (.d (.int (p:Int))),some (.d (.list (L.map yD)))],rfl,rfl,by
  show (pAt (L.map yD) (p:Int)).bind _=_
  rw [pI,S_ _ (h p hp)]
  rfl⟩
def opn (L:List Ty):List Nat:=(aN L.length).filter fun p=>!(tAt L p).2.2.isSome
theorem Wb {L:List Ty} (x:Int):mZ L x=((aN L.length).filter (Gr.holds (fun k=>(tAt L k).1) (fun k=>(tAt L k).2.1) x)).length:=by
 have e:L=(aN L.length).map (tAt L):=by
  apply fQ
  intro i
  rw [bx]
  by_cases h:i < L.length
  ·rw [cR h,bf h,fV]
   unfold tAt
   rw [bR,bf h]
   rfl
  ·rw [bD (by omega),bD (by simpa using h)]
   rfl
 unfold mZ
 conv=>lhs;rw [e]
 rw [List.filter_map,aL]
 rfl
theorem Aa {L:List Ty} (nd:(L.filterMap (·.2.2)).Nodup) {k l r:Nat} (hk:k < L.length) (hl:l < L.length) (z1:(tAt L k).2.2=some r) (z2:(tAt L l).2.2=some r):k=l:=by
 induction L generalizing k l with
 | nil=>cases hk
 | cons s L ih =>
  have nd':(L.filterMap (·.2.2)).Nodup:=by
   cases h:s.2.2 with
   | none=>rw [cg,h] at nd;exact nd
   | some x=>rw [cg,h] at nd;exact (cU.mp nd).2
  have no:∀ m,m < L.length→s.2.2=some r→(tAt L m).2.2=some r→False:=fun m hm a b=>by
   rw [cg,a] at nd
   exact (cU.mp nd).1 (gw.mpr ⟨_,oh hm,b⟩)
  cases k with
  | zero =>
   cases l with
   | zero=>rfl
   | succ l=>exact (no l (by simpa using hl) z1 z2).elim
  | succ k =>
   cases l with
   | zero=>exact (no k (by simpa using hk) z2 z1).elim
   | succ l=>exact congrArg (· + 1) (ih nd' (k:=k) (l:=l) (by simpa using hk) (by simpa using hl) z1 z2)
end Com
namespace K32
open PySem D3
noncomputable abbrev eN:List D→Option D:=Com.eN
noncomputable def gM:List D→Option D:=fnD 1 0 (bO (dCall HW (aj (iT (Q0 (aD 0)) (gNl 0) (jA) (dCall eN (aj (aD 0) (aJ))) 1 []) (aJ))))
noncomputable def j8:List D→Option D:=fnD 2 0 (bO (qg (dUn (gIs "tuple") (aD 0)) (qg (dOp gEq (dCall jB (aj (aD 0) (aJ))) (aD 1)) (dCall gM (aj (aD 0) (aJ))))))
noncomputable def lR:List D→Option D:=fnD 1 0 (bO (dCall j8 (aj (aD 0) (aj (dC (.int 2)) (aJ)))))
noncomputable def fY:List D→Option D:=fnD 1 0 (bO (qg (dUn (gIs "list") (aD 0)) (dCall gM (aj (aD 0) (aJ)))))
noncomputable def iy:List D→Option D:=fnD 1 0 (bO (qg (dCall lR (aj (aD 0) (aJ))) (um gLe gLt gLe (dC (.int 0)) (dOp gIx (aD 0) (dC (.int 0))) (dOp gIx (aD 0) (dC (.int 1))) (dC (.int 400)))))
noncomputable abbrev cH:List D→Option D:=Com.cH
noncomputable abbrev iV:List D→Option D:=Com.iV
noncomputable abbrev nG:List D→Option D:=Com.nG
noncomputable abbrev lJ:List D→Option D:=Com.lJ
noncomputable abbrev je:List D→Option D:=Com.je
noncomputable abbrev mG:List D→Option D:=Com.mG
noncomputable abbrev jO:List D→Option D:=Com.jO
noncomputable def dY:List D→Option D:=fnD 3 1 (aW (sIf (D3.tOr (D3.dG (aM (dUn (gIs "tuple") (aD 0)))) (D3.tOr (aM (dOp gNe (dCall jB (aj (aD 0) (aJ))) (dC (.int 3)))) (D3.dG (aM (dCall iy (aj (dCall cH (aj (aD 0) (aJ))) (aJ))))))) (bO (dC (.bool false))) (bI))
 (aW (bJ 3 (dOp gIx (aD 0) (dC (.int 2))))
 (aW (sIf (aM (dUn vW (aD 3))) (bO (dOp gGe (dOp gIx (aD 0) (dC (.int 0))) (aD 2))) (bI))
 (bO (qg (dCall eN (aj (aD 3) (aJ))) (qg (oW gLe gLt (dC (.int 0)) (aD 3) (aD 1)) (dCall iV (aj (dCall cH (aj (aD 0) (aJ))) (aj (aD 2) (aJ))))))))))
noncomputable def d9:List D→Option Or:=fnX 3 3 (nu (xOf (bJ 3 (dC (.dict []))))
 (Mg (oX (aD 0)) (gTn 2 (eX (gNl 4) (eX (gNl 5) (mj)))) (nu (xIf (D3.dG (aM (dCall dY (aj (aD 5) (aj (aD 1) (aj (aD 2) (aJ))))))) (mC "NoStay" (aD 4)) (xOf (bI)))
 (nu (xIf (aM (dOp zZ (dOp gIx (aD 5) (dC (.int 2))) (aD 3))) (mC "Taken" (dOp gIx (aD 5) (dC (.int 2)))) (xOf (bI)))
 (xOf (sIf (aM (dUn mq (dOp gIx (aD 5) (dC (.int 2))))) (xq 3 (dOp gIx (aD 5) (dC (.int 2)))) (bI)))))))
noncomputable def iz:List D→Option Or:=fnX 3 1 (nu (xOf (bJ 3 (dCall jO (aj (iT (lB (aD 0)) (gNl 0) (jA) (dCall cH (aj (aD 0) (aJ))) 1 []) (aj (aD 1) (aj (aD 2) (aJ)))))))
 (xIf (aM (dUn mq (aD 3))) (mC "TooFull" (aD 3)) (xOf (bI))))
noncomputable def iK:List D→Option D:=fnD 1 1 (aW (bJ 1 (iT (oX (aD 0)) (gTn 2 (eX (gNl 0) (eX (gNl 1) (mj)))) (aM (dUn vW (dOp gIx (aD 1) (dC (.int 2))))) (eE (aD 0)) 2 []))
 (bO (XS.yJ (aD 1) XS.dK0 [0])))
noncomputable abbrev f9:List D→Option D:=Com.f9
noncomputable abbrev gj:List D→Option D:=Com.gj
noncomputable def nM:List D→Option D:=fnD 3 4 (aW (bJ 3 (dUn rG (aD 1)))
 (aW (bJ 4 (dUn rG (aD 2)))
 (aW (pO (lB (dCall iK (aj (aD 0) (aJ)))) (gNl 5) (sIf (aM (dUn vW (dOp gIx (aD 3) (aD 5)))) (aW (bJ 6 (dCall gj (aj (aD 4) (aj (dOp gIx (dOp gIx (aD 0) (aD 5)) (dC (.int 0))) (aJ)))))
 (aW (vV 3 (aD 5) (aD 6))
 (vV 4 (aD 6) (dOp gIx (dOp gIx (aD 0) (aD 5)) (dC (.int 1)))))) (bI)))
 (bO (Ba (aD 3))))))
noncomputable def eY:List D→Option Or:=fnX 3 0 (nu (jM d9 [] (aj (aD 0) (aj (aD 1) (aj (aD 2) (aJ)))))
 (nu (jM iz [] (aj (aD 0) (aj (aD 1) (aj (aD 2) (aJ)))))
 (xOf (bO (dCall nM (aj (aD 0) (aj (iT (lB (aD 0)) (gNl 0) (jA) (eE (dOp gIx (aD 0) (dC (.int 2)))) 1 []) (aj (dCall f9 (aj (aD 0) (aj (aD 1) (aj (aD 2) (aJ))))) (aJ)))))))))
noncomputable abbrev cV:List D→Option D:=Com.cV
noncomputable abbrev eU:List D→Option D:=Com.eU
noncomputable def fU:List D→Option Or:=fnX 4 2 (nu (jM d9 [] (aj (aD 0) (aj (aD 1) (aj (aD 2) (aJ)))))
 (nu (xOf (sIf (D3.tOr (D3.dG (aM (dCall fY (aj (aD 3) (aJ))))) (aM (dOp gNe (dCall jB (aj (aD 3) (aJ))) (dCall jB (aj (aD 0) (aJ)))))) (bO (dC (.bool false))) (bI)))
 (nu (xOf (pO (oX (aD 0)) (gTn 2 (eX (gNl 4) (eX (gNl 5) (mj)))) (sIf (D3.tOr (D3.dG (aM (dCall cV (aj (aD 5) (aj (dOp gIx (aD 3) (aD 4)) (aj (aD 1) (aJ))))))) (D3.dG (aM (dCall eU (aj (aD 0) (aj (aD 3) (aj (aD 4) (aJ)))))))) (bO (dC (.bool false))) (bI))))
 (xOf (bO (dC (.bool true)))))))
noncomputable abbrev gZ:List D→Option D:=Com.gZ
noncomputable abbrev bA:List D→Option D:=Com.bA
noncomputable abbrev cP:List D→Option D:=Com.cP
noncomputable def g_:List D→Option D:=fnD 5 2 (aW (bJ 5 (dCall pW (aj (dC (.int 399)) (aj (dOp iW (aD 4) (dCall bA (aj (aD 0) (aj (aD 1) (aj (aD 2) (aj (dOp gIx (d_ (aj (dC (.int 3)) (aj (dC (.int 9)) (aj (dC (.int 30)) (aj (dC (.int 150)) (aJ)))))) (aD 3)) (aJ))))))) (aJ)))))
 (aW (bJ 6 (dOp iW (dC (.int 1)) (dCall bA (aj (aD 0) (aj (aD 1) (aj (dOp iW (aD 2) (dC (.int 1))) (aj (dOp gIx (d_ (aj (dC (.int 2)) (aj (dC (.int 6)) (aj (dC (.int 30)) (aj (dC (.int 200)) (aJ)))))) (dCall bA (aj (aD 0) (aj (aD 1) (aj (dOp iW (aD 2) (dC (.int 2))) (aj (dC (.int 4)) (aJ))))))) (aJ))))))))
 (bO (dTup (aj (eE (aD 5)) (aj (dCall pW (aj (dC (.int 400)) (aj (dOp iW (aD 5) (aD 6)) (aJ)))) (aj (dC (.none)) (aJ))))))))
noncomputable def iB:List D→Option D:=fnD 5 2 (aW (bJ 5 (dCall oE (aj (dC (.int 0)) (aj (dOp xV (aD 3) (dCall bA (aj (aD 0) (aj (aD 1) (aj (aD 2) (aj (dC (.int 6)) (aJ))))))) (aJ)))))
 (aW (bJ 6 (dCall bA (aj (aD 0) (aj (aD 1) (aj (dOp iW (aD 2) (dC (.int 1))) (aj (dOp gIx (d_ (aj (dC (.int 2)) (aj (dC (.int 9)) (aj (dC (.int 60)) (aJ))))) (dCall bA (aj (aD 0) (aj (aD 1) (aj (dOp iW (aD 2) (dC (.int 2))) (aj (dC (.int 3)) (aJ))))))) (aJ)))))))
 (bO (dTup (aj (eE (aD 5)) (aj (dCall pW (aj (dC (.int 400)) (aj (dOp iW (dOp iW (aD 3) (dC (.int 1))) (aD 6)) (aJ)))) (aj (eE (aD 4)) (aJ))))))))
noncomputable abbrev cN:List D→Option D:=Com.cN
noncomputable abbrev fO:List D→Option D:=Com.fO
noncomputable def jP:List D→Option D:=fnD 4 9 (aW (bJ 4 (dCall bA (aj (aD 0) (aj (dC (.int 0)) (aj (dC (.int 0)) (aj (dC (.int 4)) (aJ)))))))
 (aW (bJ 5 (d_ (aJ)))
 (aW (pO (tK (aj (aD 1) (aJ))) (gNl 6) (sIf (D3.mW (aM (dOp gEq (dCall bA (aj (aD 0) (aj (dC (.int 1)) (aj (aD 6) (aj (dC (.int 3)) (aJ)))))) (dC (.int 1)))) (aM (dOp gLt (dCall jB (aj (aD 5) (aJ))) (aD 3)))) (aW (bJ 7 (dCall bA (aj (aD 0) (aj (dC (.int 1)) (aj (dOp iW (dC (.int 12)) (aD 6)) (aj (dOp iW (dCall jB (aj (aD 5) (aJ))) (dC (.int 1))) (aJ)))))))
 (zN 5 (aD 7) (dCall iB (aj (aD 0) (aj (dC (.int 2)) (aj (dOp nW (dC (.int 3)) (aD 6)) (aj (aD 2) (aj (aD 6) (aJ))))))))) (bI)))
 (aW (bJ 8 (dCall bA (aj (aD 0) (aj (dC (.int 0)) (aj (dC (.int 5)) (aj (dC (.int 12)) (aJ)))))))
 (aW (bJ 9 (dOp gEq (dCall bA (aj (aD 0) (aj (dC (.int 0)) (aj (dC (.int 6)) (aj (dC (.int 6)) (aJ)))))) (dC (.int 1))))
 (aW (bJ 10 (dOp gEq (dCall bA (aj (aD 0) (aj (dC (.int 0)) (aj (dC (.int 7)) (aj (dC (.int 4)) (aJ)))))) (dC (.int 1))))
 (aW (pO (tK (aj (dOp gIx (d_ (aj (aD 8) (aj (dC (.int 24)) (aJ)))) (dCall HJ (aj (aD 9) (aJ)))) (aJ))) (gNl 11) (aW (bJ 12 (dCall g_ (aj (aD 0) (aj (dOp iW (dC (.int 10)) (aD 11)) (aj (dC (.int 0)) (aj (aD 4) (aj (aD 2) (aJ))))))))
 (aW (bJ 7 (dCall bA (aj (aD 0) (aj (dC (.int 4)) (aj (aD 11) (aj (dOp iW (dCall jB (aj (aD 5) (aJ))) (dC (.int 1))) (aJ)))))))
 (sIf (D3.mW (aM (dOp gLt (dCall jB (aj (aD 5) (aJ))) (aD 3))) (D3.tOr (aM (aD 10)) (aM (dUn vW (dCall cN (aj (dOp pQ (aD 5) (d_ (aj (aD 12) (aJ)))) (aj (aD 1) (aj (aD 2) (aJ))))))))) (zN 5 (aD 7) (aD 12)) (bI)))))
 (bO (Ba (aD 5))))))))))
noncomputable def dH:List D→Option D:=fnD 1 0 (aW (sIf (D3.tOr (D3.dG (aM (dUn (gIs "tuple") (aD 0)))) (D3.tOr (aM (dOp gNe (dCall jB (aj (aD 0) (aJ))) (dC (.int 3)))) (D3.tOr (D3.dG (aM (dCall cP (aj (dOp gIx (aD 0) (dC (.int 0))) (aJ))))) (D3.dG (aM (dCall cP (aj (dOp gIx (aD 0) (dC (.int 1))) (aJ)))))))) (bO (dC (.bool false))) (bI))
 (bO (qg (dOp gGe (dOp gIx (aD 0) (dC (.int 0))) (dC (.int 0))) (qg (dOp gLt (dOp gIx (aD 0) (dC (.int 0))) (dOp gIx (aD 0) (dC (.int 1)))) (dOp gLe (dOp gIx (aD 0) (dC (.int 1))) (dC (.int 400)))))))
noncomputable def cY:List D→Option D:=fnD 3 0 (aW (sIf (D3.dG (aM (dCall dH (aj (aD 0) (aJ))))) (bO (dC (.bool false))) (bI))
 (aW (sIf (aM (dUn vW (dOp gIx (aD 0) (dC (.int 2))))) (bO (dOp gGe (dOp gIx (aD 0) (dC (.int 0))) (aD 2))) (bI))
 (aW (sIf (D3.tOr (D3.dG (aM (dCall cP (aj (dOp gIx (aD 0) (dC (.int 2))) (aJ))))) (D3.tOr (aM (dOp gLt (dOp gIx (aD 0) (dC (.int 2))) (dC (.int 0)))) (aM (dOp gGe (dOp gIx (aD 0) (dC (.int 2))) (aD 1))))) (bO (dC (.bool false))) (bI))
 (bO (qg (dOp gLe (dOp gIx (aD 0) (dC (.int 0))) (aD 2)) (dOp gLt (aD 2) (dOp gIx (aD 0) (dC (.int 1)))))))))
noncomputable def iD:List D→Option D:=fnD 3 3 (aW (bJ 3 (d_ (aJ)))
 (aW (pO (tK (aj (dCall jB (aj (aD 0) (aJ))) (aJ))) (gNl 4) (aW (sIf (D3.dG (aM (dCall cY (aj (dOp gIx (aD 0) (aD 4)) (aj (aD 1) (aj (aD 2) (aJ))))))) (bO (dTup (aj (dC (.str "stay")) (aj (eE (aD 4)) (aJ))))) (bI))
 (aW (sIf (D3.mW (aM (dUn mq (dOp gIx (dOp gIx (aD 0) (aD 4)) (dC (.int 2))))) (aM (dOp gIn (dOp gIx (dOp gIx (aD 0) (aD 4)) (dC (.int 2))) (aD 3)))) (bO (dTup (aj (dC (.str "taken")) (aj (eE (dOp gIx (dOp gIx (aD 0) (aD 4)) (dC (.int 2)))) (aJ))))) (bI))
 (Fi 3 (dOp gIx (dOp gIx (aD 0) (aD 4)) (dC (.int 2)))))))
 (aW (bJ 5 (dCall cN (aj (aD 0) (aj (aD 1) (aj (aD 2) (aJ))))))
 (aW (sIf (aM (dUn mq (aD 5))) (bO (dTup (aj (dC (.str "full")) (aj (eE (aD 5)) (aJ))))) (bI))
 (bO (dTup (aj (dC (.str "told")) (aj (dC (.int 0)) (aJ)))))))))
noncomputable def jG:List D→Option D:=fnL 4 4 (aW (bJ 4 (dCall pW (aj (dC (.int 399)) (aj (dOp iW (aD 3) (dCall bA (aj (aD 0) (aj (aD 1) (aj (dC (.int 1)) (aj (dC (.int 5)) (aJ))))))) (aJ)))))
 (aW (bJ 5 (dCall pW (aj (dC (.int 400)) (aj (dOp iW (dOp iW (aD 4) (dC (.int 1))) (dCall bA (aj (aD 0) (aj (aD 1) (aj (dC (.int 2)) (aj (dC (.int 5)) (aJ))))))) (aJ)))))
 (aW (bJ 6 (dCall bA (aj (aD 0) (aj (aD 1) (aj (dC (.int 3)) (aj (dOp iW (aD 2) (dC (.int 1))) (aJ)))))))
 (aW (bJ 7 (d_ (aj (dC (.none)) (aj (dTup (aj (aD 4) (aj (aD 5) (aJ)))) (aj (d_ (aj (aD 4) (aj (aD 5) (aj (dC (.none)) (aJ))))) (aj (dTup (aj (aD 5) (aj (aD 4) (aj (dC (.none)) (aJ))))) (aj (dTup (aj (aD 4) (aj (aD 4) (aj (dC (.none)) (aJ))))) (aJ))))))))
 (aW (bJ 7 (dOp pQ (aD 7) (d_ (aj (dTup (aj (dUn HN (dC (.int 1))) (aj (aD 5) (aj (dC (.none)) (aJ))))) (aj (dTup (aj (aD 4) (aj (dC (.int 401)) (aj (dC (.none)) (aJ))))) (aj (dTup (aj (dC (.bool true)) (aj (aD 5) (aj (dC (.none)) (aJ))))) (aj (dTup (aj (aD 4) (aj (dCall Mv (aj (aD 5) (aJ))) (aj (dC (.none)) (aJ))))) (aj (dC (.int 3)) (aJ)))))))))
 (aW (bJ 7 (dOp pQ (aD 7) (d_ (aj (dTup (aj (aD 4) (aj (aD 5) (aj (dC (.bool true)) (aJ))))) (aj (dTup (aj (aD 4) (aj (aD 5) (aj (dC (.bool false)) (aJ))))) (aJ))))))
 (aW (bJ 7 (dOp pQ (aD 7) (d_ (aj (dTup (aj (aD 4) (aj (aD 5) (aj (aD 2) (aJ))))) (aj (dTup (aj (aD 4) (aj (aD 5) (aj (dUn HN (dC (.int 1))) (aJ))))) (aj (dTup (aj (aD 4) (aj (aD 5) (aj (dC (.str "0")) (aJ))))) (aj (dTup (aj (aD 4) (aj (aD 5) (aj (d_ (aj (dC (.int 0)) (aJ))) (aJ))))) (aj (dC (.str "")) (aj (dC (.dict [])) (aJ))))))))))
 (aW (bJ 7 (dOp pQ (aD 7) (d_ (aj (dTup (aj (dCall pW (aj (dC (.int 399)) (aj (dOp iW (aD 3) (dC (.int 1))) (aJ)))) (aj (dC (.int 400)) (aj (aD 6) (aJ))))) (aj (dTup (aj (dCall oE (aj (dC (.int 0)) (aj (dOp xV (aD 3) (dC (.int 3))) (aJ)))) (aj (dCall oE (aj (dC (.int 1)) (aj (aD 3) (aJ)))) (aj (aD 6) (aJ))))) (aj (dTup (aj (dCall oE (aj (dC (.int 0)) (aj (dOp xV (aD 3) (dC (.int 1))) (aJ)))) (aj (dC (.int 400)) (aj (dC (.none)) (aJ))))) (aJ)))))))
 (aW (bJ 7 (dOp pQ (aD 7) (d_ (aj (dTup (aj (dCall oE (aj (dC (.int 0)) (aj (dOp xV (aD 3) (dC (.int 2))) (aJ)))) (aj (dC (.int 400)) (aj (aD 6) (aJ))))) (aj (dTup (aj (aD 3) (aj (dC (.int 400)) (aj (aD 6) (aJ))))) (aj (dTup (aj (aD 3) (aj (dC (.int 400)) (aj (aD 6) (aJ))))) (aj (dTup (aj (aD 4) (aj (aD 5) (aj (dC (.none)) (aj (dC (.none)) (aJ)))))) (aJ))))))))
 (zR (dOp gIx (aD 7) (dCall bA (aj (aD 0) (aj (aD 1) (aj (dC (.int 0)) (aj (dCall jB (aj (aD 7) (aJ))) (aJ)))))))))))))))))
noncomputable def iG:List D→Option D:=fnL 5 3 (aW (bJ 5 (dUn rG (aD 2)))
 (aW (bJ 6 (dCall bA (aj (aD 0) (aj (aD 1) (aj (dC (.int 4)) (aj (dOp iW (dCall jB (aj (aD 5) (aJ))) (dC (.int 1))) (aJ)))))))
 (aW (Eb [5] [] 7 (dCall jG (aj (aD 0) (aj (aD 1) (aj (aD 3) (aj (aD 4) (aJ)))))))
 (aW (sIf (D3.mW (aM (dOp gLt (aD 6) (dCall jB (aj (aD 5) (aJ))))) (aM (dOp gEq (dCall bA (aj (aD 0) (aj (aD 1) (aj (dC (.int 5)) (aj (dC (.int 2)) (aJ)))))) (dC (.int 1))))) (vV 5 (aD 6) (aD 7)) (sIf (aM (dOp gLt (dCall jB (aj (aD 5) (aJ))) (dC (.int 24)))) (zN 5 (aD 6) (aD 7)) (bI)))
 (zR (aD 5))))))
noncomputable def cI:List D→Option D:=fnD 4 2 (aW (wX 4 (xIf (aM (dOp gEq (aD 0) (dC (.int 0)))) (jM eY [] (aj (aD 1) (aj (aD 2) (aj (aD 3) (aJ))))) (jM fU [] (aj (aD 1) (aj (aD 2) (aj (aD 3) (aj (iT (lB (aD 1)) (gNl 0) (jA) (dC (.int 0)) 1 []) (aJ))))))) ["NoStay", "Taken", "TooFull"] (fun c d=>if c = "NoStay" then aW (bJ 5 (d_ (aj (dC (.bool true)) (aj (dC (.bool false)) (aj (dC (.bool false)) (aJ)))))) (aW (sIf (D3.tOr (D3.dG (fun _=>some true)) (aM (dOp gNe (dOp gU (aD 5) (dC (.bool true))) (dC (.int 1))))) (bO (dTup (aj (dC (.str "odd")) (aj (dC (.int 0)) (aJ))))) (bI)) (aW (sIf (aM (dOp gIx (aD 5) (dC (.int 0)))) (bO (dTup (aj (dC (.str "stay")) (aj (dC d) (aJ))))) (bI)) (aW (sIf (aM (dOp gIx (aD 5) (dC (.int 1)))) ((fun _=>none)) (bI)) ((fun _=>none))))) else if c = "Taken" then aW (bJ 5 (d_ (aj (dC (.bool false)) (aj (dC (.bool true)) (aj (dC (.bool false)) (aJ)))))) (aW (sIf (D3.tOr (D3.dG (fun _=>some true)) (aM (dOp gNe (dOp gU (aD 5) (dC (.bool true))) (dC (.int 1))))) (bO (dTup (aj (dC (.str "odd")) (aj (dC (.int 0)) (aJ))))) (bI)) (aW (sIf (aM (dOp gIx (aD 5) (dC (.int 0)))) ((fun _=>none)) (bI)) (aW (sIf (aM (dOp gIx (aD 5) (dC (.int 1)))) (bO (dTup (aj (dC (.str "taken")) (aj (dC d) (aJ))))) (bI)) ((fun _=>none))))) else if c = "TooFull" then aW (bJ 5 (d_ (aj (dC (.bool false)) (aj (dC (.bool false)) (aj (dC (.bool true)) (aJ)))))) (aW (sIf (D3.tOr (D3.dG (fun _=>some true)) (aM (dOp gNe (dOp gU (aD 5) (dC (.bool true))) (dC (.int 1))))) (bO (dTup (aj (dC (.str "odd")) (aj (dC (.int 0)) (aJ))))) (bI)) (aW (sIf (aM (dOp gIx (aD 5) (dC (.int 0)))) ((fun _=>none)) (bI)) (aW (sIf (aM (dOp gIx (aD 5) (dC (.int 1)))) ((fun _=>none)) (bI)) (bO (dTup (aj (dC (.str "full")) (aj (dC d) (aJ)))))))) else (fun _=>none)))
 (bO (dTup (aj (dC (.str "told")) (aj (dC (.int 0)) (aJ))))))
noncomputable def gO:List D→Option D:=fnD 3 3 (aW (bJ 3 (dCall iD (aj (aD 0) (aj (aD 1) (aj (aD 2) (aJ))))))
 (aW (bJ 4 (dUn rG (aD 0)))
 (aW (bJ 5 (dCall cI (aj (dC (.int 0)) (aj (aD 4) (aj (aD 1) (aj (aD 2) (aJ)))))))
 (aW (sIf (D3.tOr (aM (dOp vf (aD 5) (aD 3))) (D3.tOr (D3.dG (aM (dCall cP (aj (dOp gIx (aD 5) (dC (.int 1))) (aJ))))) (aM (dOp vf (aD 4) (aD 0))))) (bO (dC (.bool false))) (bI))
 (aW (sIf (aM (dOp o9 (dOp gIx (aD 3) (dC (.int 0))) (dC (.str "full")))) (bJ 3 (dTup (aj (dC (.str "told")) (aj (dC (.int 0)) (aJ))))) (bI))
 (bO (qg (dOp o9 (dCall cI (aj (dC (.int 1)) (aj (aD 4) (aj (aD 1) (aj (aD 2) (aJ)))))) (aD 3)) (dOp o9 (aD 4) (aD 0)))))))))
noncomputable def Ke:List D→Option D:=fnD 1 6 (aW (K8 (dCall fO (aj (aD 0) (aJ))) (gTn 2 (eX (gNl 1) (eX (gNl 2) (mj)))))
 (aW (bJ 3 (dCall jP (aj (aD 0) (aj (aD 1) (aj (aD 2) (aj (dC (.int 22)) (aJ)))))))
 (aW (bJ 4 (dCall iG (aj (aD 0) (aj (dC (.int 40)) (aj (aD 3) (aj (aD 1) (aj (aD 2) (aJ))))))))
 (aW (bJ 5 (dCall iG (aj (aD 0) (aj (dC (.int 41)) (aj (aD 4) (aj (aD 1) (aj (aD 2) (aJ))))))))
 (aW (pO (lB (d_ (aj (aD 3) (aj (aD 5) (aj (aD 4) (aj (dCall iG (aj (aD 0) (aj (dC (.int 42)) (aj (aD 3) (aj (aD 1) (aj (aD 2) (aJ))))))) (aj (aD 3) (aJ)))))))) (gNl 6) (sIf (D3.dG (aM (dCall gO (aj (aD 6) (aj (aD 1) (aj (aD 2) (aJ))))))) (bO (dC (.bool false))) (bI)))
 (bO (dC (.bool true))))))))
end K32
namespace K32
open PySem D3 My Com XS
theorem GC (ns:List Int) {a m now:Int} (h0:0 ≤ a) (m0:0 ≤ m) (m1:m < 4) (n1:now ≤ 399) :
 ∃ s:Ty,now ≤ s.1∧(s.1 < s.2.1∧s.2.1 ≤ 400)∧s.2.2=none∧g_ [.list (ns.map .int),.int a,.int 0,.int m,.int now]=some (yD s):=by
 have go:∀ A:Int,pAt [.int 3,.int 9,.int 30,.int 150] m=some (.int A)→0 < A→∃ s:Ty,now ≤ s.1∧(s.1 < s.2.1∧s.2.1 ≤ 400)∧s.2.2=none∧g_ [.list (ns.map .int),.int a,.int 0,.int m,.int now]=some (yD s):=by
  intro A eA A0
  have p1:=cJ (ns:=ns) (i:=a) (k:=0) (m:=A) h0 (by decide) (by decide) A0
  have p2:=cJ (ns:=ns) (i:=a) (k:=2) (m:=4) h0 (by decide) (by decide) (by decide)
  have r1:=cD ns a 0 A0
  have r2:=cD ns a 2 (m:=4) (by decide)
  generalize fM ns a 0 A=x1 at *
  generalize fM ns a 2 4=x2 at *
  have inner:∀ B:Int,pAt [.int 2,.int 6,.int 30,.int 200] x2=some (.int B)→0 < B→∃ s:Ty,now ≤ s.1∧(s.1 < s.2.1∧s.2.1 ≤ 400)∧s.2.2=none∧g_ [.list (ns.map .int),.int a,.int 0,.int m,.int now]=some (yD s):=by
   intro B eB B0
   have p3:=cJ (ns:=ns) (i:=a) (k:=1) (m:=B) h0 (by decide) (by decide) B0
   have r3:=cD ns a 1 B0
   generalize fM ns a 1 B=x3 at *
   refine ⟨(if now + x1 < 399 then now + x1 else 399,if (if now + x1 < 399 then now + x1 else 399) + (1 + x3) < 400 then (if now + x1 < 399 then now + x1 else 399) + (1 + x3) else 400,none),?_,?_,rfl,?_⟩
   ·dsimp only;split <;> omega
   ·dsimp only;refine ⟨?_,?_⟩ <;> (repeat' split) <;> omega
   ·have z1:(0:Int) + 1=1:=rfl
    have z2:(0:Int) + 2=2:=rfl
    unfold g_
    simp only [EV,reduceIte,aq,au,ak,ao,aA,aB,aC,zl4,zl3,fli,eA,p1,z1,z2,p2,eB,p3,xM]
    rfl
  have:x2=0∨x2=1∨x2=2∨x2=3:=by omega
  rcases this with rfl | rfl | rfl | rfl
  ·exact inner 2 rfl (by decide)
  ·exact inner 6 rfl (by decide)
  ·exact inner 30 rfl (by decide)
  ·exact inner 200 rfl (by decide)
 have:m=0∨m=1∨m=2∨m=3:=by omega
 rcases this with rfl | rfl | rfl | rfl
 ·exact go 3 rfl (by decide)
 ·exact go 9 rfl (by decide)
 ·exact go 30 rfl (by decide)
 ·exact go 150 rfl (by decide)
theorem GD (ns:List Int) {now:Int} {r:Nat} (hr:r ≤ 12) (n0:0 ≤ now) (n1:now ≤ 399) :
 ∃ b e:Int,(0 ≤ b∧b ≤ now)∧(now < e∧e ≤ 400)∧iB [.list (ns.map .int),.int 2,.int (3 * (r:Int)),.int now,.int (r:Int)]=some (yD (b,e,some r)):=by
 have p1:=cJ (ns:=ns) (i:=2) (k:=3 * (r:Int)) (m:=6) (by decide) (by omega) (by omega) (by decide)
 have p2:=cJ (ns:=ns) (i:=2) (k:=3 * (r:Int) + 2) (m:=3) (by decide) (by omega) (by omega) (by decide)
 have r1:=cD ns 2 (3 * (r:Int)) (m:=6) (by decide)
 have r2:=cD ns 2 (3 * (r:Int) + 2) (m:=3) (by decide)
 generalize fM ns 2 (3 * (r:Int)) 6=x1 at *
 generalize fM ns 2 (3 * (r:Int) + 2) 3=x2 at *
 have inner:∀ B:Int,pAt [.int 2,.int 9,.int 60] x2=some (.int B)→0 < B→∃ b e:Int,(0 ≤ b∧b ≤ now)∧(now < e∧e ≤ 400)∧iB [.list (ns.map .int),.int 2,.int (3 * (r:Int)),.int now,.int (r:Int)]=some (yD (b,e,some r)):=by
  intro B eB B0
  have p3:=cJ (ns:=ns) (i:=2) (k:=3 * (r:Int) + 1) (m:=B) (by decide) (by omega) (by omega) B0
  have r3:=cD ns 2 (3 * (r:Int) + 1) B0
  generalize fM ns 2 (3 * (r:Int) + 1) B=x3 at *
  refine ⟨if now - x1 > 0 then now - x1 else 0,if now + 1 + x3 < 400 then now + 1 + x3 else 400,?_,?_,?_⟩
  ·constructor <;> split <;> omega
  ·constructor <;> split <;> omega
  ·unfold iB
   simp only [EV,reduceIte,aq,au,ak,ao,aA,aB,aC,zl3,fli,p1,p2,eB,p3,xM,vh]
   rfl
 have:x2=0∨x2=1∨x2=2:=by omega
 rcases this with rfl | rfl | rfl
 ·exact inner 2 rfl (by decide)
 ·exact inner 9 rfl (by decide)
 ·exact inner 60 rfl (by decide)
structure TO0 (L:List Ty) (M:Nat) (now:Int):Prop where
 len:L.length ≤ 24
 ok:∀ s ∈ L,(s.1 < s.2.1∧0 ≤ s.1∧s.2.1 ≤ 400)∧(∀ r,s.2.2=some r→r < M∧s.1 ≤ now∧now < s.2.1)∧(s.2.2=none→now ≤ s.1)
 nd:(L.filterMap (·.2.2)).Nodup
theorem TO0.ins {L:List Ty} {M:Nat} {now:Int} {s:Ty} {k:Nat} (ok:TO0 L M now) (hl:L.length < 24) (s1:now ≤ s.1) (n0:0 ≤ now) (s2:s.1 < s.2.1∧s.2.1 ≤ 400) (s3:s.2.2=none):TO0 (vp k s L) M now:=by
 have pm:=xQ k s L
 refine ⟨?_,fun t ht=>?_,?_⟩
 ·rw [pm.length_eq,bZ];omega
 ·rcases aO.mp (pm.mem_iff.mp ht) with rfl | y
  ·exact ⟨⟨s2.1,by omega,s2.2⟩,fun r e=>(by rw [s3] at e;cases e),fun _=>s1⟩
  ·exact ok.ok t y
 ·rw [(pm.filterMap _).nodup_iff,cg,s3]
  exact ok.nd
theorem GF (ns:List Int) {M:Nat} {now:Int} (hM:M ≤ 12) (n0:0 ≤ now) (n1:now ≤ 399) :
 ∃ L:List Ty,TO0 L M now∧jP [.list (ns.map .int),.int (M:Int),.int now,.int 22]=some (.list (L.map yD)):=by
 have p0:=cJ (ns:=ns) (i:=0) (k:=0) (m:=4) (by decide) (by decide) (by decide) (by decide)
 have r0:=cD ns 0 0 (m:=4) (by decide)
 have p5:=cJ (ns:=ns) (i:=0) (k:=5) (m:=12) (by decide) (by decide) (by decide) (by decide)
 have r5:=cD ns 0 5 (m:=12) (by decide)
 have p7:=cJ (ns:=ns) (i:=0) (k:=7) (m:=4) (by decide) (by decide) (by decide) (by decide)
 have p6:=cJ (ns:=ns) (i:=0) (k:=6) (m:=6) (by decide) (by decide) (by decide) (by decide)
 generalize fM ns 0 0 4=mo at *
 generalize fM ns 0 6 6=wi at *
 generalize fM ns 0 5 12=my at *
 generalize fM ns 0 7 4=lo at *
 obtain ⟨bl,hbl⟩:∃ bl,decide (lo=1)=bl:=⟨_,rfl⟩
 have rg:vm (some [.int (M:Int)])=some (jK 0 (M:Int)):=JT (by omega) (by omega)
 obtain ⟨bw,hb⟩:∃ bw,decide (wi=1)=bw:=⟨_,rfl⟩
 obtain ⟨δ1,e1,L1,u6,u7,l1,g1,d1,rfl⟩:=sy (g:=(gNl 6)) (b:=(sIf (D3.mW (aM (dOp gEq (dCall bA (aj (aD 0) (aj (dC (.int 1)) (aj (aD 6) (aj (dC (.int 3)) (aJ)))))) (dC (.int 1)))) (aM (dOp gLt (dCall jB (aj (aD 5) (aJ))) (aD 3)))) (aW (bJ 7 (dCall bA (aj (aD 0) (aj (dC (.int 1)) (aj (dOp iW (dC (.int 12)) (aD 6)) (aj (dOp iW (dCall jB (aj (aD 5) (aJ))) (dC (.int 1))) (aJ))))))) (zN 5 (aD 7) (dCall iB (aj (aD 0) (aj (dC (.int 2)) (aj (dOp nW (dC (.int 3)) (aD 6)) (aj (aD 2) (aj (aD 6) (aJ))))))))) (bI)))
  (fun i δ=>∃ (L:List Ty) (u6 u7:Option U),L.length ≤ 24∧(∀ s ∈ L,∃ r,s.2.2=some r∧r < i∧(0 ≤ s.1∧s.1 ≤ now)∧(now < s.2.1∧s.2.1 ≤ 400))∧(L.filterMap (·.2.2)).Nodup ∧
   δ=[some (.d (.list (ns.map .int))),some (.d (.int (M:Int))),some (.d (.int now)),some (.d (.int 22)),some (.d (.int mo)),some (.d (.list (L.map yD))),u6,u7,none,none,none,none,none]) (jK 0 (M:Int))
  [some (.d (.list (ns.map .int))),some (.d (.int (M:Int))),some (.d (.int now)),some (.d (.int 22)),some (.d (.int mo)),some (.d (.list [])),none,none,none,none,none,none,none]
  ⟨[],none,none,by decide,fun _ h=>(by cases h),oO,rfl⟩ (by
   rintro i d δ hd ⟨L,u6,u7,l1,g1,d1,rfl⟩
   obtain ⟨hi,rfl⟩:=Ci hd
   have g1':∀ s ∈ L,∃ r,s.2.2=some r∧r < i + 1∧(0 ≤ s.1∧s.1 ≤ now)∧(now < s.2.1∧s.2.1 ≤ 400):=fun s hs=>by
    obtain ⟨r,a,b,c⟩:=g1 s hs
    exact ⟨r,a,by omega,c⟩
   have q1:=cJ (ns:=ns) (i:=1) (k:=(i:Int)) (m:=3) (by decide) (by omega) (by omega) (by decide)
   have q2:=cJ (ns:=ns) (i:=1) (k:=12 + (i:Int)) (m:=(L.length:Int) + 1) (by decide) (by omega) (by omega) (by omega)
   have q2r:=cD ns 1 (12 + (i:Int)) (m:=(L.length:Int) + 1) (by omega)
   obtain ⟨b,e,gb,ge,gs⟩:=GD ns (r:=i) (by omega) n0 n1
   generalize fM ns 1 (i:Int) 3=y1 at *
   generalize fM ns 1 (12 + (i:Int)) ((L.length:Int) + 1)=y2 at *
   obtain ⟨k,ek⟩:=z_ (s:=(b,e,some i)) (L:=L) (j:=y2) (by omega) q2r.1 (by omega)
   have ll:((L.map yD).length:Int)=(L.length:Int):=by rw [aL]
   have m3:nW (.int 3) (.int (i:Int))=some (.int (3 * (i:Int))):=mulL (by decide) (by decide)
   rcases N8 y1 with z | z
   ·by_cases hlt:L.length < 22
    ·have z2:decide ((L.length:Int) < 22)=true:=dTr (by omega)
     refine ⟨_,[some (.d (.list (ns.map .int))),some (.d (.int (M:Int))),some (.d (.int now)),some (.d (.int 22)),some (.d (.int mo)),some (.d (.list ((vp k (b,e,some i) L).map yD))),some (.d (.int (i:Int))),some (.d (.int y2)),none,none,none,none,none],rfl,.inl ?_,?_⟩
     ·simp only [EV,reduceIte,aq,au,ak,ao,aA,aB,aC,q1,z,ll,z2,q2,m3,gs,zQ,rO,Ir ek]
     ·have pm:=xQ k (b,e,some i) L
      refine ⟨vp k (b,e,some i) L,_,_,?_,fun s hs=>?_,?_,rfl⟩
      ·rw [pm.length_eq,bZ];omega
      ·rcases aO.mp (pm.mem_iff.mp hs) with rfl | y
       ·exact ⟨i,rfl,by omega,gb,ge⟩
       ·exact g1' s y
      ·rw [(pm.filterMap _).nodup_iff]
       show (i :: L.filterMap _).Nodup
       refine cU.mpr ⟨fun y=>?_,d1⟩
       obtain ⟨s,hs,es⟩:=gw.mp y
       obtain ⟨r,a,c,_⟩:=g1 s hs
       rw [a] at es
       cases es
       omega
    ·have z2:decide ((L.length:Int) < 22)=false:=dFa (by omega)
     refine ⟨_,[some (.d (.list (ns.map .int))),some (.d (.int (M:Int))),some (.d (.int now)),some (.d (.int 22)),some (.d (.int mo)),some (.d (.list (L.map yD))),some (.d (.int (i:Int))),u7,none,none,none,none,none],rfl,.inl ?_,L,_,_,l1,g1',d1,rfl⟩
     simp only [EV,reduceIte,aq,au,ak,ao,aA,aB,aC,q1,z,ll,z2]
   ·refine ⟨_,[some (.d (.list (ns.map .int))),some (.d (.int (M:Int))),some (.d (.int now)),some (.d (.int 22)),some (.d (.int mo)),some (.d (.list (L.map yD))),some (.d (.int (i:Int))),u7,none,none,none,none,none],rfl,.inl ?_,L,_,_,l1,g1',d1,rfl⟩
    simp only [EV,reduceIte,aq,au,ak,ao,aA,aB,aC,q1,z])
 rw [NZ] at g1
 have ok1:TO0 L1 M now:=by
  refine ⟨l1,fun s h=>?_,d1⟩
  obtain ⟨r,a,b,c,d⟩:=g1 s h
  refine ⟨⟨by omega,by omega,by omega⟩,fun r' e=>?_,fun e=>(by rw [a] at e;cases e)⟩
  rw [a] at e
  cases e
  exact ⟨by omega,c.2,d.1⟩
 clear g1 d1 l1
 have loop:∀ N:Int,0 ≤ N→N ≤ 30→∃ δ',gR (gNl 11) (aW (bJ 12 (dCall g_ (aj (aD 0) (aj (dOp iW (dC (.int 10)) (aD 11)) (aj (dC (.int 0)) (aj (aD 4) (aj (aD 2) (aJ)))))))) (aW (bJ 7 (dCall bA (aj (aD 0) (aj (dC (.int 4)) (aj (aD 11) (aj (dOp iW (dCall jB (aj (aD 5) (aJ))) (dC (.int 1))) (aJ))))))) (sIf (D3.mW (aM (dOp gLt (dCall jB (aj (aD 5) (aJ))) (aD 3))) (D3.tOr (aM (aD 10)) (aM (dUn vW (dCall cN (aj (dOp pQ (aD 5) (d_ (aj (aD 12) (aJ)))) (aj (aD 1) (aj (aD 2) (aJ))))))))) (zN 5 (aD 7) (aD 12)) (bI)))) (jK 0 N) [some (.d (.list (ns.map .int))),some (.d (.int (M:Int))),some (.d (.int now)),some (.d (.int 22)),some (.d (.int mo)),some (.d (.list (L1.map yD))),u6,u7,some (.d (.int my)),some (.d (.bool bw)),some (.d (.bool bl)),none,none]=some (.nx δ') ∧
  ∃ (L:List Ty) (u7 u11 u12:Option U),TO0 L M now∧δ'=[some (.d (.list (ns.map .int))),some (.d (.int (M:Int))),some (.d (.int now)),some (.d (.int 22)),some (.d (.int mo)),some (.d (.list (L.map yD))),u6,u7,some (.d (.int my)),some (.d (.bool bw)),some (.d (.bool bl)),u11,u12]:=by
  intro N N0 N1
  refine sy (fun i δ=>∃ (L:List Ty) (u7 u11 u12:Option U),TO0 L M now∧δ=[some (.d (.list (ns.map .int))),some (.d (.int (M:Int))),some (.d (.int now)),some (.d (.int 22)),some (.d (.int mo)),some (.d (.list (L.map yD))),u6,u7,some (.d (.int my)),some (.d (.bool bw)),some (.d (.bool bl)),u11,u12]) (jK 0 N) _ ⟨L1,u7,none,none,ok1,rfl⟩ ?_
  rintro i d δ hd ⟨L,u7,u11,u12,ok,rfl⟩
  obtain ⟨hi,rfl⟩:=Ci hd
  have l24:=ok.len
  obtain ⟨s,s1,s2,s3,es⟩:=GC ns (a:=10 + (i:Int)) (m:=mo) (now:=now) (by omega) r0.1 r0.2 n1
  have q2:=cJ (ns:=ns) (i:=4) (k:=(i:Int)) (m:=(L.length:Int) + 1) (by decide) (by omega) (by omega) (by omega)
  have q2r:=cD ns 4 (i:Int) (m:=(L.length:Int) + 1) (by omega)
  generalize fM ns 4 (i:Int) ((L.length:Int) + 1)=y2 at *
  obtain ⟨k,ek⟩:=z_ (s:=s) (L:=L) (j:=y2) (by omega) q2r.1 (by omega)
  have ll:((L.map yD).length:Int)=(L.length:Int):=by rw [aL]
  by_cases hlt:L.length < 22
  ·have z2:decide ((L.length:Int) < 22)=true:=dTr (by omega)
   have cat:pQ (.list (L.map yD)) (.list [yD s])=some (.list ((L++[s]).map yD)):=by
    rw [xO,if_pos (by rw [aL];show L.length + 1 ≤ _;omega),jw]
    rfl
   have yes:∃ (L':List Ty) (v7 v11 v12:Option U),TO0 L' M now∧([some (.d (.list (ns.map .int))),some (.d (.int (M:Int))),some (.d (.int now)),some (.d (.int 22)),some (.d (.int mo)),some (.d (.list ((vp k s L).map yD))),u6,some (.d (.int y2)),some (.d (.int my)),some (.d (.bool bw)),some (.d (.bool bl)),some (.d (.int (i:Int))),some (.d (yD s))]:DS)=[some (.d (.list (ns.map .int))),some (.d (.int (M:Int))),some (.d (.int now)),some (.d (.int 22)),some (.d (.int mo)),some (.d (.list (L'.map yD))),u6,v7,some (.d (.int my)),some (.d (.bool bw)),some (.d (.bool bl)),v11,v12]:=⟨vp k s L,_,_,_,ok.ins (by omega) s1 n0 s2 s3,rfl⟩
   cases bl with
   | true =>
    refine ⟨_,[some (.d (.list (ns.map .int))),some (.d (.int (M:Int))),some (.d (.int now)),some (.d (.int 22)),some (.d (.int mo)),some (.d (.list ((vp k s L).map yD))),u6,some (.d (.int y2)),some (.d (.int my)),some (.d (.bool bw)),some (.d (.bool true)),some (.d (.int (i:Int))),some (.d (yD s))],rfl,.inl ?_,yes⟩
    simp only [EV,reduceIte,aq,au,ak,ao,aA,aB,aC,es,ll,q2,z2,zQ,rO,Ir ek]
   | false =>
    rcases Gx (L:=L++[s]) (M:=M) (now:=now) (by rw [bK];show L.length + 1 ≤ 62;omega) with ⟨f1,f2⟩ | ⟨x,f1⟩
    ·have nN:isNone .none=true:=rfl
     refine ⟨_,[some (.d (.list (ns.map .int))),some (.d (.int (M:Int))),some (.d (.int now)),some (.d (.int 22)),some (.d (.int mo)),some (.d (.list ((vp k s L).map yD))),u6,some (.d (.int y2)),some (.d (.int my)),some (.d (.bool bw)),some (.d (.bool false)),some (.d (.int (i:Int))),some (.d (yD s))],rfl,.inl ?_,yes⟩
     simp only [EV,reduceIte,aq,au,ak,ao,aA,aB,aC,es,ll,q2,z2,zl1,cat,f1,nN,zQ,rO,Ir ek]
    ·have nN:isNone (.int x)=false:=rfl
     refine ⟨_,[some (.d (.list (ns.map .int))),some (.d (.int (M:Int))),some (.d (.int now)),some (.d (.int 22)),some (.d (.int mo)),some (.d (.list (L.map yD))),u6,some (.d (.int y2)),some (.d (.int my)),some (.d (.bool bw)),some (.d (.bool false)),some (.d (.int (i:Int))),some (.d (yD s))],rfl,.inl ?_,L,_,_,_,ok,rfl⟩
     simp only [EV,reduceIte,aq,au,ak,ao,aA,aB,aC,es,ll,q2,z2,zl1,cat,f1,nN]
  ·have z2:decide ((L.length:Int) < 22)=false:=dFa (by omega)
   refine ⟨_,[some (.d (.list (ns.map .int))),some (.d (.int (M:Int))),some (.d (.int now)),some (.d (.int 22)),some (.d (.int mo)),some (.d (.list (L.map yD))),u6,some (.d (.int y2)),some (.d (.int my)),some (.d (.bool bw)),some (.d (.bool bl)),some (.d (.int (i:Int))),some (.d (yD s))],rfl,.inl ?_,L,_,_,_,ok,rfl⟩
   simp only [EV,reduceIte,aq,au,ak,ao,aA,aB,aC,es,ll,q2,z2]
 have w10:pAt [.int my,.int 24] (if bw=true then 1 else 0)=some (.int (if bw=true then 24 else my)):=by
  cases bw <;> rfl
 have iN:HJ [.bool bw]=some (.int (if bw=true then 1 else 0)):=rfl
 have bN:(0:Int) ≤ (if bw=true then 24 else my)∧(if bw=true then 24 else my) ≤ 30:=by split <;> omega
 obtain ⟨δ2,e2,L,v7,v11,v12,ok,rfl⟩:=loop (if bw=true then 24 else my) bN.1 bN.2
 refine ⟨L,ok,?_⟩
 have rg2:vm (some [.int (if bw=true then 24 else my)])=some (jK 0 (if bw=true then 24 else my)):=JT (by omega) (by omega)
 have fl:flats (L.map yD)=true:=nJ _ yP L
 unfold jP
 simp only [EV,reduceIte,aq,au,ak,ao,aA,aB,aC,p0,zl0,rg]
 rw [e1]
 generalize (if bw=true then (24:Int) else my)=NN at *
 simp only [EV,reduceIte,aq,au,ak,ao,aA,aB,aC,p5,p6,p7,hb,hbl,zl2,iN,w10,rg2]
 rw [e2]
 simp only [EV,reduceIte,aq,au,ak,ao,aA,aB,aC,yK,fl]
theorem GJ (ns:List Int):∃ (M:Nat) (now:Int),M ≤ 12∧0 ≤ now∧now ≤ 399∧fO [.list (ns.map .int)]=some (.tuple [.int (M:Int),.int now]):=by
 have p1:=cJ (ns:=ns) (i:=0) (k:=1) (m:=40) (by decide) (by decide) (by decide) (by decide)
 have p2:=cJ (ns:=ns) (i:=0) (k:=1) (m:=400) (by decide) (by decide) (by decide) (by decide)
 have p3:=cJ (ns:=ns) (i:=0) (k:=1) (m:=4) (by decide) (by decide) (by decide) (by decide)
 have p4:=cJ (ns:=ns) (i:=0) (k:=3) (m:=4) (by decide) (by decide) (by decide) (by decide)
 have p5:=cJ (ns:=ns) (i:=0) (k:=3) (m:=3) (by decide) (by decide) (by decide) (by decide)
 have p6:=cJ (ns:=ns) (i:=0) (k:=3) (m:=13) (by decide) (by decide) (by decide) (by decide)
 have p7:=cJ (ns:=ns) (i:=0) (k:=4) (m:=3) (by decide) (by decide) (by decide) (by decide)
 have p8:=cJ (ns:=ns) (i:=0) (k:=2) (m:=4) (by decide) (by decide) (by decide) (by decide)
 have r1:=cD ns 0 1 (m:=40) (by decide)
 have r2:=cD ns 0 1 (m:=400) (by decide)
 have r3:=cD ns 0 1 (m:=4) (by decide)
 have r4:=cD ns 0 3 (m:=4) (by decide)
 have r5:=cD ns 0 3 (m:=3) (by decide)
 have r6:=cD ns 0 3 (m:=13) (by decide)
 have r7:=cD ns 0 4 (m:=3) (by decide)
 have r8:=cD ns 0 2 (m:=4) (by decide)
 generalize fM ns 0 1 40=x1 at *
 generalize fM ns 0 1 400=x2 at *
 generalize fM ns 0 1 4=x3 at *
 generalize fM ns 0 3 4=x4 at *
 generalize fM ns 0 3 3=x5 at *
 generalize fM ns 0 3 13=x6 at *
 generalize fM ns 0 4 3=x7 at *
 generalize fM ns 0 2 4=x8 at *
 obtain ⟨m,m1,m2,em⟩:∃ m:Int,0 ≤ m∧m ≤ 12∧pAt [.int x4,.int (1 + x5),.int x6] x7=some (.int m):=by
  have:x7=0∨x7=1∨x7=2:=by omega
  rcases this with rfl | rfl | rfl
  ·exact ⟨x4,by omega,by omega,rfl⟩
  ·exact ⟨1 + x5,by omega,by omega,rfl⟩
  ·exact ⟨x6,by omega,by omega,rfl⟩
 obtain ⟨w,w1,w2,ew⟩:∃ w:Int,0 ≤ w∧w ≤ 399∧pAt [.int 0,.int x1,.int x2,.int (399 - x3)] x8=some (.int w):=by
  have:x8=0∨x8=1∨x8=2∨x8=3:=by omega
  rcases this with rfl | rfl | rfl | rfl
  ·exact ⟨0,by omega,by omega,rfl⟩
  ·exact ⟨x1,by omega,by omega,rfl⟩
  ·exact ⟨x2,by omega,by omega,rfl⟩
  ·exact ⟨399 - x3,by omega,by omega,rfl⟩
 obtain ⟨M,eM⟩:∃ M:Nat,(M:Int)=m:=⟨m.toNat,by omega⟩
 refine ⟨M,w,by omega,w1,w2,?_⟩
 rw [eM]
 show Com.fO _=_
 unfold Com.fO
 simp only [EV,reduceIte,aq,au,ak,ao,aA,aB,aC,p1,p2,p3,p4,p5,p6,p7,p8,zl4,zl3,zl2,em,ew,fli]
def bk (L:List Ty) (k:Nat):Int:=(tAt L k).1
def ek (L:List Ty) (k:Nat):Int:=(tAt L k).2.1
def hk (L:List Ty) (k:Nat):Option Nat:=(tAt L k).2.2
def isI:D→Bool
 | .int _=>true
 | _=>false
theorem lwh (d:D):cP [d]=some (.bool (isI d)):=by
 unfold cP Com.cP
 cases d <;> rfl
theorem yR {d:D} (h:isI d=true):∃ v,d = .int v:=by
 cases d <;> first | exact ⟨_,rfl⟩ | cases h
theorem ay {L:List Ty} {k:Nat} (h:k < L.length):pAt (L.map yD) (k:Int)=some (.tuple [.int (bk L k),.int (ek L k),hD (hk L k)]):=by rw [pI,S_ _ h];rfl
theorem Xi (n:Nat) (h:n ≤ 1000):vm (some [.int (n:Int)])=some (jK 0 (n:Int)):=JT (by omega) (by omega)
theorem isList {ds:List D}:D3.isT "list" (tyD (.list ds))=true:=rfl
theorem Tf {α:Type} (l:List α) (f:α→D):((l.map f).length:Int)=(l.length:Int):=by rw [aL]
theorem allB {α:Type} (f:α→Bool) (l:List α):HW [.list (l.map fun a=>PyData.bool (f a))]=some (.bool (l.all f)):=by
 have:kO (l.map fun a=>PyData.bool (f a))=some (l.map f):=by
  induction l with
  | nil=>rfl
  | cons a r ih=>rw [bH,kO,ih];rfl
 show (kO (l.map fun a=>PyData.bool (f a))).map _=_
 rw [this,fV,List.all_map]
 rfl
section
variable {f g:FX} {c:FT} {δ δ':DS} {cn:Str} {d r:D} {o:Oc} {p q j:Nat} {b:FX} {ds dd:List D} {F:List D→Option Or} {fa:FA} {cs:List Str} {fS:Str→D→DS→Option D}
theorem kE (h:f δ=some (.o (.nx δ'))):nu f g δ=g δ':=by unfold nu;rw [h];rfl
theorem vD (h:f δ=some (.ex cn d)):nu f g δ=some (.ex cn d):=by unfold nu;rw [h];rfl
theorem Kf (h:c δ=some true):xIf c f g δ=f δ:=by unfold xIf;rw [h];rfl
theorem Ab (h:c δ=some false):xIf c f g δ=g δ:=by unfold xIf;rw [h];rfl
theorem tZ (hl:ds.length=p) (e:b (ds.map (fun d=>some (.d d))++aK q none)=some (.ex cn d)):fnX p q b ds=some (.ex cn d):=by unfold fnX;rw [if_pos hl,e]
theorem Kg (hl:ds.length=p) (e:b (ds.map (fun d=>some (.d d))++aK q none)=some (.o (.rt d))):fnX p q b ds=some (.o (.rt d)):=by unfold fnX;rw [if_pos hl,e]
theorem Pq (hl:ds.length=p) (e:b (ds.map (fun d=>some (.d d))++aK q none)=some (.o (.nx δ'))):fnX p q b ds=some (.o (.rt .none)):=by unfold fnX;rw [if_pos hl,e]
theorem vG (hf:fa δ=some ds) (e:F (ds++dd)=some (.ex cn d)):jM F dd fa δ=some (.ex cn d):=by unfold jM;rw [hf,aH,e]
theorem vH (hf:fa δ=some ds) (e:F (ds++dd)=some (.o (.rt d))):jM F dd fa δ=some (.o (.nx δ)):=by unfold jM;rw [hf,aH,e]
end
theorem wh (d:D):eN [d]=some (.bool (isI d)):=by
 unfold eN Com.eN
 cases d <;> rfl
theorem sY (a b:Int) (d:D):cH [.tuple [.int a,.int b,d]]=some (.tuple [.int a,.int b]):=by
 unfold cH Com.cH
 simp only [EV,reduceIte,aq,au,ak,ao,aA,aB,aC,at0,at1,fli,zl2]
theorem Kh (a b x:Int):iV [.tuple [.int a,.int b],.int x]=some (.bool (decide (a ≤ x) && decide (x < b))):=by
 unfold iV Com.iV
 by_cases c:a ≤ x
 ·simp only [EV,reduceIte,aq,au,ak,ao,aA,aB,aC,at0,at1,dTr c]
  simp
 ·simp only [EV,reduceIte,aq,au,ak,ao,aA,aB,aC,at0,at1,dFa c]
  simp
def qBP (i:Nat) (x y:Option D) (δ:DS):Option Oc:=match x,y with
 | some x,some y=>(FZ x).bind fun S=>match y with
  | .int k=>if S.length < 1000000 then some (.nx (δ.set i (some (.d (dsB (B_ S k)))))) else none
  | _=>none
 | _,_=>none
theorem Tg {i:Nat} {fk:FE} {δ:DS}:xq i fk δ=qBP i (aD i δ) (fk δ) δ:=by
 unfold xq qBP
 cases aD i δ with
 | none=>rfl
 | some x=>cases fk δ <;> rfl
theorem Kl {i:Nat} {S:List Int} {k:Int} {δ:DS} (h:S.length < 1000000):qBP i (some (dsB S)) (some (.int k)) δ=some (.nx (δ.set i (some (.d (dsB (B_ S k)))))):=by
 unfold qBP
 dsimp only
 rw [yF,aH,if_pos h]
theorem Pr {S:List Int} {k:Int}:zZ (.int k) (dsB S)=some (.bool (decide (k ∈ S))):=by
 unfold zZ
 rw [yF]
 rfl
theorem Ti {S:List Int}:zZ .none (dsB S)=some (.bool false):=by
 unfold zZ
 rw [yF]
 rfl
theorem Cv {L:List Ty} (hl:L.length < 64):∃ P:List Nat,iK [.list (L.map yD)]=some (.list (P.map fun i:Nat=>PyData.int (i:Int)))∧P.Perm (opn L)∧P.Pairwise fun a b=>bk L a ≤ bk L b:=by
 have en:jo (L.map yD)=(aN L.length).map fun p:Nat=>PyData.tuple [.int (p:Int),yD (tAt L p)]:=by rw [pI];exact Kc _
 have C1:fK (gTn 2 (eX (gNl 0) (eX (gNl 1) (mj)))) (aM (dUn vW (dOp gIx (aD 1) (dC (.int 2))))) (eE (aD 0)) (jH 2 [] [some (.d (.list (L.map yD))),none]) (jo (L.map yD))=some ((opn L).map fun p:Nat=>PyData.int (p:Int)):=by
  rw [en]
  exact J0 (fun p:Nat=>PyData.tuple [.int (p:Int),yD (tAt L p)]) (fun p=>!(tAt L p).2.2.isSome) (fun p:Nat=>PyData.int (p:Int)) (aN L.length) fun p _=>⟨[some (.d (.int (p:Int))),some (.d (yD (tAt L p)))],rfl,by
   have:=Tc (tAt L p).2.2
   unfold yD
   simp only [EV,reduceIte,aq,au,ak,ao,aA,aB,aC,at2,this],fun _=>by simp only [EV,reduceIte,aq,au,ak,ao,aA,aB,aC,fli]⟩
 have el:(jo (L.map yD)).length ≤ 100000:=by rw [en,aL,dW];omega
 have ml:∀ p ∈ opn L,p < L.length:=fun p hp=>cA.mp (dg.mp hp).1
 have lo:(opn L).length ≤ L.length:=by
  have:=oH (fun p=>!(tAt L p).2.2.isSome) (aN L.length)
  rwa [dW] at this
 have C2:=Wa (L:=L) (some (.d (.list ((opn L).map fun p:Nat=>PyData.int (p:Int))))) (opn L) ml
 obtain ⟨P,eP,pP,sP⟩:=Cu (opn L) (bk L)
 refine ⟨P,?_,pP,sP⟩
 have V:=Gk (l:=(opn L).map fun p:Nat=>PyData.int (p:Int)) (by rw [aL];omega) (nJ _ (fun _=>rfl) _) C2 (nF _)
 unfold iK
 simp only [EV,reduceIte,aq,au,ak,ao,aA,aB,aC,el,C1,MP]
 rw [V]
 simp only [EV,reduceIte,aq,au,ak,ao,aA,aB,aC]
 rw [← eP]
 rfl
theorem Cw {M:Nat} {fs:Nat→Int} {x:Int} (hM:M ≤ 1000) (h:∃ r,r < M∧fs r ≤ x):∃ r:Nat,r < M∧fs r ≤ x∧gj [.list ((aN M).map fun r:Nat=>PyData.int (fs r)),.int x]=some (.int (r:Int)):=by
 have en:jo ((aN M).map fun r:Nat=>PyData.int (fs r))=(aN M).map fun r:Nat=>PyData.tuple [.int (r:Int),.int (fs r)]:=by
  unfold jo
  apply fQ
  intro i
  rw [iZ,bx,bx]
  by_cases hi:i < M
  ·rw [cR hi];rfl
  ·rw [bD (by simpa using hi)];rfl
 have C:fK (gTn 2 (eX (gNl 0) (eX (gNl 1) (mj)))) (aM (dOp gLe (aD 1) (aD 2))) (eE (aD 0)) (jH 2 [1] [some (.d (.list ((aN M).map fun r:Nat=>PyData.int (fs r)))),some (.d (.int x))]) (jo ((aN M).map fun r:Nat=>PyData.int (fs r)))=some (((aN M).filter fun r=>decide (fs r ≤ x)).map fun r:Nat=>PyData.int (r:Int)):=by
  rw [en]
  exact J0 (fun r:Nat=>PyData.tuple [.int (r:Int),.int (fs r)]) _ (fun r:Nat=>PyData.int (r:Int)) (aN M) fun r hr=>⟨[some (.d (.int (r:Int))),some (.d (.int (fs r))),some (.d (.int x))],rfl,by simp only [EV,reduceIte,aq,au,ak,ao,aA,aB,aC],fun _=>by simp only [EV,reduceIte,aq,au,ak,ao,aA,aB,aC]⟩
 have el:(jo ((aN M).map fun r:Nat=>PyData.int (fs r))).length ≤ 100000:=by rw [en,aL,dW];omega
 cases e:(aN M).filter fun r=>decide (fs r ≤ x) with
 | nil =>
  obtain ⟨r,h1,h2⟩:=h
  have:r ∈ (aN M).filter fun r=>decide (fs r ≤ x):=dg.mpr ⟨cA.mpr h1,dTr h2⟩
  rw [e] at this
  cases this
 | cons r l =>
  have hr:r ∈ (aN M).filter fun r=>decide (fs r ≤ x):=by rw [e];exact aG
  obtain ⟨h1,h2⟩:=dg.mp hr
  refine ⟨r,cA.mp h1,of_decide_eq_true h2,?_⟩
  rw [e,bH] at C
  show Com.gj _=_
  unfold Com.gj
  simp only [EV,reduceIte,aq,au,ak,ao,aA,aB,aC,el,C,at0]
theorem Ob (n:Nat) (d:D):aK n d=(aN n).map fun _=>d:=by
 rw [List.map_const',dW]
theorem Wc {d:D} {k:Int} (h:k ≤ 1000000) (h' : -(2 ^ 63) ≤ k):HS (.list [d]) (.int k)=some (.list (aK k.toNat d)):=by
 show (if [d].length * k.toNat ≤ 1000000∧-(2 ^ 63) ≤ k∧k < 2 ^ 63 then some (PyData.list (aK k.toNat [d]).flatten) else none)=_
 rw [if_pos ⟨by simp only [bZ,iH];omega,h',by omega⟩]
 congr 2
 generalize k.toNat=n
 induction n with
 | zero=>rfl
 | succ n ih=>rw [cQ,fP,ih,cQ];rfl
theorem vI {g:FG} {b:FS} (Inv:DS→Prop) (p:Int→Bool):∀ (l:List Int) (δ:DS),Inv δ→(∀ x ∈ l,∀ δ,Inv δ→∃ δ1,g (.int x) δ=some δ1∧((p x=true∧b δ1=some (.rt (.int x)))∨(p x=false∧∃ δ',b δ1=some (.nx δ')∧Inv δ'))) →
 (∃ x,l.find? p=some x∧gR g b (l.map .int) δ=some (.rt (.int x)))∨(l.find? p=none∧∃ δ',gR g b (l.map .int) δ=some (.nx δ')∧Inv δ')
 | [],δ,h,_=>.inr ⟨rfl,δ,rfl,h⟩
 | x :: r,δ,h,hs=>by
  obtain ⟨δ1,e1,q⟩:=hs x aG δ h
  rcases q with ⟨hp,e2⟩ | ⟨hp,δ',e2,h'⟩
  ·refine .inl ⟨x,by rw [fX,hp],?_⟩
   rw [bH,gR,e1,aH,e2]
   rfl
  ·have ih:=vI Inv p r δ' h' fun y hy=>hs y (aF _ hy)
   have ef:(x :: r).find? p=r.find? p:=by rw [fX,hp]
   have eg:gR g b ((x :: r).map .int) δ=gR g b (r.map .int) δ':=by
    rw [bH,gR,e1,aH,e2]
    rfl
   rw [ef,eg]
   exact ih
theorem vJ {l:List Int} {p:Int→Bool} {x:Int} (hs:l.Pairwise (· ≤ ·)) (h:l.find? p=some x):p x=true∧x ∈ l∧∀ y ∈ l,p y=true→x ≤ y:=by
 obtain ⟨hp,as,bs,rfl,ha⟩:=List.find?_eq_some_iff_append.mp h
 refine ⟨hp,aX _ aG,fun y hy py=>?_⟩
 rcases bM.mp hy with q | q
 ·have:=ha y q
  rw [py] at this
  cases this
 ·obtain ⟨_,h2,_⟩:=oR.mp hs
  rcases aO.mp q with rfl | q
  ·exact j_ _
  ·exact (eZ.mp h2).1 y q
def outI:Option Int→D
 | none=>.none
 | some x=>.int x
def pM (L:List Ty) (M:Nat) (x:Int):Bool:=decide ((M:Int) < (mZ L x:Int))
def SS (L:List Ty) (now:Int):List Int:=now :: (L.map fun s=>if s.1 > now then s.1 else now)
theorem Wd {L:List Ty} {M:Nat} {now:Int} (hl:L.length ≤ 62):cN [.list (L.map yD),.int (M:Int),.int now]=some (outI ((m8 (SS L now)).find? (pM L M))):=by
 have C:fK (gNl 0) (D3.jA) (dCall oE (aj (aD 1) (aj (dOp gIx (aD 0) (dC (.int 0))) (aJ)))) (jH 1 [2] [some (.d (.list (L.map yD))),some (.d (.int (M:Int))),some (.d (.int now)),none]) (L.map yD)=some ((L.map fun s=>if s.1 > now then s.1 else now).map PyData.int):=by
  rw [gG]
  exact yM yD _ L fun s _=>⟨[some (.d (yD s)),some (.d (.int now))],rfl,rfl,by unfold yD;simp only [EV,reduceIte,aq,au,ak,ao,aA,aB,aC,at0,vh];rfl⟩
 have len:(L.map yD).length ≤ 100000:=by rw [aL];omega
 have C2:∀ x:Int,fK (gNl 0) (D3.mW (aM (dOp gLe (dOp gIx (aD 0) (dC (.int 0))) (aD 1))) (aM (dOp gLt (aD 1) (dOp gIx (aD 0) (dC (.int 1)))))) (eE (aD 0)) (jH 1 [3] [some (.d (.list (L.map yD))),some (.d (.int (M:Int))),some (.d (.int now)),some (.d (.int x))]) (L.map yD)=some ((L.filter (hol x)).map yD):=fun x =>
  J0 yD (hol x) yD L fun s _=>⟨[some (.d (yD s)),some (.d (.int x))],rfl,by
   obtain ⟨a,b,c⟩:=s
   unfold yD hol
   simp only [EV,reduceIte,aq,au,ak,ao,aA,aB,aC,at0,at1]
   cases decide (a ≤ x) <;> simp only [D3.qTA,mV,lU] <;> simp only [EV,reduceIte,aq,au,ak,ao,aA,aB,aC,at0,at1],fun _=>by simp only [EV,reduceIte,aq,au,ak,ao,aA,aB,aC,yP]⟩
 have gs:pU [.list ((SS L now).map PyData.int)]=some (.list ((m8 (SS L now)).map .int)):=by
  unfold pU
  have:(SS L now).length < 64:=by show (L.map _).length + 1 < 64;rw [aL];omega
  simp only [nF,aH,if_pos this]
 have cat:pQ (.list [.int now]) (.list ((L.map fun s=>if s.1 > now then s.1 else now).map PyData.int))=some (.list ((SS L now).map PyData.int)):=by
  rw [xO,if_pos (by rw [aL,aL];show 1 + L.length ≤ _;omega)]
  rfl
 rcases vI (g:=(gNl 3)) (b:=(sIf (aM (dOp gGt (dCall jB (aj (iT (lB (aD 0)) (gNl 0) (D3.mW (aM (dOp gLe (dOp gIx (aD 0) (dC (.int 0))) (aD 1))) (aM (dOp gLt (aD 1) (dOp gIx (aD 0) (dC (.int 1)))))) (eE (aD 0)) 1 [3]) (aJ))) (aD 1))) (bO (eE (aD 3))) (bI))) (fun δ=>∃ u,δ=[some (.d (.list (L.map yD))),some (.d (.int (M:Int))),some (.d (.int now)),u]) (pM L M) (m8 (SS L now))
  [some (.d (.list (L.map yD))),some (.d (.int (M:Int))),some (.d (.int now)),none] ⟨none,rfl⟩ (by
   rintro x hx δ ⟨u,rfl⟩
   refine ⟨[some (.d (.list (L.map yD))),some (.d (.int (M:Int))),some (.d (.int now)),some (.d (.int x))],rfl,?_⟩
   have c2:=C2 x
   have lf:((L.filter (hol x)).map yD).length=mZ L x:=by rw [aL];rfl
   cases z:pM L M x with
   | true =>
    have z:decide ((M:Int) < (mZ L x:Int))=true:=z
    refine .inl ⟨rfl,?_⟩
    simp only [EV,reduceIte,aq,au,ak,ao,aA,aB,aC,len,c2,lf,z,fli]
   | false =>
    have z:decide ((M:Int) < (mZ L x:Int))=false:=z
    refine .inr ⟨rfl,[some (.d (.list (L.map yD))),some (.d (.int (M:Int))),some (.d (.int now)),some (.d (.int x))],?_,_,rfl⟩
    simp only [EV,reduceIte,aq,au,ak,ao,aA,aB,aC,len,c2,lf,z]) with ⟨x,e1,e2⟩ | ⟨e1,δ',e2,u,rfl⟩
 ·rw [e1]
  show Com.cN _=_
  unfold Com.cN
  simp only [EV,reduceIte,aq,au,ak,ao,aA,aB,aC,zl1,len,C,cat,gs]
  rw [e2]
  simp only [EV,reduceIte,aq,au,ak,ao,aA,aB,aC]
  rfl
 ·rw [e1]
  show Com.cN _=_
  unfold Com.cN
  simp only [EV,reduceIte,aq,au,ak,ao,aA,aB,aC,zl1,len,C,cat,gs]
  rw [e2]
  simp only [EV,reduceIte,aq,au,ak,ao,aA,aB,aC]
  rfl
def nS (L:List Ty):List Sh:=L.map fun s=>(s.1,s.2.1)
theorem Tj (L:List Ty) (x:Int):cnt (nS L) x=mZ L x:=by
 unfold cnt mZ nS
 rw [List.filter_map,aL]
 rfl
def LT (L:List Ty) (now:Int):List Int:=(L.map (·.1)).filter fun x=>decide (now < x)
theorem Od {L:List Ty} {M:Nat} {now:Int} (hl:L.length ≤ 24):jO [.list ((nS L).map stD),.int (M:Int),.int now]=some (outI ((now :: m8 (LT L now)).find? (pM L M))):=by
 have ln:(nS L).length=L.length:=aL _
 have fs:=z9 (ss:=nS L) (by omega)
 have fe:(nS L).map (·.1)=L.map (·.1):=by unfold nS;rw [gG];rfl
 rw [fe] at fs
 have cf:fK (gNl 0) (aM (dOp gGt (aD 0) (aD 1))) (eE (aD 0)) [none,some (.d (.int now))] ((L.map (·.1)).map .int)=some ((LT L now).map .int):=by
  unfold LT
  generalize L.map (·.1)=l
  induction l with
  | nil=>rfl
  | cons x r ih =>
   rw [bH,fK]
   by_cases c:now < x
   ·simp only [EV,reduceIte,aq,au,ak,ao,aA,aB,aC,dTr c,aH,ih]
    rw [m5 (by simpa using c)]
    rfl
   ·simp only [EV,reduceIte,aq,au,ak,ao,aA,aB,aC,dFa c,aH,ih]
    rw [m6 (by simpa using c),if_neg (by decide)]
 have ll:(LT L now).length ≤ 60:=bV (oH _ _) (by rw [aL];omega)
 have gs:pU [.list ((LT L now).map .int)]=some (.list ((m8 (LT L now)).map .int)):=by
  unfold pU
  simp only
  rw [nF,aH,if_pos (by omega)]
 have c1:pQ (.list [.int now]) (.list ((m8 (LT L now)).map .int))=some (.list (.int now :: (m8 (LT L now)).map .int)):=by
  rw [xO,if_pos (by rw [aL,(jg _).length_eq];simp;omega)]
  rfl
 have ca:∀ a c d e f:Option U,jH 1 [2] [a,c,d,e,f]=[none,d]:=fun _ _ _ _ _=>rfl
 show Com.jO _=_
 unfold Com.jO
 simp only [EV,reduceIte,aq,au,ak,ao,aA,aB,aC,fs,lMp,show L.length ≤ 100000 by omega,ca,cf,gs,zl1,c1]
 rcases vI (g:=gNl 4) (b:=(sIf (aM (dOp gGt (dCall Com.je (aj (aD 0) (aj (aD 4) (aJ)))) (aD 1))) (bO (eE (aD 4))) (bI))) (fun δ=>∃ y,δ=[some (.d (.list ((nS L).map stD))),some (.d (.int (M:Int))),some (.d (.int now)),some (.d (.list ((LT L now).map .int))),y]) (pM L M) (now :: m8 (LT L now))
  [some (.d (.list ((nS L).map stD))),some (.d (.int (M:Int))),some (.d (.int now)),some (.d (.list ((LT L now).map .int))),none] ⟨none,rfl⟩ (by
   rintro x hx δ ⟨y,rfl⟩
   refine ⟨_,rfl,?_⟩
   have cs:=Cm (ss:=nS L) (by omega) x
   rw [Tj] at cs
   cases z:pM L M x with
   | true =>
    have z:decide ((M:Int) < (mZ L x:Int))=true:=z
    refine .inl ⟨rfl,?_⟩
    simp only [EV,reduceIte,aq,au,ak,ao,aA,aB,aC,cs,z]
   | false =>
    have z:decide ((M:Int) < (mZ L x:Int))=false:=z
    refine .inr ⟨rfl,_,?_,some (.d (.int x)),rfl⟩
    simp only [EV,reduceIte,aq,au,ak,ao,aA,aB,aC,cs,z]) with ⟨x,e1,e2⟩ | ⟨e1,δ',e2,y,rfl⟩
 ·rw [bH] at e2
  rw [e2,e1]
  simp only [EV,reduceIte,aq,au,ak,ao,aA,aB,aC]
  rfl
 ·rw [bH] at e2
  rw [e2,e1]
  simp only [EV,reduceIte,aq,au,ak,ao,aA,aB,aC]
  rfl
theorem GK {l1 l2:List Int} {p:Int→Bool} (h1:l1.Pairwise (· ≤ ·)) (h2:l2.Pairwise (· ≤ ·)) (hm:∀ x,x ∈ l1↔x ∈ l2):l1.find? p=l2.find? p:=by
 cases e1:l1.find? p with
 | none =>
  cases e2:l2.find? p with
  | none=>rfl
  | some y =>
   obtain ⟨a,b,_⟩:=vJ h2 e2
   have:=jz.mp e1 y ((hm y).mpr b)
   rw [a] at this
   exact absurd rfl this
 | some x =>
  obtain ⟨a1,b1,c1⟩:=vJ h1 e1
  cases e2:l2.find? p with
  | none =>
   have:=jz.mp e2 x ((hm x).mp b1)
   rw [a1] at this
   exact absurd rfl this
  | some y =>
   obtain ⟨a2,b2,c2⟩:=vJ h2 e2
   have:=c1 y ((hm y).mpr b2) a2
   have:=c2 x ((hm x).mp b1) a1
   rw [show x=y by omega]
def fN (L:List Ty) (M:Nat) (now:Int):Option Int:=(m8 (SS L now)).find? (pM L M)
theorem Wf (L:List Ty) (M:Nat) (now:Int):(now :: m8 (LT L now)).find? (pM L M)=fN L M now:=by
 refine GK ?_ (mQ _) fun x=>?_
 ·refine eZ.mpr ⟨fun y hy=>?_,mQ _⟩
  have:=(jg _).mem_iff.mp hy
  have:=of_decide_eq_true (dg.mp this).2
  omega
 ·rw [(jg _).mem_iff,aO,(jg _).mem_iff]
  unfold LT SS
  rw [aO,dg,cT,cT]
  constructor
  ·rintro (h | ⟨⟨s,hs,rfl⟩,h⟩)
   ·exact .inl h
   ·exact .inr ⟨s,hs,by rw [if_pos (of_decide_eq_true h)]⟩
  ·rintro (h | ⟨s,hs,h⟩)
   ·exact .inl h
   ·by_cases c:s.1 > now
    ·rw [if_pos c] at h
     exact .inr ⟨⟨s,hs,h⟩,by rw [← h];exact dTr c⟩
    ·rw [if_neg c] at h
     exact .inl h.symm
theorem Tp {L:List Ty} {M:Nat} {now:Int} (hl:L.length ≤ 24):iz [.list (L.map yD),.int (M:Int),.int now]=match fN L M now with
 | some x=>some (.ex "TooFull" (.int x))
 | none=>some (.o (.rt .none)):=by
 have C:∀ δ0,fK (gNl 0) (D3.jA) (dCall cH (aj (aD 0) (aJ))) (jH 1 [] δ0) (L.map yD)=some ((nS L).map stD):=fun δ0=>by
  unfold nS
  rw [gG]
  exact yM yD _ L fun s _=>⟨[some (.d (yD s))],rfl,rfl,by
   obtain ⟨a,b,c⟩:=s
   have:=sY a b (hD c)
   unfold yD
   simp only [EV,reduceIte,aq,au,ak,ao,aA,aB,aC,this]
   rfl⟩
 have len:(L.map yD).length ≤ 100000:=by rw [aL];omega
 have ff:=Od (L:=L) (M:=M) (now:=now) hl
 rw [Wf] at ff
 have first:∀ g,nu (xOf (bJ 3 (dCall jO (aj (iT (lB (aD 0)) (gNl 0) (D3.jA) (dCall cH (aj (aD 0) (aJ))) 1 []) (aj (aD 1) (aj (aD 2) (aJ))))))) g [some (.d (.list (L.map yD))),some (.d (.int (M:Int))),some (.d (.int now)),none]=g [some (.d (.list (L.map yD))),some (.d (.int (M:Int))),some (.d (.int now)),some (.d (outI (fN L M now)))]:=fun g=>kE (by
  unfold xOf
  simp only [EV,reduceIte,aq,au,ak,ao,aA,aB,aC,len,C,ff]
  rfl)
 cases h:fN L M now with
 | some x =>
  rw [h] at first
  unfold iz
  refine tZ rfl ((first _).trans ((Kf ?_).trans rfl))
  have nn:isNone (outI (some x))=false:=rfl
  simp only [EV,reduceIte,aq,au,ak,ao,aA,aB,aC,nn]
 | none =>
  rw [h] at first
  unfold iz
  refine Pq rfl ((first _).trans ((Ab ?_).trans rfl))
  have nn:isNone (outI none)=true:=rfl
  simp only [EV,reduceIte,aq,au,ak,ao,aA,aB,aC,nn]
theorem Xj {L:List Ty} {k:Nat} (h:L.length ≤ k):hk L k=none:=by
 unfold hk tAt
 rw [bR,bD h]
 rfl
section
variable {L:List Ty} {M:Nat} {now:Int}
theorem Cy (ok:TO0 L M now) (hM:M ≤ 12):∃ f:Nat→Int,f9 [.list (L.map yD),.int (M:Int),.int now]=some (.list ((aN M).map fun r:Nat=>PyData.int (f r)))∧∀ r,r < M→(∃ k,k < L.length∧hk L k=some r∧f r=ek L k)∨((∀ k,k < L.length→hk L k ≠ some r)∧f r=now):=by
 have l24:=ok.len
 have rp:HS (.list [.int now]) (.int (M:Int))=some (.list ((aN M).map fun r:Nat=>PyData.int ((fun _=>now) r))):=by
  rw [Wc (by omega) (by omega),rm,Ob]
 have mt:L.map yD=(aN L.length).map fun k=>PyData.tuple [.int (bk L k),.int (ek L k),hD (hk L k)]:=by rw [pI];rfl
 obtain ⟨δ',e,f,u,hf,rfl⟩:=sy (g:=(gNl 4)) (b:=(sIf (aM (dUn mq (dOp gIx (aD 4) (dC (.int 2))))) (vV 3 (dOp gIx (aD 4) (dC (.int 2))) (dOp gIx (aD 4) (dC (.int 1)))) (bI)))
  (fun i δ=>∃ (f:Nat→Int) (u:Option U),(∀ r,r < M→(∃ k,k < i∧hk L k=some r∧f r=ek L k)∨((∀ k,k < i→hk L k ≠ some r)∧f r=now))∧δ=[some (.d (.list (L.map yD))),some (.d (.int (M:Int))),some (.d (.int now)),some (.d (.list ((aN M).map fun r:Nat=>PyData.int (f r)))),u]) (L.map yD)
  [some (.d (.list (L.map yD))),some (.d (.int (M:Int))),some (.d (.int now)),some (.d (.list ((aN M).map fun r:Nat=>PyData.int ((fun _=>now) r)))),none] ⟨fun _=>now,none,fun r _=>.inr ⟨fun k hk'=>absurd hk' (ou _),rfl⟩,rfl⟩ (by
   rintro i d δ hd ⟨f,u,hf,rfl⟩
   have hi:i < L.length:=by
    have:=(dO.mp hd).1
    rwa [aL] at this
   rw [mt,bx,cR hi] at hd
   cases hd
   cases hh:hk L i with
   | none =>
    have nn:isNone (hD none)=true:=rfl
    refine ⟨_,[some (.d (.list (L.map yD))),some (.d (.int (M:Int))),some (.d (.int now)),some (.d (.list ((aN M).map fun r:Nat=>PyData.int (f r)))),some (.d (.tuple [.int (bk L i),.int (ek L i),hD none]))],rfl,.inl ?_,f,_,fun r hr=>?_,rfl⟩
    ·simp only [EV,reduceIte,aq,au,ak,ao,aA,aB,aC,hh,at2,nn,pR]
    ·rcases hf r hr with ⟨k,k1,k2⟩ | ⟨k1,k2⟩
     ·exact .inl ⟨k,by omega,k2⟩
     ·refine .inr ⟨fun k hk'=>?_,k2⟩
      by_cases z:k=i
      ·rw [z,hh];exact fun w=>nomatch w
      ·exact k1 k (by omega)
   | some r0 =>
    have nn:isNone (hD (some r0))=false:=rfl
    have hr0:r0 < M:=((ok.ok _ (oh hi)).2.1 r0 hh).1
    have hv:hD (some r0) = .int (r0:Int):=rfl
    have p3:=S9 (l:=(aN M).map fun r:Nat=>PyData.int (f r)) (by rw [aL,dW]) hr0
    have st:=J6 (n:=M) (c:=r0) (d:=.int (ek L i)) (fun r:Nat=>PyData.int (f r))
    refine ⟨_,[some (.d (.list (L.map yD))),some (.d (.int (M:Int))),some (.d (.int now)),some (.d (.list (((aN M).map fun r:Nat=>PyData.int (f r)).set r0 (.int (ek L i))))),some (.d (.tuple [.int (bk L i),.int (ek L i),hD (some r0)]))],rfl,.inl ?_,fun r=>if r=r0 then ek L i else f r,some (.d (.tuple [.int (bk L i),.int (ek L i),hD (some r0)])),fun r hr=>?_,?_⟩
    ·generalize (aN M).map (fun r:Nat=>PyData.int (f r))=FF at *
     simp only [EV,reduceIte,aq,au,ak,ao,aA,aB,aC,hh,hv,at1,at2,Bool.not_false,p3,aH]
    ·by_cases z:r=r0
     ·exact .inl ⟨i,by omega,by rw [z];exact hh,by show (if r=r0 then ek L i else f r)=_;rw [if_pos z]⟩
     ·show (∃ k,k < i + 1∧hk L k=some r∧(if r=r0 then ek L i else f r)=ek L k)∨((∀ k,k < i + 1→hk L k ≠ some r)∧(if r=r0 then ek L i else f r)=now)
      rw [if_neg z]
      rcases hf r hr with ⟨k,k1,k2⟩ | ⟨k1,k2⟩
      ·exact .inl ⟨k,by omega,k2⟩
      ·refine .inr ⟨fun k hk'=>?_,k2⟩
       by_cases w:k=i
       ·rw [w,hh]
        intro y
        injection y with y
        exact z y.symm
       ·exact k1 k (by omega)
    ·rw [st]
     have:(fun x:Nat=>if x=r0 then PyData.int (ek L i) else PyData.int (f x))=fun x=>PyData.int (if x=r0 then ek L i else f x):=by
      funext x
      by_cases z:x=r0
      ·rw [if_pos z,if_pos z]
      ·rw [if_neg z,if_neg z]
     rw [this])
 rw [aL] at hf
 refine ⟨f,?_,hf⟩
 have fl:flats ((aN M).map fun r:Nat=>PyData.int (f r))=true:=nJ _ (fun _=>rfl) _
 show Com.f9 _=_
 unfold Com.f9
 simp only [EV,reduceIte,aq,au,ak,ao,aA,aB,aC,zl1,rp]
 rw [e]
 simp only [EV,reduceIte,aq,au,ak,ao,aA,aB,aC,yK,fl]
def hel (L:List Ty):List Nat:=(aN L.length).filter fun k=>(hk L k).isSome
theorem lK {k:Nat}:k ∈ hel L↔k < L.length∧(hk L k).isSome=true:=by
 unfold hel
 rw [dg,cA]
abbrev b0 (L:List Ty) (now:Int) (k:Nat):Int:=bk L k - now
abbrev e0 (L:List Ty) (now:Int) (k:Nat):Int:=ek L k - now
theorem GP (ok:TO0 L M now) {f:Nat→Int} (hf:∀ r,r < M→(∃ k,k < L.length∧hk L k=some r∧f r=ek L k)∨((∀ k,k < L.length→hk L k ≠ some r)∧f r=now)) :
 Gr.GInv M (b0 L now) (e0 L now) (hel L) (hk L) (fun r=>f r - now):=by
 refine ⟨fun p hp=>?_,fun p hp=>?_,fun r hr=>?_,fun p hp q hq hpq hs=>?_⟩
 ·by_cases c:p < L.length
  ·cases h:hk L p with
   | none=>rfl
   | some r=>exact absurd (lK.mpr ⟨c,by rw [h];rfl⟩) hp
  ·exact Xj (by omega)
 ·obtain ⟨hp1,hp2⟩:=lK.mp hp
  obtain ⟨r,hr⟩:=dZ.mp hp2
  have hrM:r < M:=((ok.ok _ (oh hp1)).2.1 r hr).1
  refine ⟨r,hr,hrM,?_⟩
  rcases hf r hrM with ⟨k,k1,k2,k3⟩ | ⟨k1,_⟩
  ·have:k=p:=Aa ok.nd k1 hp1 k2 hr
   rw [k3,this]
   exact j_ _
  ·exact absurd hr (k1 p hp1)
 ·rcases hf r hr with ⟨k,k1,k2,k3⟩ | ⟨_,k2⟩
  ·refine .inr ⟨k,lK.mpr ⟨k1,by rw [k2];rfl⟩,k2,?_⟩
   rw [k3]
  ·left
   rw [k2]
   omega
 ·obtain ⟨hp1,hp2⟩:=lK.mp hp
  obtain ⟨hq1,_⟩:=lK.mp hq
  obtain ⟨r,hr⟩:=dZ.mp hp2
  exact absurd (Aa ok.nd hp1 hq1 hr (hs.symm.trans hr)) hpq
theorem Ac (ok:TO0 L M now) (hM:M ≤ 12) (hm:∀ c,c < L.length→now ≤ bk L c→mZ L (bk L c) ≤ M) {f:Nat→Int} (hf:∀ r,r < M→(∃ k,k < L.length∧hk L k=some r∧f r=ek L k)∨((∀ k,k < L.length→hk L k ≠ some r)∧f r=now)) :
 ∃ seat:Nat→Option Nat,nM [.list (L.map yD),.list ((aN L.length).map fun k=>hD (hk L k)),.list ((aN M).map fun r:Nat=>PyData.int (f r))]=some (.list ((aN L.length).map fun p=>hD (seat p))) ∧
  (∀ p,p < L.length→∃ r,seat p=some r∧r < M)∧(∀ p r,hk L p=some r→seat p=some r)∧∀ p q,p < L.length→q < L.length→p ≠ q→seat p=seat q→ek L p ≤ bk L q∨ek L q ≤ bk L p:=by
 have l24:=ok.len
 obtain ⟨P,eP,pP,sP⟩:=Cv (L:=L) (by omega)
 have nP:P.Nodup:=pP.nodup_iff.mpr (List.Pairwise.filter _ List.nodup_range)
 have mP:∀ p ∈ P,p < L.length∧hk L p=none:=fun p hp=>by
  obtain ⟨h1,h2⟩:=dg.mp (pP.mem_iff.mp hp)
  refine ⟨cA.mp h1,?_⟩
  cases z:hk L p with
  | none=>rfl
  | some r =>
   have z:(tAt L p).2.2=some r:=z
   rw [z] at h2
   cases h2
 have lt:∀ p,p < L.length→bk L p < ek L p:=fun p hp=>(ok.ok _ (oh hp)).1.1
 obtain ⟨δ',e,seat,fs,x,y,I,hH,rfl⟩:=sy (g:=(gNl 5)) (b:=(sIf (aM (dUn vW (dOp gIx (aD 3) (aD 5)))) (aW (bJ 6 (dCall gj (aj (aD 4) (aj (dOp gIx (dOp gIx (aD 0) (aD 5)) (dC (.int 0))) (aJ))))) (aW (vV 3 (aD 5) (aD 6)) (vV 4 (aD 6) (dOp gIx (dOp gIx (aD 0) (aD 5)) (dC (.int 1)))))) (bI)))
  (fun i δ=>∃ (seat:Nat→Option Nat) (fs:Nat→Int) (x y:Option U),Gr.GInv M (b0 L now) (e0 L now) (hel L++P.take i) seat (fun r=>fs r - now)∧(∀ p r,hk L p=some r→seat p=some r) ∧
   δ=[some (.d (.list (L.map yD))),some (.d (.list ((aN L.length).map fun k=>hD (hk L k)))),some (.d (.list ((aN M).map fun r:Nat=>PyData.int (f r)))),some (.d (.list ((aN L.length).map fun p=>hD (seat p)))),some (.d (.list ((aN M).map fun r:Nat=>PyData.int (fs r)))),x,y]) (P.map fun i:Nat=>PyData.int (i:Int))
  [some (.d (.list (L.map yD))),some (.d (.list ((aN L.length).map fun k=>hD (hk L k)))),some (.d (.list ((aN M).map fun r:Nat=>PyData.int (f r)))),some (.d (.list ((aN L.length).map fun k=>hD (hk L k)))),some (.d (.list ((aN M).map fun r:Nat=>PyData.int (f r)))),none,none]
  ⟨hk L,f,none,none,by rw [List.take_zero,eV];exact GP ok hf,fun _ _ h=>h,rfl⟩ (by
   rintro i d δ hd ⟨seat,fs,x,y,I,hH,rfl⟩
   rw [bx] at hd
   cases hi:P[i]? with
   | none=>rw [hi] at hd;cases hd
   | some c =>
    rw [hi] at hd
    cases hd
    have hiL:i < P.length:=(dO.mp hi).1
    have et:P.take (i + 1)=P.take i++[c]:=by rw [List.take_add_one,hi];rfl
    have sp:P=P.take i++c :: P.drop (i + 1):=by
     rw [bf hiL] at hi
     cases hi
     rw [List.getElem_cons_drop,jQ]
    obtain ⟨hcn,hcf⟩:=mP c (iY hi)
    have nb:now ≤ bk L c:=(ok.ok _ (oh hcn)).2.2 hcf
    have hc:c ∉ hel L++P.take i:=fun z=>by
     rcases bM.mp z with z | z
     ·have:=(lK.mp z).2
      rw [hcf] at this
      cases this
     ·rw [sp] at nP
      exact (List.nodup_append.mp nP).2.2 c z c aG rfl
    have hb:∀ p ∈ hel L++P.take i,b0 L now p ≤ b0 L now c:=fun p hp=>by
     show bk L p - now ≤ bk L c - now
     rcases bM.mp hp with z | z
     ·obtain ⟨h1,h2⟩:=lK.mp z
      obtain ⟨r,hr⟩:=dZ.mp h2
      have:bk L p ≤ now:=((ok.ok _ (oh h1)).2.1 r hr).2.1
      omega
     ·rw [sp] at sP
      have:=(oR.mp sP).2.2 p z c aG
      omega
    have hd:∀ p ∈ hel L++P.take i,p < L.length:=fun p hp=>by
     rcases bM.mp hp with z | z
     ·exact (lK.mp z).1
     ·exact (mP p (List.mem_of_mem_take z)).1
    have lc:=lt c hcn
    have hcm:((aN L.length).filter (Gr.holds (b0 L now) (e0 L now) (b0 L now c))).length ≤ M:=by
     have e1:Gr.holds (b0 L now) (e0 L now) (b0 L now c)=Gr.holds (fun k=>(tAt L k).1) (fun k=>(tAt L k).2.1) (bk L c):=by
      funext p
      unfold Gr.holds
      have q1:decide (b0 L now p ≤ b0 L now c)=decide ((tAt L p).1 ≤ bk L c):=decide_eq_decide.mpr (by show (tAt L p).1 - now ≤ bk L c - now↔_;omega)
      have q2:decide (b0 L now c < e0 L now p)=decide (bk L c < (tAt L p).2.1):=decide_eq_decide.mpr (by show bk L c - now < (tAt L p).2.1 - now↔_;omega)
      rw [q1,q2]
     rw [e1,← Wb]
     exact hm c hcn nb
    have hfr:∃ r,r < M∧fs r ≤ bk L c:=by
     obtain ⟨r,r1,r2⟩:=Gr.Gz I hc hcn hd hb (show 0 ≤ bk L c - now by omega) (show bk L c - now < ek L c - now by omega) hcm
     exact ⟨r,r1,by have r2:fs r - now ≤ bk L c - now:=r2;omega⟩
    obtain ⟨r,r1,r2,r3⟩:=Cw (show M ≤ 1000 by omega) hfr
    have sc:seat c=none:=I.out c hc
    have a1:=S_ (fun p=>hD (seat p)) hcn
    rw [sc] at a1
    have a1:pAt ((aN L.length).map fun p=>hD (seat p)) (c:Int)=some .none:=a1
    have nN:isNone .none=true:=rfl
    have p1:=S9 (l:=(aN L.length).map fun p=>hD (seat p)) (by rw [aL,dW]) hcn
    have p2:=S9 (l:=(aN M).map fun r:Nat=>PyData.int (fs r)) (by rw [aL,dW]) r1
    have s1:=J6 (n:=L.length) (c:=c) (d:=.int (r:Int)) (fun p=>hD (seat p))
    have s2:=J6 (n:=M) (c:=r) (d:=.int (ek L c)) (fun r:Nat=>PyData.int (fs r))
    have ay:=ay hcn
    refine ⟨_,[some (.d (.list (L.map yD))),some (.d (.list ((aN L.length).map fun k=>hD (hk L k)))),some (.d (.list ((aN M).map fun r:Nat=>PyData.int (f r)))),some (.d (.list (((aN L.length).map fun p=>hD (seat p)).set c (.int (r:Int))))),some (.d (.list (((aN M).map fun r:Nat=>PyData.int (fs r)).set r (.int (ek L c))))),some (.d (.int (c:Int))),some (.d (.int (r:Int)))],rfl,.inl ?_,?_⟩
    ·generalize (aN L.length).map (fun p=>hD (seat p))=SQ at *
     generalize (aN L.length).map (fun k=>hD (hk L k))=SP at *
     generalize (aN M).map (fun r:Nat=>PyData.int (fs r))=FF at *
     generalize (aN M).map (fun r:Nat=>PyData.int (f r))=FB at *
     simp only [EV,reduceIte,aq,au,ak,ao,aA,aB,aC,a1,nN,ay,at0,at1,r3,p1,p2,aH]
    ·refine ⟨fun p=>if p=c then some r else seat p,fun x=>if x=r then ek L c else fs x,some (.d (.int (c:Int))),some (.d (.int (r:Int))),?_,fun p r' hp=>?_,?_⟩
     ·rw [et,← qz]
      have st:=I.step hc r1 (show fs r - now ≤ bk L c - now by omega) (show bk L c - now < ek L c - now by omega)
      have:(fun x=>if x=r then e0 L now c else fs x - now)=fun x=>(if x=r then ek L c else fs x) - now:=by
       funext x
       by_cases z:x=r
       ·rw [if_pos z,if_pos z]
       ·rw [if_neg z,if_neg z]
      rw [this] at st
      exact st
     ·have:p ≠ c:=fun z=>by rw [z,hcf] at hp;cases hp
      show (if p=c then some r else seat p)=_
      rw [if_neg this]
      exact hH p r' hp
     ·rw [s1,s2]
      have q1:(fun p=>if p=c then PyData.int (r:Int) else hD (seat p))=fun p=>hD (if p=c then some r else seat p):=by
       funext p
       by_cases z:p=c
       ·rw [if_pos z,if_pos z];rfl
       ·rw [if_neg z,if_neg z]
      have q2:(fun x:Nat=>if x=r then PyData.int (ek L c) else PyData.int (fs x))=fun x=>PyData.int (if x=r then ek L c else fs x):=by
       funext x
       by_cases z:x=r
       ·rw [if_pos z,if_pos z]
       ·rw [if_neg z,if_neg z]
      rw [q1,q2])
 rw [aL,List.take_length] at I
 have all:∀ p,p < L.length→p ∈ hel L++P:=fun p hp=>by
  cases z:hk L p with
  | some r=>exact bF _ (lK.mpr ⟨hp,by rw [z];rfl⟩)
  | none =>
   refine aX _ (pP.mem_iff.mpr (dg.mpr ⟨cA.mpr hp,?_⟩))
   have z:(tAt L p).2.2=none:=z
   rw [z];rfl
 refine ⟨seat,?_,fun p hp=>?_,hH,fun p q hp hq ne hs=>?_⟩
 ·have fl:flats ((aN L.length).map fun p=>hD (seat p))=true:=nJ _ (fun p=>by cases seat p <;> rfl) _
  unfold nM
  simp only [EV,reduceIte,aq,au,ak,ao,aA,aB,aC,eP]
  rw [e]
  simp only [EV,reduceIte,aq,au,ak,ao,aA,aB,aC,yK,fl]
 ·obtain ⟨r,h1,h2,_⟩:=I.inn p (all p hp)
  exact ⟨r,h1,h2⟩
 ·have:=I.dj p (all p hp) q (all q hq) ne hs
  have:ek L p - now ≤ bk L q - now∨ek L q - now ≤ bk L p - now:=this
  omega
end
section
variable {f:FX} {δ δ':DS} {cn:Str} {d r:D} {j:Nat} {ds dd:List D} {F:List D→Option Or} {fa:FA} {cs:List Str} {fS:Str→D→DS→Option D}
end
section
variable {L:List Ty} {M:Nat} {now:Int}
theorem Oe (h:fN L M now=none):∀ c,c < L.length→now ≤ bk L c→mZ L (bk L c) ≤ M:=fun c hc hn=>by
 have m:bk L c ∈ m8 (SS L now):=by
  rw [(jg _).mem_iff]
  unfold SS
  refine aF _ (cT.mpr ⟨tAt L c,oh hc,?_⟩)
  by_cases z:(tAt L c).1 > now
  ·rw [if_pos z];rfl
  ·rw [if_neg z]
   have:now ≤ (tAt L c).1:=hn
   show now=(tAt L c).1
   omega
 have:=jz.mp h _ m
 unfold pM at this
 have:=of_decide_eq_false (qY.mpr this)
 omega
end
def gty (M:Nat) (now:Int):D→Option Ty
 | .tuple [.int a,.int b,.none]=>if (0 ≤ a∧a < b∧b ≤ 400)∧now ≤ a then some (a,b,none) else none
 | .tuple [.int a,.int b,.int r]=>if (0 ≤ a∧a < b∧b ≤ 400)∧(0 ≤ r∧r < (M:Int))∧a ≤ now∧now < b then some (a,b,some r.toNat) else none
 | _=>none
def sca:D→Bool
 | .none=>true
 | .bool _=>true
 | .int _=>true
 | .str _=>true
 | _=>false
def fine:D→Bool
 | .tuple [a,b,_]=>sca a && sca b
 | _=>true
theorem Ad {d:D} (h:sca d=true):flat d=true:=by cases d <;> first | rfl | (cases h;done)
def str2:D→D→Bool
 | .int a,.int b=>decide (0 ≤ a∧a < b∧b ≤ 400)
 | _,_=>false
theorem Og (a b:D):lR [.tuple [a,b]]=some (.bool (isI a && isI b)):=by
 have e:gM [.tuple [a,b]]=some (.bool (isI a && isI b)):=by
  have c:fK (gNl 0) (D3.jA) (dCall eN (aj (aD 0) (aJ))) (jH 1 [] [some (.d (.tuple [a,b]))]) [a,b]=some [.bool (isI a),.bool (isI b)] :=
   yM (g:=(gNl 0)) (c:=(D3.jA)) (e:=(dCall eN (aj (aD 0) (aJ)))) (δ:=jH 1 [] [some (.d (.tuple [a,b]))]) (fun i:D=>i) (fun d=>PyData.bool (isI d)) [a,b] fun d _=>⟨[some (.d d)],rfl,rfl,by
    have:=wh d
    simp only [EV,reduceIte,aq,au,ak,ao,aA,aB,aC,this]⟩
  have al:HW [.list [.bool (isI a),.bool (isI b)]]=some (.bool (isI a && isI b)):=by cases isI a <;> cases isI b <;> rfl
  have l2:(0 + 1 + 1:Nat) ≤ 100000:=by decide
  unfold gM
  simp only [EV,reduceIte,aq,au,ak,ao,aA,aB,aC,Uz,Q6,c,al,l2]
 have it:D3.isT "tuple" (tyD (.tuple [a,b]))=true:=rfl
 have e2:gEq (.int ((0 + 1 + 1:Nat):Int)) (.int 2)=some (.bool true):=rfl
 unfold lR j8
 simp only [EV,reduceIte,aq,au,ak,ao,aA,aB,aC,it,e2,e]
theorem GQ {a b:D} (c:D) (ha:flat a=true) (hb:flat b=true):cH [.tuple [a,b,c]]=some (.tuple [a,b]):=by
 unfold cH Com.cH
 simp only [EV,reduceIte,aq,au,ak,ao,aA,aB,aC,at0,at1,ha,hb,zl2]
theorem Cz (a b:D):iy [.tuple [a,b]]=some (.bool (str2 a b)):=by
 have ps:=Og a b
 have no:(isI a && isI b)=false→str2 a b=false→iy [.tuple [a,b]]=some (.bool (str2 a b)):=fun h h2=>by
  rw [h] at ps
  rw [h2]
  unfold iy
  simp only [EV,reduceIte,aq,au,ak,ao,aA,aB,aC,ps]
 cases a with
 | int a =>
  cases b with
  | int b =>
   have ps:lR [.tuple [.int a,.int b]]=some (.bool true):=ps
   have:str2 (.int a) (.int b)=(decide (0 ≤ a) && (decide (a < b) && decide (b ≤ 400))):=by
    unfold str2
    by_cases h1:0 ≤ a <;> by_cases h2:a < b <;> by_cases h3:b ≤ 400 <;> simp [h1,h2,h3]
   rw [this]
   unfold iy
   by_cases h1:0 ≤ a
   ·by_cases h2:a < b
    ·simp only [EV,reduceIte,aq,au,ak,ao,aA,aB,aC,ps,at0,at1,dTr h1,dTr h2]
     simp
    ·simp only [EV,reduceIte,aq,au,ak,ao,aA,aB,aC,ps,at0,at1,dTr h1,dFa h2]
     simp
   ·simp only [EV,reduceIte,aq,au,ak,ao,aA,aB,aC,ps,at0,at1,dFa h1]
    simp
  | _=>exact no rfl rfl
 | _=>exact no rfl rfl
theorem Xk {M:Nat} {now:Int} {d:D} (h:D3.isT "tuple" (tyD d)=false):dY [d,.int (M:Int),.int now]=some (.bool false)∧cY [d,.int (M:Int),.int now]=some (.bool false):=by
 have ls:dH [d]=some (.bool false):=by
  unfold dH
  simp only [EV,reduceIte,aq,au,ak,ao,aA,aB,aC,h]
 constructor
 ·unfold dY
  simp only [EV,reduceIte,aq,au,ak,ao,aA,aB,aC,h]
 ·unfold cY
  simp only [EV,reduceIte,aq,au,ak,ao,aA,aB,aC,ls]
theorem Wg {M:Nat} {now:Int} {l:List D} (h:l.length ≠ 3):dY [.tuple l,.int (M:Int),.int now]=some (.bool false)∧cY [.tuple l,.int (M:Int),.int now]=some (.bool false):=by
 have it:D3.isT "tuple" (tyD (.tuple l))=true:=rfl
 have e:gNe (.int (l.length:Int)) (.int 3)=some (.bool true):=by
  rw [JR,dFa (by omega)]
  rfl
 have ls:dH [.tuple l]=some (.bool false):=by
  unfold dH
  simp only [EV,reduceIte,aq,au,ak,ao,aA,aB,aC,it,e]
 constructor
 ·unfold dY
  simp only [EV,reduceIte,aq,au,ak,ao,aA,aB,aC,it,e]
 ·unfold cY
  simp only [EV,reduceIte,aq,au,ak,ao,aA,aB,aC,ls]
theorem Oh (a b c:D):dH [.tuple [a,b,c]]=some (.bool (str2 a b)):=by
 have it:D3.isT "tuple" (tyD (.tuple [a,b,c]))=true:=rfl
 have e3:gNe (.int ((0 + 1 + 1 + 1:Nat):Int)) (.int 3)=some (.bool false):=rfl
 have wa:=lwh a
 have wb:=lwh b
 cases ha:isI a with
 | false =>
  rw [ha] at wa
  have:str2 a b=false:=by cases a <;> first | rfl | cases ha
  rw [this]
  unfold dH
  simp only [EV,reduceIte,aq,au,ak,ao,aA,aB,aC,it,e3,at0,wa]
 | true =>
  obtain ⟨x,rfl⟩:=yR ha
  cases hb:isI b with
  | false =>
   rw [hb] at wb
   have:str2 (.int x) b=false:=by cases b <;> first | rfl | cases hb
   rw [this]
   have wa:cP [.int x]=some (.bool true):=lwh (.int x)
   unfold dH
   simp only [EV,reduceIte,aq,au,ak,ao,aA,aB,aC,it,e3,at0,at1,wa,wb]
  | true =>
   obtain ⟨y,rfl⟩:=yR hb
   have wa:∀ x,cP [.int x]=some (.bool true):=fun x=>lwh (.int x)
   have:str2 (.int x) (.int y)=(decide (0 ≤ x) && (decide (x < y) && decide (y ≤ 400))):=by
    unfold str2
    by_cases h1:0 ≤ x <;> by_cases h2:x < y <;> by_cases h3:y ≤ 400 <;> simp [h1,h2,h3]
   rw [this]
   unfold dH
   by_cases h1:0 ≤ x
   ·by_cases h2:x < y
    ·simp only [EV,reduceIte,aq,au,ak,ao,aA,aB,aC,it,e3,at0,at1,wa,dTr h1,dTr h2]
     simp
    ·simp only [EV,reduceIte,aq,au,ak,ao,aA,aB,aC,it,e3,at0,at1,wa,dTr h1,dFa h2]
     simp
   ·simp only [EV,reduceIte,aq,au,ak,ao,aA,aB,aC,it,e3,at0,at1,wa,dFa h1]
    simp
theorem Ek {M:Nat} {now:Int} {d:D} (hf:fine d=true):dY [d,.int (M:Int),.int now]=some (.bool (gty M now d).isSome)∧cY [d,.int (M:Int),.int now]=some (.bool (gty M now d).isSome):=by
 have main:∀ a b c:D,sca a=true→sca b=true→dY [.tuple [a,b,c],.int (M:Int),.int now]=some (.bool (gty M now (.tuple [a,b,c])).isSome)∧cY [.tuple [a,b,c],.int (M:Int),.int now]=some (.bool (gty M now (.tuple [a,b,c])).isSome):=by
  intro a b c ha hb
  have it:D3.isT "tuple" (tyD (.tuple [a,b,c]))=true:=rfl
  have e3:gNe (.int ((0 + 1 + 1 + 1:Nat):Int)) (.int 3)=some (.bool false):=rfl
  have nt:=GQ c (Ad ha) (Ad hb)
  have st:=Cz a b
  have ls:=Oh a b c
  cases hs:str2 a b with
  | false =>
   rw [hs] at st ls
   have:gty M now (.tuple [a,b,c])=none:=by
    unfold gty
    split
    ·next x y e =>
     cases e
     exact if_neg fun z=>of_decide_eq_false hs z.1
    ·next x y r e =>
     cases e
     exact if_neg fun z=>of_decide_eq_false hs z.1
    ·rfl
   rw [this]
   constructor
   ·unfold dY
    simp only [EV,reduceIte,aq,au,ak,ao,aA,aB,aC,it,e3,nt,st]
    rfl
   ·unfold cY
    simp only [EV,reduceIte,aq,au,ak,ao,aA,aB,aC,ls]
    rfl
  | true =>
   rw [hs] at st ls
   obtain ⟨x,y,rfl,rfl,h3⟩:∃ x y,a = .int x∧b = .int y∧(0 ≤ x∧x < y∧y ≤ 400):=by
    cases a <;> first | (cases hs;done) | skip
    cases b <;> first | (cases hs;done) | skip
    exact ⟨_,_,rfl,rfl,of_decide_eq_true hs⟩
   have hd:∀ x y n:Int,iV [.tuple [.int x,.int y],.int n]=some (.bool (decide (x ≤ n) && decide (n < y))):=Kh
   have w:=wh c
   have lw:=lwh c
   cases hc:isI c with
   | true =>
    obtain ⟨r,rfl⟩:=yR hc
    have w:eN [.int r]=some (.bool true):=w
    have lw:cP [.int r]=some (.bool true):=lw
    have nn:isNone (.int r)=false:=rfl
    have g:(gty M now (.tuple [.int x,.int y,.int r])).isSome=(decide (0 ≤ r) && (decide (r < (M:Int)) && (decide (x ≤ now) && decide (now < y)))):=by
     unfold gty
     by_cases h1:0 ≤ r <;> by_cases h2:r < (M:Int) <;> by_cases h4:x ≤ now <;> by_cases h5:now < y <;> simp [h1,h2,h4,h5,h3]
    rw [g]
    constructor
    ·unfold dY
     by_cases h1:0 ≤ r
     ·by_cases h2:r < (M:Int)
      ·simp only [EV,reduceIte,aq,au,ak,ao,aA,aB,aC,it,e3,nt,st,at0,at2,nn,w,hd,dTr h1,dTr h2]
       simp
      ·simp only [EV,reduceIte,aq,au,ak,ao,aA,aB,aC,it,e3,nt,st,at0,at2,nn,w,hd,dTr h1,dFa h2]
       simp
     ·simp only [EV,reduceIte,aq,au,ak,ao,aA,aB,aC,it,e3,nt,st,at0,at2,nn,w,hd,dFa h1]
      simp
    ·unfold cY
     by_cases h1:0 ≤ r
     ·have h1':¬ r < 0:=by omega
      by_cases h2:r < (M:Int)
      ·have h2':¬ (M:Int) ≤ r:=by omega
       by_cases h4:x ≤ now
       ·simp only [EV,reduceIte,aq,au,ak,ao,aA,aB,aC,ls,at0,at1,at2,nn,lw,dTr h1,dTr h2,dFa h1',dFa h2',dTr h4]
        simp
       ·simp only [EV,reduceIte,aq,au,ak,ao,aA,aB,aC,ls,at0,at1,at2,nn,lw,dTr h1,dTr h2,dFa h1',dFa h2',dFa h4]
        simp
      ·have h2':(M:Int) ≤ r:=by omega
       simp only [EV,reduceIte,aq,au,ak,ao,aA,aB,aC,ls,at0,at1,at2,nn,lw,dTr h1,dFa h2,dFa h1',dTr h2']
       simp
     ·have h1':r < 0:=by omega
      simp only [EV,reduceIte,aq,au,ak,ao,aA,aB,aC,ls,at0,at1,at2,nn,lw,dFa h1,dTr h1']
      simp
   | false =>
    rw [hc] at w lw
    by_cases hn:c = .none
    ·subst hn
     have nn:isNone .none=true:=rfl
     have g:(gty M now (.tuple [.int x,.int y,.none])).isSome=decide (now ≤ x):=by
      unfold gty
      by_cases h1:now ≤ x <;> simp [h1,h3]
     rw [g]
     constructor
     ·unfold dY
      simp only [EV,reduceIte,aq,au,ak,ao,aA,aB,aC,it,e3,nt,st,at0,at2,nn]
     ·unfold cY
      simp only [EV,reduceIte,aq,au,ak,ao,aA,aB,aC,ls,at0,at2,nn]
    ·have nn:isNone c=false:=by cases c <;> first | rfl | exact absurd rfl hn
     have g:(gty M now (.tuple [.int x,.int y,c])).isSome=false:=by
      cases c <;> first | rfl | exact absurd rfl hn | cases hc
     rw [g]
     constructor
     ·unfold dY
      simp only [EV,reduceIte,aq,au,ak,ao,aA,aB,aC,it,e3,nt,st,at0,at2,nn,w]
     ·unfold cY
      simp only [EV,reduceIte,aq,au,ak,ao,aA,aB,aC,ls,at0,at2,nn,lw]
 cases d with
 | tuple l =>
  by_cases hl:l.length=3
  ·match l,hl with
   | [a,b,c],_ =>
    have:(sca a && sca b)=true:=hf
    rw [aU] at this
    exact main a b c this.1 this.2
  ·have g:gty M now (.tuple l)=none:=by
    unfold gty
    split
    ·next e=>cases e;exact absurd rfl hl
    ·next e=>cases e;exact absurd rfl hl
    ·rfl
   rw [g]
   exact Wg hl
 | _=>exact Xk rfl
theorem CG {M:Nat} {now:Int} {d:D} {s:Ty} (h:gty M now d=some s):d=yD s∧(s.1 < s.2.1∧0 ≤ s.1∧s.2.1 ≤ 400)∧(∀ r,s.2.2=some r→r < M∧s.1 ≤ now∧now < s.2.1)∧(s.2.2=none→now ≤ s.1):=by
 unfold gty at h
 split at h
 ·next a b =>
  split at h
  ·next c =>
   cases h
   exact ⟨rfl,⟨c.1.2.1,c.1.1,c.1.2.2⟩,fun r e=>(by cases e),fun _=>c.2⟩
  ·cases h
 ·next a b r =>
  split at h
  ·next c =>
   cases h
   refine ⟨?_,⟨c.1.2.1,c.1.1,c.1.2.2⟩,fun q e=>?_,fun e=>(by cases e)⟩
   ·show _=PyData.tuple [.int a,.int b,.int ((r.toNat:Nat):Int)]
    rw [Int.toNat_of_nonneg c.2.1.1]
   ·cases e
    exact ⟨by omega,c.2.2⟩
  ·cases h
 ·cases h
inductive Ck where
 | stay (i:Nat)
 | taken (r:Nat)
 | ok
def chk (M:Nat) (now:Int):List D→Nat→List Nat→Ck
 | [],_,_=>.ok
 | d :: l,i,S=>match gty M now d with
  | none=>.stay i
  | some s=>match s.2.2 with
   | none=>chk M now l (i + 1) S
   | some q=>if q ∈ S then .taken q else chk M now l (i + 1) (q :: S)
theorem Pu {g:FG} {b:FX} {d:D} {r:List D} {δ δ1 δ':DS} (h1:g d δ=some δ1) (h2:b δ1=some (.o (.nx δ'))):nA g b (d :: r) δ=nA g b r δ':=by
 rw [nA,h1,aH,h2]
 rfl
theorem Px {g:FG} {b:FX} {d v:D} {c:Str} {r:List D} {δ δ1:DS} (h1:g d δ=some δ1) (h2:b δ1=some (.ex c v)):nA g b (d :: r) δ=some (.ex c v):=by
 rw [nA,h1,aH,h2]
 rfl
theorem Py {c:Str} {f:FE} {δ:DS} {d:D} (h:f δ=some d):mC c f δ=some (.ex c d):=by
 unfold mC
 rw [h]
 rfl
theorem k_ {f:FS} {δ:DS} {o:Oc} (h:f δ=some o):xOf f δ=some (.o o):=by
 unfold xOf
 rw [h]
 rfl
def ckE:Ck→DS→Or
 | .stay j,_=>.ex "NoStay" (.int (j:Int))
 | .taken r,_=>.ex "Taken" (.int (r:Int))
 | .ok,δ=>.o (.nx δ)
theorem qy {M:Nat} {now:Int} (ds:D):∀ (l:List D) (i:Nat) (S:List Nat) (S':List Int) (u4 u5:Option U),(∀ q:Nat,(q:Int) ∈ S'↔q ∈ S)→S'.length ≤ i→i + l.length ≤ 1000→(∀ d ∈ l,fine d=true) →
 ∃ δ',nA (gTn 2 (eX (gNl 4) (eX (gNl 5) (mj)))) (nu (xIf (D3.dG (aM (dCall dY (aj (aD 5) (aj (aD 1) (aj (aD 2) (aJ))))))) (mC "NoStay" (aD 4)) (xOf (bI))) (nu (xIf (aM (dOp zZ (dOp gIx (aD 5) (dC (.int 2))) (aD 3))) (mC "Taken" (dOp gIx (aD 5) (dC (.int 2)))) (xOf (bI))) (xOf (sIf (aM (dUn mq (dOp gIx (aD 5) (dC (.int 2))))) (xq 3 (dOp gIx (aD 5) (dC (.int 2)))) (bI))))) (l.mapIdx fun k x=>PyData.tuple [.int ((i + k:Nat):Int),x]) [some (.d ds),some (.d (.int (M:Int))),some (.d (.int now)),some (.d (dsB S')),u4,u5]=some (ckE (chk M now l i S) δ')
 | [],i,S,S',u4,u5,_,_,_,_=>⟨_,rfl⟩
 | d :: l,i,S,S',u4,u5,hS,hl,hi,hf=>by
  have fd:=hf d aG
  have st:=(Ek (M:=M) (now:=now) fd).1
  have sh:((d :: l).mapIdx fun k x=>PyData.tuple [.int ((i + k:Nat):Int),x])=PyData.tuple [.int (i:Int),d] :: l.mapIdx fun k x=>PyData.tuple [.int ((i + 1 + k:Nat):Int),x]:=by
   rw [List.mapIdx_cons]
   congr 1
   apply List.ext_getElem
   ·simp
   ·intro k h1 h2
    simp
    omega
  rw [sh]
  have g1:(gTn 2 (eX (gNl 4) (eX (gNl 5) (mj)))) (PyData.tuple [.int (i:Int),d]) [some (.d ds),some (.d (.int (M:Int))),some (.d (.int now)),some (.d (dsB S')),u4,u5]=some [some (.d ds),some (.d (.int (M:Int))),some (.d (.int now)),some (.d (dsB S')),some (.d (.int (i:Int))),some (.d d)]:=rfl
  have li:i + 1 + l.length ≤ 1000:=by rw [bZ] at hi;omega
  cases hg:gty M now d with
  | none =>
   rw [hg] at st
   refine ⟨[],?_⟩
   rw [chk,hg]
   refine Px g1 (vD ?_)
   refine (Kf ?_).trans (Py ?_)
   ·have st:dY [d,.int (M:Int),.int now]=some (.bool false):=st
    simp only [EV,reduceIte,aq,au,ak,ao,aA,aB,aC,st]
   ·rfl
  | some s =>
   rw [hg] at st
   have st:dY [d,.int (M:Int),.int now]=some (.bool true):=st
   obtain ⟨rfl,_,hr,_⟩:=CG hg
   have t1:(D3.dG (aM (dCall dY (aj (aD 5) (aj (aD 1) (aj (aD 2) (aJ))))))) [some (.d ds),some (.d (.int (M:Int))),some (.d (.int now)),some (.d (dsB S')),some (.d (.int (i:Int))),some (.d (yD s))]=some false:=by
    simp only [EV,reduceIte,aq,au,ak,ao,aA,aB,aC,st]
   rw [chk,hg]
   dsimp only
   cases hs:s.2.2 with
   | none =>
    have a2:pAt [.int s.1,.int s.2.1,hD s.2.2] 2=some .none:=by rw [hs];rfl
    have nn:isNone .none=true:=rfl
    obtain ⟨δ',e⟩:=qy ds l (i + 1) S S' (some (.d (.int (i:Int)))) (some (.d (yD s))) hS (by omega) li fun d hd=>hf d (aF _ hd)
    refine ⟨δ',(Pu g1 ((kE ((Ab t1).trans (k_ rfl))).trans ((kE ((Ab ?_).trans (k_ rfl))).trans (k_ ?_)))).trans e⟩
    ·unfold yD
     simp only [EV,reduceIte,aq,au,ak,ao,aA,aB,aC,a2,Ti]
    ·unfold yD
     simp only [EV,reduceIte,aq,au,ak,ao,aA,aB,aC,a2,nn]
   | some q =>
    have a2:pAt [.int s.1,.int s.2.1,hD s.2.2] 2=some (.int (q:Int)):=by rw [hs];rfl
    have nn:isNone (.int (q:Int))=false:=rfl
    by_cases hq:q ∈ S
    ·have hq':(q:Int) ∈ S':=(hS q).mpr hq
     refine ⟨[],?_⟩
     dsimp only
     rw [if_pos hq]
     refine Px g1 ((kE ((Ab t1).trans (k_ rfl))).trans (vD ((Kf ?_).trans (Py ?_))))
     ·unfold yD
      simp only [EV,reduceIte,aq,au,ak,ao,aA,aB,aC,a2,Pr,dTr hq']
     ·unfold yD
      simp only [EV,reduceIte,aq,au,ak,ao,aA,aB,aC,a2]
    ·have hq':¬ (q:Int) ∈ S':=fun z=>hq ((hS q).mp z)
     dsimp only
     rw [if_neg hq]
     have pb:B_ S' (q:Int)=S'++[(q:Int)]:=if_neg hq'
     have sl:S'.length < 1000000:=by rw [bZ] at hi;omega
     obtain ⟨δ',e⟩:=qy ds l (i + 1) (q :: S) (S'++[(q:Int)]) (some (.d (.int (i:Int)))) (some (.d (yD s))) (fun p=>by
      rw [bM,aQ,aO,hS p]
      constructor
      ·rintro (z | z)
       ·exact .inr z
       ·exact .inl (by omega)
      ·rintro (z | z)
       ·exact .inr (by rw [z])
       ·exact .inl z) (by rw [bK];simp;omega) li fun d hd=>hf d (aF _ hd)
     refine ⟨δ',(Pu g1 ((kE ((Ab t1).trans (k_ rfl))).trans ((kE ((Ab ?_).trans (k_ rfl))).trans (k_ ?_)))).trans e⟩
     ·unfold yD
      simp only [EV,reduceIte,aq,au,ak,ao,aA,aB,aC,a2,Pr,dFa hq']
     ·unfold yD
      simp only [EV,reduceIte,aq,au,ak,ao,aA,aB,aC,a2,nn,Tg,Kl,sl,pb]
theorem El {M:Nat} {now:Int} {ds:List D} (hl:ds.length ≤ 24) (hf:∀ d ∈ ds,fine d=true):d9 [.list ds,.int (M:Int),.int now]=some (match chk M now ds 0 [] with
 | .stay j=>.ex "NoStay" (.int (j:Int))
 | .taken r=>.ex "Taken" (.int (r:Int))
 | .ok=>.o (.rt .none)):=by
 obtain ⟨δ',e⟩:=qy (M:=M) (now:=now) (.list ds) ds 0 [] [] none none (fun q=>by simp) (by simp) (by omega) hf
 have en:jo ds=ds.mapIdx fun k x=>PyData.tuple [.int ((0 + k:Nat):Int),x]:=by
  unfold jo
  congr 1
  funext k x
  rw [lu]
 have fo:Mg (oX (aD 0)) (gTn 2 (eX (gNl 4) (eX (gNl 5) (mj)))) (nu (xIf (D3.dG (aM (dCall dY (aj (aD 5) (aj (aD 1) (aj (aD 2) (aJ))))))) (mC "NoStay" (aD 4)) (xOf (bI))) (nu (xIf (aM (dOp zZ (dOp gIx (aD 5) (dC (.int 2))) (aD 3))) (mC "Taken" (dOp gIx (aD 5) (dC (.int 2)))) (xOf (bI))) (xOf (sIf (aM (dUn mq (dOp gIx (aD 5) (dC (.int 2))))) (xq 3 (dOp gIx (aD 5) (dC (.int 2)))) (bI))))) [some (.d (.list ds)),some (.d (.int (M:Int))),some (.d (.int now)),some (.d (dsB [])),none,none]=some (ckE (chk M now ds 0 []) δ'):=by
  unfold Mg
  have:(oX (aD 0)) [some (.d (.list ds)),some (.d (.int (M:Int))),some (.d (.int now)),some (.d (dsB [])),none,none]=some (jo ds):=by
   have:ds.length ≤ 100000:=by omega
   simp only [EV,reduceIte,aq,au,ak,ao,aA,aB,aC,this]
  rw [this,aH,en]
  exact e
 unfold d9
 cases hc:chk M now ds 0 [] with
 | stay j =>
  rw [hc] at fo
  exact tZ rfl ((kE (k_ rfl)).trans fo)
 | taken r =>
  rw [hc] at fo
  exact tZ rfl ((kE (k_ rfl)).trans fo)
 | ok =>
  rw [hc] at fo
  exact Pq rfl ((kE (k_ rfl)).trans fo)
theorem CJ {M:Nat} {now:Int}:∀ (l:List D) (i:Nat) (S:List Nat),chk M now l i S = .ok→∃ L:List Ty,l=L.map yD∧(∀ s ∈ L,(s.1 < s.2.1∧0 ≤ s.1∧s.2.1 ≤ 400)∧(∀ r,s.2.2=some r→r < M∧s.1 ≤ now∧now < s.2.1)∧(s.2.2=none→now ≤ s.1))∧(L.filterMap (·.2.2)).Nodup∧∀ q ∈ S,q ∉ L.filterMap (·.2.2)
 | [],_,_,_=>⟨[],rfl,fun _ h=>(by cases h),oO,fun _ _ h=>(by cases h)⟩
 | d :: l,i,S,h=>by
  rw [chk] at h
  cases hg:gty M now d with
  | none=>rw [hg] at h;cases h
  | some s =>
   rw [hg] at h
   dsimp only at h
   obtain ⟨rfl,p1,p2,p3⟩:=CG hg
   cases hs:s.2.2 with
   | none =>
    rw [hs] at h
    dsimp only at h
    obtain ⟨L,rfl,h1,h2,h3⟩:=CJ l (i + 1) S h
    refine ⟨s :: L,rfl,fun t ht=>?_,?_,fun q hq=>?_⟩
    ·rcases aO.mp ht with rfl | z
     ·exact ⟨p1,p2,p3⟩
     ·exact h1 t z
    ·rw [cg,hs];exact h2
    ·rw [cg,hs];exact h3 q hq
   | some r =>
    rw [hs] at h
    dsimp only at h
    by_cases hr:r ∈ S
    ·rw [if_pos hr] at h;cases h
    ·rw [if_neg hr] at h
     obtain ⟨L,rfl,h1,h2,h3⟩:=CJ l (i + 1) (r :: S) h
     refine ⟨s :: L,rfl,fun t ht=>?_,?_,fun q hq=>?_⟩
     ·rcases aO.mp ht with rfl | z
      ·exact ⟨p1,p2,p3⟩
      ·exact h1 t z
     ·rw [cg,hs];exact cU.mpr ⟨h3 r aG,h2⟩
     ·rw [cg,hs]
      intro z
      rcases aO.mp z with z | z
      ·exact hr (z ▸ hq)
      ·exact h3 q (aF _ hq) z
theorem Tq {M:Nat} {now:Int} {ds:List D} (hl:ds.length ≤ 24) (h:chk M now ds 0 [] = .ok):∃ L:List Ty,ds=L.map yD∧TO0 L M now:=by
 obtain ⟨L,e,h1,h2,_⟩:=CJ ds 0 [] h
 exact ⟨L,e,⟨by rw [e,aL] at hl;exact hl,h1,h2⟩⟩
theorem Oi (l:List (Option Nat)) (r:Nat):((l.map hD).any fun z=>PyData.eqv z (.int (r:Int)))=decide (some r ∈ l):=by
 induction l with
 | nil=>rfl
 | cons o l ih =>
  rw [bH,iQ,ih]
  cases o with
  | none =>
   show (false || _)=_
   rw [Bool.false_or]
   simp
  | some x =>
   have:PyData.eqv (hD (some x)) (.int (r:Int))=decide (x=r):=by
    show decide ((x:Int)=(r:Int))=_
    exact decide_eq_decide.mpr (by omega)
   rw [this]
   by_cases h:x=r
   ·subst h;simp
   ·have h2:¬ r=x:=fun z=>h z.symm
    simp [h,h2]
theorem Oj {ds:List D} (h:ds.length ≤ 100000):fK (gNl 0) (D3.jA) (dCall eN (aj (aD 0) (aJ))) (jH 1 [] [some (.d (.list ds))]) ds=some (ds.map fun d=>PyData.bool (isI d)):=by
 have:=yM (g:=(gNl 0)) (c:=(D3.jA)) (e:=(dCall eN (aj (aD 0) (aJ)))) (δ:=jH 1 [] [some (.d (.list ds))]) (fun d:D=>d) (fun d=>PyData.bool (isI d)) ds fun d _=>⟨[some (.d d)],rfl,rfl,by simp only [EV,reduceIte,aq,au,ak,ao,aA,aB,aC,wh]⟩
 rw [rA] at this
 exact this
theorem CK (ds:List D) (h:ds.length ≤ 100000):fY [.list ds]=some (.bool (ds.all isI)):=by
 have e:gM [.list ds]=some (.bool (ds.all isI)):=by
  unfold gM
  simp only [EV,reduceIte,aq,au,ak,ao,aA,aB,aC,Uz,Q5,h,Oj h,allB]
 unfold fY
 simp only [EV,reduceIte,aq,au,ak,ao,aA,aB,aC,isList,e]
theorem Km (a b c d:Int):lJ [.tuple [.int a,.int b],.tuple [.int c,.int d]]=some (.bool (!decide ((if d < b then d else b) ≤ (if c > a then c else a)))):=by
 unfold lJ Com.lJ Com.nG
 generalize hx:(if d < b then d else b)=x
 generalize hy:(if c > a then c else a)=y
 by_cases z:x ≤ y
 ·have nn:isNone .none=true:=rfl
  simp only [EV,reduceIte,aq,au,ak,ao,aA,aB,aC,at0,at1,vh,xM,hx,hy,dTr z,nn]
 ·have nn:isNone (.tuple [.int y,.int x])=false:=rfl
  simp only [EV,reduceIte,aq,au,ak,ao,aA,aB,aC,at0,at1,vh,xM,hx,hy,dFa z,nn,fli,zl2]
theorem CN {g:FG} {b:FS} {v:D} (Inv:DS→Prop):∀ (l:List D) (δ:DS),Inv δ→(∀ d ∈ l,∀ δ,Inv δ→∃ δ1,g d δ=some δ1∧((∃ δ',b δ1=some (.nx δ')∧Inv δ')∨b δ1=some (.rt v)))→(∃ δ',gR g b l δ=some (.nx δ')∧Inv δ')∨gR g b l δ=some (.rt v)
 | [],δ,h,_=>.inl ⟨δ,rfl,h⟩
 | d :: l,δ,h,hs=>by
  obtain ⟨δ1,e1,⟨δ',e2,h2⟩ | e2⟩:=hs d aG δ h
  ·have:=CN (v:=v) Inv l δ' h2 fun x hx=>hs x (aF _ hx)
   rw [gR,e1,aH,e2]
   exact this
  ·rw [gR,e1,aH,e2]
   exact .inr rfl
theorem Ko {L:List Ty} {M:Nat} {k:Nat}:∃ b,cV [.tuple [.int (bk L k),.int (ek L k),hD (hk L k)],.int 0,.int (M:Int)]=some (.bool b):=by
 cases hh:hk L k with
 | none =>
  have nn:isNone (hD none)=true:=rfl
  refine ⟨decide ((0:Int) < (M:Int)),?_⟩
  unfold cV Com.cV
  simp only [EV,reduceIte,aq,au,ak,ao,aA,aB,aC,at2,nn,dTr (j_ 0)]
 | some r =>
  have nn:isNone (hD (some r))=false:=rfl
  have eq:gEq (.int 0) (hD (some r))=some (.bool (decide (0=(r:Int)))):=rfl
  refine ⟨decide (0=(r:Int)),?_⟩
  unfold cV Com.cV
  simp only [EV,reduceIte,aq,au,ak,ao,aA,aB,aC,at2,nn,eq]
theorem Tr {n i:Nat} (h:i < n):pAt (aK n (PyData.int 0)) (i:Int)=some (.int 0):=by rw [n_,dB,if_pos h]
theorem CP {L:List Ty} {i:Nat} (hl:L.length ≤ 24) (hi:i < L.length):∃ b,eU [.list (L.map yD),.list (aK L.length (.int 0)),.int (i:Int)]=some (.bool b):=by
 have a1:=ay hi
 have r0:=Xi i (by omega)
 have F:=CN (v:=.bool false) (g:=(gNl 3)) (b:=(sIf (D3.mW (aM (dOp gEq (dOp gIx (aD 1) (aD 3)) (dOp gIx (aD 1) (aD 2)))) (aM (dCall lJ (aj (dCall cH (aj (dOp gIx (aD 0) (aD 3)) (aJ))) (aj (dCall cH (aj (dOp gIx (aD 0) (aD 2)) (aJ))) (aJ)))))) (bO (dC (.bool false))) (bI)))
  (fun δ=>∃ x,δ=[some (.d (.list (L.map yD))),some (.d (.list (aK L.length (.int 0)))),some (.d (.int (i:Int))),x]) (jK 0 (i:Int))
  [some (.d (.list (L.map yD))),some (.d (.list (aK L.length (.int 0)))),some (.d (.int (i:Int))),none] ⟨none,rfl⟩ (by
   rintro d hd δ ⟨y,rfl⟩
   obtain ⟨k,hk⟩:=List.mem_iff_getElem?.mp hd
   obtain ⟨hk',rfl⟩:=Ci hk
   have b0:=Tr (n:=L.length) (i:=k) (by omega)
   have a0:=Tr hi
   have b1:=ay (L:=L) (k:=k) (by omega)
   have mt:=Km (bk L k) (ek L k) (bk L i) (ek L i)
   have q:gEq (.int 0) (.int 0)=some (.bool true):=rfl
   refine ⟨[some (.d (.list (L.map yD))),some (.d (.list (aK L.length (.int 0)))),some (.d (.int (i:Int))),some (.d (.int (k:Int)))],rfl,?_⟩
   generalize (!decide ((if ek L i < ek L k then ek L i else ek L k) ≤ (if bk L i > bk L k then bk L i else bk L k)))=m at mt
   cases m with
   | true =>
    refine .inr ?_
    simp only [EV,reduceIte,aq,au,ak,ao,aA,aB,aC,a0,b0,a1,b1,q,sY,mt]
   | false =>
    refine .inl ⟨[some (.d (.list (L.map yD))),some (.d (.list (aK L.length (.int 0)))),some (.d (.int (i:Int))),some (.d (.int (k:Int)))],?_,_,rfl⟩
    simp only [EV,reduceIte,aq,au,ak,ao,aA,aB,aC,a0,b0,a1,b1,q,sY,mt])
 rcases F with ⟨δ',e,⟨x,rfl⟩⟩ | e
 ·refine ⟨true,?_⟩
  unfold eU Com.eU
  simp only [EV,reduceIte,aq,au,ak,ao,aA,aB,aC,r0]
  rw [e]
  simp only [EV,reduceIte,aq,au,ak,ao,aA,aB,aC]
 ·refine ⟨false,?_⟩
  unfold eU Com.eU
  simp only [EV,reduceIte,aq,au,ak,ao,aA,aB,aC,r0]
  rw [e]
  simp only [EV,reduceIte,aq,au,ak,ao,aA,aB,aC]
theorem Tt {L:List Ty} {M:Nat} {now:Int} (hl:L.length ≤ 24) (hx:d9 [.list (L.map yD),.int (M:Int),.int now]=some (.o (.rt .none))) :
 ∃ b,fU [.list (L.map yD),.int (M:Int),.int now,.list (aK L.length (.int 0))]=some (.o (.rt (.bool b))):=by
 have hw:fY [.list (aK L.length (.int 0))]=some (.bool true):=by
  rw [CK _ (by simp;omega)]
  congr 2
  rw [fj]
  intro x hx
  rw [(List.mem_replicate.mp hx).2]
  rfl
 have hd:(aK L.length (PyData.int 0)).length=L.length:=by simp
 have za:∀ i,i < L.length→pAt (aK L.length (PyData.int 0)) (i:Int)=some (.int 0):=fun i h=>Tr h
 have ap:∀ i,i < L.length→∃ b,eU [.list (L.map yD),.list (aK L.length (.int 0)),.int (i:Int)]=some (.bool b):=fun i h=>CP hl h
 generalize aK L.length (PyData.int 0)=ds at *
 have en:jo (L.map yD)=(aN L.length).map fun p:Nat=>PyData.tuple [.int (p:Int),.tuple [.int (bk L p),.int (ek L p),hD (hk L p)]]:=by
  rw [pI,Kc]
  rfl
 have F:=CN (g:=(gTn 2 (eX (gNl 4) (eX (gNl 5) (mj))))) (b:=(sIf (D3.tOr (D3.dG (aM (dCall cV (aj (aD 5) (aj (dOp gIx (aD 3) (aD 4)) (aj (aD 1) (aJ))))))) (D3.dG (aM (dCall eU (aj (aD 0) (aj (aD 3) (aj (aD 4) (aJ)))))))) (bO (dC (.bool false))) (bI))) (v:=.bool false)
  (fun δ=>∃ x y,δ=[some (.d (.list (L.map yD))),some (.d (.int (M:Int))),some (.d (.int now)),some (.d (.list ds)),x,y]) (jo (L.map yD))
  [some (.d (.list (L.map yD))),some (.d (.int (M:Int))),some (.d (.int now)),some (.d (.list ds)),none,none] ⟨none,none,rfl⟩ (by
   rintro d hd' δ ⟨x,y,rfl⟩
   rw [en] at hd'
   obtain ⟨i,hi,rfl⟩:=cT.mp hd'
   have hi:=cA.mp hi
   have a0:=za i hi
   obtain ⟨b1,e1⟩:=Ko (L:=L) (M:=M) (k:=i)
   obtain ⟨b2,e2⟩:=ap i hi
   refine ⟨[some (.d (.list (L.map yD))),some (.d (.int (M:Int))),some (.d (.int now)),some (.d (.list ds)),some (.d (.int (i:Int))),some (.d (.tuple [.int (bk L i),.int (ek L i),hD (hk L i)]))],rfl,?_⟩
   cases b1 with
   | false =>
    refine .inr ?_
    simp only [EV,reduceIte,aq,au,ak,ao,aA,aB,aC,a0,e1]
   | true =>
    cases b2 with
    | false =>
     refine .inr ?_
     simp only [EV,reduceIte,aq,au,ak,ao,aA,aB,aC,a0,e1,e2]
    | true =>
     refine .inl ⟨[some (.d (.list (L.map yD))),some (.d (.int (M:Int))),some (.d (.int now)),some (.d (.list ds)),some (.d (.int (i:Int))),some (.d (.tuple [.int (bk L i),.int (ek L i),hD (hk L i)]))],?_,_,_,rfl⟩
     simp only [EV,reduceIte,aq,au,ak,ao,aA,aB,aC,a0,e1,e2])
 have eL:gNe (.int (ds.length:Int)) (.int (L.length:Int))=some (.bool false):=by rw [JR,hd];simp
 have ln:(L.map yD).length ≤ 100000:=by rw [aL];omega
 have a1:(aj (aD 0) (aj (aD 1) (aj (aD 2) (aJ)))) [some (.d (.list (L.map yD))),some (.d (.int (M:Int))),some (.d (.int now)),some (.d (.list ds)),none,none]=some [.list (L.map yD),.int (M:Int),.int now]:=rfl
 have t1:(sIf (D3.tOr (D3.dG (aM (dCall fY (aj (aD 3) (aJ))))) (aM (dOp gNe (dCall jB (aj (aD 3) (aJ))) (dCall jB (aj (aD 0) (aJ)))))) (bO (dC (.bool false))) (bI)) [some (.d (.list (L.map yD))),some (.d (.int (M:Int))),some (.d (.int now)),some (.d (.list ds)),none,none]=some (.nx [some (.d (.list (L.map yD))),some (.d (.int (M:Int))),some (.d (.int now)),some (.d (.list ds)),none,none]):=by
  simp only [EV,reduceIte,aq,au,ak,ao,aA,aB,aC,hw,Tf,eL]
 have fo:∀ o,gR (gTn 2 (eX (gNl 4) (eX (gNl 5) (mj)))) (sIf (D3.tOr (D3.dG (aM (dCall cV (aj (aD 5) (aj (dOp gIx (aD 3) (aD 4)) (aj (aD 1) (aJ))))))) (D3.dG (aM (dCall eU (aj (aD 0) (aj (aD 3) (aj (aD 4) (aJ)))))))) (bO (dC (.bool false))) (bI)) (jo (L.map yD)) [some (.d (.list (L.map yD))),some (.d (.int (M:Int))),some (.d (.int now)),some (.d (.list ds)),none,none]=some o→(pO (oX (aD 0)) (gTn 2 (eX (gNl 4) (eX (gNl 5) (mj)))) (sIf (D3.tOr (D3.dG (aM (dCall cV (aj (aD 5) (aj (dOp gIx (aD 3) (aD 4)) (aj (aD 1) (aJ))))))) (D3.dG (aM (dCall eU (aj (aD 0) (aj (aD 3) (aj (aD 4) (aJ)))))))) (bO (dC (.bool false))) (bI))) [some (.d (.list (L.map yD))),some (.d (.int (M:Int))),some (.d (.int now)),some (.d (.list ds)),none,none]=some o:=fun o h=>by
  have:(oX (aD 0)) [some (.d (.list (L.map yD))),some (.d (.int (M:Int))),some (.d (.int now)),some (.d (.list ds)),none,none]=some (jo (L.map yD)):=by
   simp only [EV,reduceIte,aq,au,ak,ao,aA,aB,aC,ln]
  unfold pO
  rw [this]
  exact h
 unfold fU
 rcases F with ⟨δ',e,⟨x,y,rfl⟩⟩ | e
 ·exact ⟨true,Kg rfl ((kE (vH a1 hx)).trans ((kE (k_ t1)).trans ((kE (k_ (fo _ e))).trans (k_ rfl))))⟩
 ·refine ⟨false,Kg rfl ((kE (vH a1 hx)).trans ((kE (k_ t1)).trans ?_))⟩
  unfold nu
  rw [k_ (fo _ e)]
  rfl
theorem Em (l:List (Option Nat)) (r:Nat):gIn (.int (r:Int)) (.list (l.map hD))=some (.bool (decide (some r ∈ l))):=by
 have s1:SeqAt.shaped (.int (r:Int))=true:=lQ (yO (n:=59))
 have s2:SeqAt.shaped (.list (l.map hD))=true:=lQ (N6 (n:=59) (Ei _ V9 _))
 show (if (SeqAt.shaped (.int (r:Int)) && SeqAt.shaped (.list (l.map hD)))=true then some (PyData.bool ((l.map hD).any fun z=>PyData.eqv z (.int (r:Int)))) else none)=_
 rw [s1,s2,Oi]
 rfl
def ckL:Ck→DS→Oc
 | .stay j,_=>.rt (.tuple [.str "stay", .int (j:Int)])
 | .taken r,_=>.rt (.tuple [.str "taken", .int (r:Int)])
 | .ok,δ=>.nx δ
theorem Pz {g:FG} {b:FS} {d v:D} {r:List D} {δ δ1:DS} (h1:g d δ=some δ1) (h2:b δ1=some (.rt v)):gR g b (d :: r) δ=some (.rt v):=by
 rw [gR,h1,aH,h2]
 rfl
theorem PB {g:FG} {b:FS} {d:D} {r:List D} {δ δ1 δ':DS} (h1:g d δ=some δ1) (h2:b δ1=some (.nx δ')):gR g b (d :: r) δ=gR g b r δ':=by
 rw [gR,h1,aH,h2]
 rfl
theorem vK {M:Nat} {now:Int} (ds:List D) (h24:ds.length ≤ 1000):∀ (l pre:List D) (S:List Nat) (T:List (Option Nat)) (u4:Option U),ds=pre++l→(∀ q:Nat,some q ∈ T↔q ∈ S)→T.length ≤ pre.length→(∀ d ∈ l,fine d=true) →
 ∃ δ',(∃ u3 u4,δ'=[some (.d (.list ds)),some (.d (.int (M:Int))),some (.d (.int now)),u3,u4,none])∧gR (gNl 4) (aW (sIf (D3.dG (aM (dCall cY (aj (dOp gIx (aD 0) (aD 4)) (aj (aD 1) (aj (aD 2) (aJ))))))) (bO (dTup (aj (dC (.str "stay")) (aj (eE (aD 4)) (aJ))))) (bI)) (aW (sIf (D3.mW (aM (dUn mq (dOp gIx (dOp gIx (aD 0) (aD 4)) (dC (.int 2))))) (aM (dOp gIn (dOp gIx (dOp gIx (aD 0) (aD 4)) (dC (.int 2))) (aD 3)))) (bO (dTup (aj (dC (.str "taken")) (aj (eE (dOp gIx (dOp gIx (aD 0) (aD 4)) (dC (.int 2)))) (aJ))))) (bI)) (Fi 3 (dOp gIx (dOp gIx (aD 0) (aD 4)) (dC (.int 2)))))) ((mJ pre.length l.length).map fun k:Nat=>PyData.int (k:Int)) [some (.d (.list ds)),some (.d (.int (M:Int))),some (.d (.int now)),some (.d (.list (T.map hD))),u4,none]=some (ckL (chk M now l pre.length S) δ')
 | [],pre,S,T,u4,_,_,_,_=>⟨_,⟨_,_,rfl⟩,rfl⟩
 | d :: l,pre,S,T,u4,he,hS,hl,hf=>by
  have fd:=hf d aG
  have st:=(Ek (M:=M) (now:=now) fd).2
  have sh:((mJ pre.length (d :: l).length).map fun k:Nat=>PyData.int (k:Int))=PyData.int (pre.length:Int) :: ((mJ (pre++[d]).length l.length).map fun k:Nat=>PyData.int (k:Int)):=by
   rw [bZ,List.range'_succ,bH,bK]
   rfl
  have he':ds=(pre++[d])++l:=by rw [he];simp
  have lp:(pre++[d]).length=pre.length + 1:=by simp
  have ad:pAt ds (pre.length:Int)=some d:=by rw [n_,he];simp
  rw [sh]
  have g1:(gNl 4) (PyData.int (pre.length:Int)) [some (.d (.list ds)),some (.d (.int (M:Int))),some (.d (.int now)),some (.d (.list (T.map hD))),u4,none]=some [some (.d (.list ds)),some (.d (.int (M:Int))),some (.d (.int now)),some (.d (.list (T.map hD))),some (.d (.int (pre.length:Int))),none]:=rfl
  have lT:(T.map hD).length < 1000000:=by
   rw [aL]
   have:=congrArg oK he
   rw [bK] at this
   omega
  cases hg:gty M now d with
  | none =>
   rw [hg] at st
   have st:cY [d,.int (M:Int),.int now]=some (.bool false):=st
   refine ⟨_,⟨none,none,rfl⟩,?_⟩
   rw [chk,hg]
   refine Pz g1 ?_
   simp only [EV,reduceIte,aq,au,ak,ao,aA,aB,aC,ad,st,fli,zl2]
  | some s =>
   rw [hg] at st
   have st:cY [d,.int (M:Int),.int now]=some (.bool true):=st
   obtain ⟨rfl,_,hr,_⟩:=CG hg
   rw [chk,hg]
   dsimp only
   cases hs:s.2.2 with
   | none =>
    have a2:pAt [.int s.1,.int s.2.1,hD s.2.2] 2=some .none:=by rw [hs];rfl
    have nn:isNone .none=true:=rfl
    obtain ⟨δ',w,e⟩:=vK ds h24 l (pre++[yD s]) S (T++[none]) (some (.d (.int (pre.length:Int)))) he' (fun q=>by rw [bM,← hS q];simp) (by rw [bK,lp];simp;exact hl) fun d hd=>hf d (aF _ hd)
    rw [lp] at e
    refine ⟨δ',w,(PB g1 ?_).trans (by rw [lp];exact e)⟩
    rw [jw]
    unfold yD at ad st
    simp only [EV,reduceIte,aq,au,ak,ao,aA,aB,aC,ad,st,a2,nn,lT]
    rfl
   | some q =>
    have a2:pAt [.int s.1,.int s.2.1,hD s.2.2] 2=some (.int (q:Int)):=by rw [hs];rfl
    have nn:isNone (.int (q:Int))=false:=rfl
    dsimp only
    by_cases hq:q ∈ S
    ·have hq':some q ∈ T:=(hS q).mpr hq
     have gi:=Em T q
     rw [dTr hq'] at gi
     rw [if_pos hq]
     refine ⟨_,⟨none,none,rfl⟩,Pz g1 ?_⟩
     unfold yD at ad st
     simp only [EV,reduceIte,aq,au,ak,ao,aA,aB,aC,ad,st,a2,nn,gi,fli,zl2]
    ·have hq':¬ some q ∈ T:=fun z=>hq ((hS q).mp z)
     have gi:=Em T q
     rw [dFa hq'] at gi
     rw [if_neg hq]
     obtain ⟨δ',w,e⟩:=vK ds h24 l (pre++[yD s]) (q :: S) (T++[some q]) (some (.d (.int (pre.length:Int)))) he' (fun p=>by
      rw [bM,aQ,aO,hS p]
      constructor
      ·rintro (z | z)
       ·exact .inr z
       ·exact .inl (cX.inj z)
      ·rintro (z | z)
       ·exact .inr (by rw [z])
       ·exact .inl z) (by rw [bK,lp];simp;exact hl) fun d hd=>hf d (aF _ hd)
     rw [lp] at e
     refine ⟨δ',w,(PB g1 ?_).trans (by rw [lp];exact e)⟩
     rw [jw]
     unfold yD at ad st
     simp only [EV,reduceIte,aq,au,ak,ao,aA,aB,aC,ad,st,a2,nn,gi,lT]
     rfl
def Ae (M:Nat) (now:Int) (ds:List D) (w:Str) (v:Int):Prop:=match chk M now ds 0 [] with
 | .stay j=>w = "stay" ∧ v=(j:Int)
 | .taken r=>w = "taken" ∧ v=(r:Int)
 | .ok=>∃ L:List Ty,ds=L.map yD∧TO0 L M now∧match fN L M now with
  | some x=>w = "full" ∧ v=x
  | none=>w = "told" ∧ v=0
theorem Kp {M:Nat} {now:Int} {ds:List D} (hl:ds.length ≤ 24) (hf:∀ d ∈ ds,fine d=true):∃ w v,Ae M now ds w v∧iD [.list ds,.int (M:Int),.int now]=some (.tuple [.str w,.int v]):=by
 obtain ⟨δ',⟨u3,u4,rfl⟩,e⟩:=vK (M:=M) (now:=now) ds (by omega) ds [] [] [] none rfl (fun q=>by simp) (by simp) hf
 have e:gR (gNl 4) (aW (sIf (D3.dG (aM (dCall cY (aj (dOp gIx (aD 0) (aD 4)) (aj (aD 1) (aj (aD 2) (aJ))))))) (bO (dTup (aj (dC (.str "stay")) (aj (eE (aD 4)) (aJ))))) (bI)) (aW (sIf (D3.mW (aM (dUn mq (dOp gIx (dOp gIx (aD 0) (aD 4)) (dC (.int 2))))) (aM (dOp gIn (dOp gIx (dOp gIx (aD 0) (aD 4)) (dC (.int 2))) (aD 3)))) (bO (dTup (aj (dC (.str "taken")) (aj (eE (dOp gIx (dOp gIx (aD 0) (aD 4)) (dC (.int 2)))) (aJ))))) (bI)) (Fi 3 (dOp gIx (dOp gIx (aD 0) (aD 4)) (dC (.int 2)))))) ((mJ 0 ds.length).map fun k:Nat=>PyData.int (k:Int)) [some (.d (.list ds)),some (.d (.int (M:Int))),some (.d (.int now)),some (.d (.list [])),none,none]=some (ckL (chk M now ds 0 []) [some (.d (.list ds)),some (.d (.int (M:Int))),some (.d (.int now)),u3,u4,none]):=e
 have rg:vm (some [.int (ds.length:Int)])=some ((mJ 0 ds.length).map fun k:Nat=>PyData.int (k:Int)):=by
  rw [JT (by omega) (by omega)]
  unfold jK
  congr 1
  rw [show ((ds.length:Int) - 0).toNat=ds.length by omega,List.range_eq_range']
  exact jl fun k _=>by rw [Int.zero_add]
 unfold Ae
 cases hc:chk M now ds 0 [] with
 | stay j =>
  rw [hc] at e
  refine ⟨_,_,⟨rfl,rfl⟩,?_⟩
  unfold iD
  simp only [EV,reduceIte,aq,au,ak,ao,aA,aB,aC,rg,fG]
  rw [e]
  rfl
 | taken r =>
  rw [hc] at e
  refine ⟨_,_,⟨rfl,rfl⟩,?_⟩
  unfold iD
  simp only [EV,reduceIte,aq,au,ak,ao,aA,aB,aC,rg,fG]
  rw [e]
  rfl
 | ok =>
  rw [hc] at e
  obtain ⟨L,eL,ok⟩:=Tq hl hc
  have fu:=Wd (L:=L) (M:=M) (now:=now) (by have:=ok.len;omega)
  rw [← eL] at fu
  have fu:cN [.list ds,.int (M:Int),.int now]=some (outI (fN L M now)):=fu
  cases hN:fN L M now with
  | some x =>
   rw [hN] at fu
   have fu:cN [.list ds,.int (M:Int),.int now]=some (.int x):=fu
   have nn:isNone (.int x)=false:=rfl
   refine ⟨"full", x,⟨L,eL,ok,by rw [hN];exact ⟨rfl,rfl⟩⟩,?_⟩
   unfold iD
   simp only [EV,reduceIte,aq,au,ak,ao,aA,aB,aC,rg,fG]
   rw [e]
   unfold ckL
   simp only [EV,reduceIte,aq,au,ak,ao,aA,aB,aC,fu,nn,fli,zl2]
  | none =>
   rw [hN] at fu
   have fu:cN [.list ds,.int (M:Int),.int now]=some .none:=fu
   have nn:isNone .none=true:=rfl
   refine ⟨"told", 0,⟨L,eL,ok,by rw [hN];exact ⟨rfl,rfl⟩⟩,?_⟩
   unfold iD
   simp only [EV,reduceIte,aq,au,ak,ao,aA,aB,aC,rg,fG]
   rw [e]
   unfold ckL
   simp only [EV,reduceIte,aq,au,ak,ao,aA,aB,aC,fu,nn,fli,zl2]
section
variable {f:FX} {cs:List Str} {fS:Str→D→FS} {δ δ':DS} {i:Nat} {cn:Str} {d r:D}
theorem En {p q:Nat} {b:FS} {ds:List D} (hl:ds.length=p) (e:b (ds.map (fun d=>some (.d d))++aK q none)=some (.rt r)):fnD p q b ds=some r:=by
 unfold fnD
 rw [if_pos hl,e]
theorem PJ {f g:FS} (h:f δ=some (.rt r)):aW f g δ=some (.rt r):=by
 unfold aW
 rw [h]
 rfl
theorem PK {f g:FS} (h:f δ=some (.nx δ')):aW f g δ=g δ':=by
 unfold aW
 rw [h]
 rfl
theorem PN (h:f δ=some (.o (.nx δ'))):wX i f cs fS δ=some (.nx δ'):=by unfold wX;rw [h];rfl
theorem PX (h:f δ=some (.ex cn d)) (hc:cn ∈ cs) (hf:flat d=true) (hs:fS cn d (δ.set i none)=some (.rt r)):wX i f cs fS δ=some (.rt r):=by
 unfold wX
 rw [h,aH]
 dsimp only
 rw [if_pos ⟨hc,hf⟩,hs]
 rfl
end
section
variable {L:List Ty} {M:Nat} {now:Int}
theorem Tv (ok:TO0 L M now) (hM:M ≤ 12) (hx:d9 [.list (L.map yD),.int (M:Int),.int now]=some (.o (.rt .none))):match fN L M now with
 | some x=>eY [.list (L.map yD),.int (M:Int),.int now]=some (.ex "TooFull" (.int x))
 | none=>∃ d,eY [.list (L.map yD),.int (M:Int),.int now]=some (.o (.rt d)):=by
 have l24:=ok.len
 have xf:=Tp (L:=L) (M:=M) (now:=now) l24
 have a1:(aj (aD 0) (aj (aD 1) (aj (aD 2) (aJ)))) [some (.d (.list (L.map yD))),some (.d (.int (M:Int))),some (.d (.int now))]=some [.list (L.map yD),.int (M:Int),.int now]:=rfl
 cases h:fN L M now with
 | some x =>
  rw [h] at xf
  show eY _=_
  unfold eY
  exact tZ rfl ((kE (vH a1 hx)).trans (vD (vG a1 xf)))
 | none =>
  rw [h] at xf
  show ∃ d,eY _=_
  obtain ⟨f,ef,hf⟩:=Cy ok hM
  obtain ⟨seat,es,s1,s2,s3⟩:=Ac ok hM (Oe h) hf
  have C:∀ δ0,fK (gNl 0) (D3.jA) (eE (dOp gIx (aD 0) (dC (.int 2)))) (jH 1 [] δ0) (L.map yD)=some ((aN L.length).map fun k=>hD (hk L k)):=fun δ0=>by
   rw [pI]
   exact yM (fun k=>yD (tAt L k)) (fun k=>hD (hk L k)) (aN L.length) fun k _=>⟨[some (.d (yD (tAt L k)))],rfl,rfl,by
    have fl:flat (hD (tAt L k).2.2)=true:=by cases (tAt L k).2.2 <;> rfl
    unfold yD hk
    simp only [EV,reduceIte,aq,au,ak,ao,aA,aB,aC,at2,fl]⟩
  have len:(L.map yD).length ≤ 100000:=by rw [aL];omega
  refine ⟨.list ((aN L.length).map (fun p=>hD (seat p))),?_⟩
  unfold eY
  refine Kg rfl ((kE (vH a1 hx)).trans ((kE (vH a1 xf)).trans (k_ ?_)))
  simp only [EV,reduceIte,aq,au,ak,ao,aA,aB,aC,len,C,ef,es]
theorem Ol (ok:TO0 L M now) (hx:d9 [.list (L.map yD),.int (M:Int),.int now]=some (.o (.rt .none))):∃ d,fU [.list (L.map yD),.int (M:Int),.int now,.list (aK L.length (.int 0))]=some (.o (.rt d)):=by
 obtain ⟨b,e⟩:=Tt ok.len hx
 exact ⟨_,e⟩
end
section
variable {M:Nat} {now:Int} {ds:List D} {w:Str} {v:Int}
theorem Eo (j:Int) (a b c e x:Option U):((fun c d=>if c = "NoStay" then aW (bJ 5 (d_ (aj (dC (.bool true)) (aj (dC (.bool false)) (aj (dC (.bool false)) (aJ)))))) (aW (sIf (D3.tOr (D3.dG (fun _=>some true)) (aM (dOp gNe (dOp gU (aD 5) (dC (.bool true))) (dC (.int 1))))) (bO (dTup (aj (dC (.str "odd")) (aj (dC (.int 0)) (aJ))))) (bI)) (aW (sIf (aM (dOp gIx (aD 5) (dC (.int 0)))) (bO (dTup (aj (dC (.str "stay")) (aj (dC d) (aJ))))) (bI)) (aW (sIf (aM (dOp gIx (aD 5) (dC (.int 1)))) ((fun _=>none)) (bI)) ((fun _=>none))))) else if c = "Taken" then aW (bJ 5 (d_ (aj (dC (.bool false)) (aj (dC (.bool true)) (aj (dC (.bool false)) (aJ)))))) (aW (sIf (D3.tOr (D3.dG (fun _=>some true)) (aM (dOp gNe (dOp gU (aD 5) (dC (.bool true))) (dC (.int 1))))) (bO (dTup (aj (dC (.str "odd")) (aj (dC (.int 0)) (aJ))))) (bI)) (aW (sIf (aM (dOp gIx (aD 5) (dC (.int 0)))) ((fun _=>none)) (bI)) (aW (sIf (aM (dOp gIx (aD 5) (dC (.int 1)))) (bO (dTup (aj (dC (.str "taken")) (aj (dC d) (aJ))))) (bI)) ((fun _=>none))))) else if c = "TooFull" then aW (bJ 5 (d_ (aj (dC (.bool false)) (aj (dC (.bool false)) (aj (dC (.bool true)) (aJ)))))) (aW (sIf (D3.tOr (D3.dG (fun _=>some true)) (aM (dOp gNe (dOp gU (aD 5) (dC (.bool true))) (dC (.int 1))))) (bO (dTup (aj (dC (.str "odd")) (aj (dC (.int 0)) (aJ))))) (bI)) (aW (sIf (aM (dOp gIx (aD 5) (dC (.int 0)))) ((fun _=>none)) (bI)) (aW (sIf (aM (dOp gIx (aD 5) (dC (.int 1)))) ((fun _=>none)) (bI)) (bO (dTup (aj (dC (.str "full")) (aj (dC d) (aJ)))))))) else (fun _=>none)):Str→D→FS) "NoStay" (.int j) [a,b,c,e,none,x]=some (.rt (.tuple [.str "stay", .int j])):=by
 have gc:gU (.list [.bool true,.bool false,.bool false]) (.bool true)=some (.int 1):=rfl
 have gn:gNe (.int 1) (.int 1)=some (.bool false):=rfl
 show (if _ then _ else _:FS) _=_
 rw [if_pos rfl]
 simp only [EV,reduceIte,aq,au,ak,ao,aA,aB,aC,gc,gn,at0,at1,at2,zl3,zl2]
theorem Af (j:Int) (a b c e x:Option U):((fun c d=>if c = "NoStay" then aW (bJ 5 (d_ (aj (dC (.bool true)) (aj (dC (.bool false)) (aj (dC (.bool false)) (aJ)))))) (aW (sIf (D3.tOr (D3.dG (fun _=>some true)) (aM (dOp gNe (dOp gU (aD 5) (dC (.bool true))) (dC (.int 1))))) (bO (dTup (aj (dC (.str "odd")) (aj (dC (.int 0)) (aJ))))) (bI)) (aW (sIf (aM (dOp gIx (aD 5) (dC (.int 0)))) (bO (dTup (aj (dC (.str "stay")) (aj (dC d) (aJ))))) (bI)) (aW (sIf (aM (dOp gIx (aD 5) (dC (.int 1)))) ((fun _=>none)) (bI)) ((fun _=>none))))) else if c = "Taken" then aW (bJ 5 (d_ (aj (dC (.bool false)) (aj (dC (.bool true)) (aj (dC (.bool false)) (aJ)))))) (aW (sIf (D3.tOr (D3.dG (fun _=>some true)) (aM (dOp gNe (dOp gU (aD 5) (dC (.bool true))) (dC (.int 1))))) (bO (dTup (aj (dC (.str "odd")) (aj (dC (.int 0)) (aJ))))) (bI)) (aW (sIf (aM (dOp gIx (aD 5) (dC (.int 0)))) ((fun _=>none)) (bI)) (aW (sIf (aM (dOp gIx (aD 5) (dC (.int 1)))) (bO (dTup (aj (dC (.str "taken")) (aj (dC d) (aJ))))) (bI)) ((fun _=>none))))) else if c = "TooFull" then aW (bJ 5 (d_ (aj (dC (.bool false)) (aj (dC (.bool false)) (aj (dC (.bool true)) (aJ)))))) (aW (sIf (D3.tOr (D3.dG (fun _=>some true)) (aM (dOp gNe (dOp gU (aD 5) (dC (.bool true))) (dC (.int 1))))) (bO (dTup (aj (dC (.str "odd")) (aj (dC (.int 0)) (aJ))))) (bI)) (aW (sIf (aM (dOp gIx (aD 5) (dC (.int 0)))) ((fun _=>none)) (bI)) (aW (sIf (aM (dOp gIx (aD 5) (dC (.int 1)))) ((fun _=>none)) (bI)) (bO (dTup (aj (dC (.str "full")) (aj (dC d) (aJ)))))))) else (fun _=>none)):Str→D→FS) "Taken" (.int j) [a,b,c,e,none,x]=some (.rt (.tuple [.str "taken", .int j])):=by
 have gc:gU (.list [.bool false,.bool true,.bool false]) (.bool true)=some (.int 1):=rfl
 have gn:gNe (.int 1) (.int 1)=some (.bool false):=rfl
 show (if _ then _ else _:FS) _=_
 rw [if_neg (by decide),if_pos rfl]
 simp only [EV,reduceIte,aq,au,ak,ao,aA,aB,aC,gc,gn,at0,at1,at2,zl3,zl2]
theorem Om (j:Int) (a b c e x:Option U):((fun c d=>if c = "NoStay" then aW (bJ 5 (d_ (aj (dC (.bool true)) (aj (dC (.bool false)) (aj (dC (.bool false)) (aJ)))))) (aW (sIf (D3.tOr (D3.dG (fun _=>some true)) (aM (dOp gNe (dOp gU (aD 5) (dC (.bool true))) (dC (.int 1))))) (bO (dTup (aj (dC (.str "odd")) (aj (dC (.int 0)) (aJ))))) (bI)) (aW (sIf (aM (dOp gIx (aD 5) (dC (.int 0)))) (bO (dTup (aj (dC (.str "stay")) (aj (dC d) (aJ))))) (bI)) (aW (sIf (aM (dOp gIx (aD 5) (dC (.int 1)))) ((fun _=>none)) (bI)) ((fun _=>none))))) else if c = "Taken" then aW (bJ 5 (d_ (aj (dC (.bool false)) (aj (dC (.bool true)) (aj (dC (.bool false)) (aJ)))))) (aW (sIf (D3.tOr (D3.dG (fun _=>some true)) (aM (dOp gNe (dOp gU (aD 5) (dC (.bool true))) (dC (.int 1))))) (bO (dTup (aj (dC (.str "odd")) (aj (dC (.int 0)) (aJ))))) (bI)) (aW (sIf (aM (dOp gIx (aD 5) (dC (.int 0)))) ((fun _=>none)) (bI)) (aW (sIf (aM (dOp gIx (aD 5) (dC (.int 1)))) (bO (dTup (aj (dC (.str "taken")) (aj (dC d) (aJ))))) (bI)) ((fun _=>none))))) else if c = "TooFull" then aW (bJ 5 (d_ (aj (dC (.bool false)) (aj (dC (.bool false)) (aj (dC (.bool true)) (aJ)))))) (aW (sIf (D3.tOr (D3.dG (fun _=>some true)) (aM (dOp gNe (dOp gU (aD 5) (dC (.bool true))) (dC (.int 1))))) (bO (dTup (aj (dC (.str "odd")) (aj (dC (.int 0)) (aJ))))) (bI)) (aW (sIf (aM (dOp gIx (aD 5) (dC (.int 0)))) ((fun _=>none)) (bI)) (aW (sIf (aM (dOp gIx (aD 5) (dC (.int 1)))) ((fun _=>none)) (bI)) (bO (dTup (aj (dC (.str "full")) (aj (dC d) (aJ)))))))) else (fun _=>none)):Str→D→FS) "TooFull" (.int j) [a,b,c,e,none,x]=some (.rt (.tuple [.str "full", .int j])):=by
 have gc:gU (.list [.bool false,.bool false,.bool true]) (.bool true)=some (.int 1):=rfl
 have gn:gNe (.int 1) (.int 1)=some (.bool false):=rfl
 show (if _ then _ else _:FS) _=_
 rw [if_neg (by decide),if_neg (by decide),if_pos rfl]
 simp only [EV,reduceIte,aq,au,ak,ao,aA,aB,aC,gc,gn,at0,at1,at2,zl3,zl2]
theorem Oo (hM:M ≤ 12) (hl:ds.length ≤ 24) (hf:∀ d ∈ ds,fine d=true) (hd:Ae M now ds w v):cI [.int 0,.list ds,.int (M:Int),.int now]=some (.tuple [.str w,.int v]):=by
 have xc:=El (M:=M) (now:=now) hl hf
 have a1:∀ a b c e x y,(aj (aD 1) (aj (aD 2) (aj (aD 3) (aJ)))) [a,some (.d b),some (.d c),some (.d e),x,y]=some [b,c,e]:=fun _ _ _ _ _ _=>rfl
 have a0:(aj (aD 0) (aj (aD 1) (aj (aD 2) (aJ)))) [some (.d (.list ds)),some (.d (.int (M:Int))),some (.d (.int now))]=some [.list ds,.int (M:Int),.int now]:=rfl
 have t0:(aM (dOp gEq (aD 0) (dC (.int 0)))) [some (.d (.int 0)),some (.d (.list ds)),some (.d (.int (M:Int))),some (.d (.int now)),none,none]=some true:=by
  have:gEq (.int 0) (.int 0)=some (.bool true):=rfl
  simp only [EV,reduceIte,aq,au,ak,ao,aA,aB,aC,this]
 have ex:∀ c j r,eY [.list ds,.int (M:Int),.int now]=some (.ex c (.int j))→c ∈ (["NoStay", "Taken", "TooFull"]:List Str)→((fun c d=>if c = "NoStay" then aW (bJ 5 (d_ (aj (dC (.bool true)) (aj (dC (.bool false)) (aj (dC (.bool false)) (aJ)))))) (aW (sIf (D3.tOr (D3.dG (fun _=>some true)) (aM (dOp gNe (dOp gU (aD 5) (dC (.bool true))) (dC (.int 1))))) (bO (dTup (aj (dC (.str "odd")) (aj (dC (.int 0)) (aJ))))) (bI)) (aW (sIf (aM (dOp gIx (aD 5) (dC (.int 0)))) (bO (dTup (aj (dC (.str "stay")) (aj (dC d) (aJ))))) (bI)) (aW (sIf (aM (dOp gIx (aD 5) (dC (.int 1)))) ((fun _=>none)) (bI)) ((fun _=>none))))) else if c = "Taken" then aW (bJ 5 (d_ (aj (dC (.bool false)) (aj (dC (.bool true)) (aj (dC (.bool false)) (aJ)))))) (aW (sIf (D3.tOr (D3.dG (fun _=>some true)) (aM (dOp gNe (dOp gU (aD 5) (dC (.bool true))) (dC (.int 1))))) (bO (dTup (aj (dC (.str "odd")) (aj (dC (.int 0)) (aJ))))) (bI)) (aW (sIf (aM (dOp gIx (aD 5) (dC (.int 0)))) ((fun _=>none)) (bI)) (aW (sIf (aM (dOp gIx (aD 5) (dC (.int 1)))) (bO (dTup (aj (dC (.str "taken")) (aj (dC d) (aJ))))) (bI)) ((fun _=>none))))) else if c = "TooFull" then aW (bJ 5 (d_ (aj (dC (.bool false)) (aj (dC (.bool false)) (aj (dC (.bool true)) (aJ)))))) (aW (sIf (D3.tOr (D3.dG (fun _=>some true)) (aM (dOp gNe (dOp gU (aD 5) (dC (.bool true))) (dC (.int 1))))) (bO (dTup (aj (dC (.str "odd")) (aj (dC (.int 0)) (aJ))))) (bI)) (aW (sIf (aM (dOp gIx (aD 5) (dC (.int 0)))) ((fun _=>none)) (bI)) (aW (sIf (aM (dOp gIx (aD 5) (dC (.int 1)))) ((fun _=>none)) (bI)) (bO (dTup (aj (dC (.str "full")) (aj (dC d) (aJ)))))))) else (fun _=>none)):Str→D→FS) c (.int j) [some (.d (.int 0)),some (.d (.list ds)),some (.d (.int (M:Int))),some (.d (.int now)),none,none]=some (.rt r)→cI [.int 0,.list ds,.int (M:Int),.int now]=some r:=fun c j r hx hc hs=>by
  have tr:=PX (i:=4) (f:=(xIf (aM (dOp gEq (aD 0) (dC (.int 0)))) (jM eY [] (aj (aD 1) (aj (aD 2) (aj (aD 3) (aJ))))) (jM fU [] (aj (aD 1) (aj (aD 2) (aj (aD 3) (aj (iT (lB (aD 1)) (gNl 0) (D3.jA) (dC (.int 0)) 1 []) (aJ)))))))) (cs:=["NoStay", "Taken", "TooFull"]) (fS:=((fun c d=>if c = "NoStay" then aW (bJ 5 (d_ (aj (dC (.bool true)) (aj (dC (.bool false)) (aj (dC (.bool false)) (aJ)))))) (aW (sIf (D3.tOr (D3.dG (fun _=>some true)) (aM (dOp gNe (dOp gU (aD 5) (dC (.bool true))) (dC (.int 1))))) (bO (dTup (aj (dC (.str "odd")) (aj (dC (.int 0)) (aJ))))) (bI)) (aW (sIf (aM (dOp gIx (aD 5) (dC (.int 0)))) (bO (dTup (aj (dC (.str "stay")) (aj (dC d) (aJ))))) (bI)) (aW (sIf (aM (dOp gIx (aD 5) (dC (.int 1)))) ((fun _=>none)) (bI)) ((fun _=>none))))) else if c = "Taken" then aW (bJ 5 (d_ (aj (dC (.bool false)) (aj (dC (.bool true)) (aj (dC (.bool false)) (aJ)))))) (aW (sIf (D3.tOr (D3.dG (fun _=>some true)) (aM (dOp gNe (dOp gU (aD 5) (dC (.bool true))) (dC (.int 1))))) (bO (dTup (aj (dC (.str "odd")) (aj (dC (.int 0)) (aJ))))) (bI)) (aW (sIf (aM (dOp gIx (aD 5) (dC (.int 0)))) ((fun _=>none)) (bI)) (aW (sIf (aM (dOp gIx (aD 5) (dC (.int 1)))) (bO (dTup (aj (dC (.str "taken")) (aj (dC d) (aJ))))) (bI)) ((fun _=>none))))) else if c = "TooFull" then aW (bJ 5 (d_ (aj (dC (.bool false)) (aj (dC (.bool false)) (aj (dC (.bool true)) (aJ)))))) (aW (sIf (D3.tOr (D3.dG (fun _=>some true)) (aM (dOp gNe (dOp gU (aD 5) (dC (.bool true))) (dC (.int 1))))) (bO (dTup (aj (dC (.str "odd")) (aj (dC (.int 0)) (aJ))))) (bI)) (aW (sIf (aM (dOp gIx (aD 5) (dC (.int 0)))) ((fun _=>none)) (bI)) (aW (sIf (aM (dOp gIx (aD 5) (dC (.int 1)))) ((fun _=>none)) (bI)) (bO (dTup (aj (dC (.str "full")) (aj (dC d) (aJ)))))))) else (fun _=>none)):Str→D→FS)) (δ:=[some (.d (.int 0)),some (.d (.list ds)),some (.d (.int (M:Int))),some (.d (.int now)),none,none]) ((Kf t0).trans (vG (a1 _ _ _ _ _ _) hx)) hc rfl hs
  unfold cI
  exact En rfl (PJ tr)
 have okk:∀ d,eY [.list ds,.int (M:Int),.int now]=some (.o (.rt d))→cI [.int 0,.list ds,.int (M:Int),.int now]=some (.tuple [.str "told", .int 0]):=fun d hx=>by
  have tr:=PN (i:=4) (f:=(xIf (aM (dOp gEq (aD 0) (dC (.int 0)))) (jM eY [] (aj (aD 1) (aj (aD 2) (aj (aD 3) (aJ))))) (jM fU [] (aj (aD 1) (aj (aD 2) (aj (aD 3) (aj (iT (lB (aD 1)) (gNl 0) (D3.jA) (dC (.int 0)) 1 []) (aJ)))))))) (cs:=["NoStay", "Taken", "TooFull"]) (fS:=((fun c d=>if c = "NoStay" then aW (bJ 5 (d_ (aj (dC (.bool true)) (aj (dC (.bool false)) (aj (dC (.bool false)) (aJ)))))) (aW (sIf (D3.tOr (D3.dG (fun _=>some true)) (aM (dOp gNe (dOp gU (aD 5) (dC (.bool true))) (dC (.int 1))))) (bO (dTup (aj (dC (.str "odd")) (aj (dC (.int 0)) (aJ))))) (bI)) (aW (sIf (aM (dOp gIx (aD 5) (dC (.int 0)))) (bO (dTup (aj (dC (.str "stay")) (aj (dC d) (aJ))))) (bI)) (aW (sIf (aM (dOp gIx (aD 5) (dC (.int 1)))) ((fun _=>none)) (bI)) ((fun _=>none))))) else if c = "Taken" then aW (bJ 5 (d_ (aj (dC (.bool false)) (aj (dC (.bool true)) (aj (dC (.bool false)) (aJ)))))) (aW (sIf (D3.tOr (D3.dG (fun _=>some true)) (aM (dOp gNe (dOp gU (aD 5) (dC (.bool true))) (dC (.int 1))))) (bO (dTup (aj (dC (.str "odd")) (aj (dC (.int 0)) (aJ))))) (bI)) (aW (sIf (aM (dOp gIx (aD 5) (dC (.int 0)))) ((fun _=>none)) (bI)) (aW (sIf (aM (dOp gIx (aD 5) (dC (.int 1)))) (bO (dTup (aj (dC (.str "taken")) (aj (dC d) (aJ))))) (bI)) ((fun _=>none))))) else if c = "TooFull" then aW (bJ 5 (d_ (aj (dC (.bool false)) (aj (dC (.bool false)) (aj (dC (.bool true)) (aJ)))))) (aW (sIf (D3.tOr (D3.dG (fun _=>some true)) (aM (dOp gNe (dOp gU (aD 5) (dC (.bool true))) (dC (.int 1))))) (bO (dTup (aj (dC (.str "odd")) (aj (dC (.int 0)) (aJ))))) (bI)) (aW (sIf (aM (dOp gIx (aD 5) (dC (.int 0)))) ((fun _=>none)) (bI)) (aW (sIf (aM (dOp gIx (aD 5) (dC (.int 1)))) ((fun _=>none)) (bI)) (bO (dTup (aj (dC (.str "full")) (aj (dC d) (aJ)))))))) else (fun _=>none)):Str→D→FS)) (δ:=[some (.d (.int 0)),some (.d (.list ds)),some (.d (.int (M:Int))),some (.d (.int now)),none,none]) ((Kf t0).trans (vH (a1 _ _ _ _ _ _) hx))
  unfold cI
  refine En rfl ((PK tr).trans ?_)
  simp only [EV,reduceIte,aq,au,ak,ao,aA,aB,aC,zl2]
 unfold Ae at hd
 cases hc:chk M now ds 0 [] with
 | stay j =>
  rw [hc] at hd xc
  obtain ⟨rfl,rfl⟩:=hd
  refine ex "NoStay" (j:Int) _ ?_ (by decide) (Eo _ _ _ _ _ _)
  unfold eY
  exact tZ rfl (vD (vG a0 xc))
 | taken r =>
  rw [hc] at hd xc
  obtain ⟨rfl,rfl⟩:=hd
  refine ex "Taken" (r:Int) _ ?_ (by decide) (Af _ _ _ _ _ _)
  unfold eY
  exact tZ rfl (vD (vG a0 xc))
 | ok =>
  rw [hc] at hd xc
  obtain ⟨L,rfl,ok,hd⟩:=hd
  have xs:=Tv ok hM xc
  cases hN:fN L M now with
  | some x =>
   rw [hN] at hd xs
   obtain ⟨rfl,rfl⟩:=hd
   exact ex "TooFull" v _ xs (by decide) (Om _ _ _ _ _ _)
  | none =>
   rw [hN] at hd xs
   obtain ⟨rfl,rfl⟩:=hd
   obtain ⟨d,xs⟩:=xs
   exact okk d xs
def noF (w:Str) (v:Int):D:=if w = "full" then .tuple [.str "told", .int 0] else .tuple [.str w,.int v]
theorem Oq (hl:ds.length ≤ 24) (hf:∀ d ∈ ds,fine d=true) (hd:Ae M now ds w v):cI [.int 1,.list ds,.int (M:Int),.int now]=some (noF w v):=by
 have xc:=El (M:=M) (now:=now) hl hf
 have C:∀ δ0,fK (gNl 0) (D3.jA) (dC (.int 0)) (jH 1 [] δ0) ds=some (ds.map fun _=>PyData.int 0):=fun δ0=>by
  have:=yM (g:=(gNl 0)) (c:=(D3.jA)) (e:=(dC (.int 0))) (δ:=jH 1 [] δ0) (fun d:D=>d) (fun _=>PyData.int 0) ds fun d _=>⟨[some (.d d)],rfl,rfl,rfl⟩
  rw [rA] at this
  exact this
 have rp:(ds.map fun _=>PyData.int 0)=aK ds.length (PyData.int 0):=by
  rw [List.map_const']
 have a1:(aj (aD 1) (aj (aD 2) (aj (aD 3) (aj (iT (lB (aD 1)) (gNl 0) (D3.jA) (dC (.int 0)) 1 []) (aJ))))) [some (.d (.int 1)),some (.d (.list ds)),some (.d (.int (M:Int))),some (.d (.int now)),none,none]=some [.list ds,.int (M:Int),.int now,.list (aK ds.length (PyData.int 0))]:=by
  have len:ds.length ≤ 100000:=by omega
  simp only [EV,reduceIte,aq,au,ak,ao,aA,aB,aC,len,C,rp]
 have a0:∀ z x y,(aj (aD 0) (aj (aD 1) (aj (aD 2) (aJ)))) [some (.d (.list ds)),some (.d (.int (M:Int))),some (.d (.int now)),z,x,y]=some [.list ds,.int (M:Int),.int now]:=fun _ _ _=>rfl
 have t0:(aM (dOp gEq (aD 0) (dC (.int 0)))) [some (.d (.int 1)),some (.d (.list ds)),some (.d (.int (M:Int))),some (.d (.int now)),none,none]=some false:=by
  have:gEq (.int 1) (.int 0)=some (.bool false):=rfl
  simp only [EV,reduceIte,aq,au,ak,ao,aA,aB,aC,this]
 have ex:∀ c j r,fU [.list ds,.int (M:Int),.int now,.list (aK ds.length (PyData.int 0))]=some (.ex c (.int j))→c ∈ (["NoStay", "Taken", "TooFull"]:List Str)→((fun c d=>if c = "NoStay" then aW (bJ 5 (d_ (aj (dC (.bool true)) (aj (dC (.bool false)) (aj (dC (.bool false)) (aJ)))))) (aW (sIf (D3.tOr (D3.dG (fun _=>some true)) (aM (dOp gNe (dOp gU (aD 5) (dC (.bool true))) (dC (.int 1))))) (bO (dTup (aj (dC (.str "odd")) (aj (dC (.int 0)) (aJ))))) (bI)) (aW (sIf (aM (dOp gIx (aD 5) (dC (.int 0)))) (bO (dTup (aj (dC (.str "stay")) (aj (dC d) (aJ))))) (bI)) (aW (sIf (aM (dOp gIx (aD 5) (dC (.int 1)))) ((fun _=>none)) (bI)) ((fun _=>none))))) else if c = "Taken" then aW (bJ 5 (d_ (aj (dC (.bool false)) (aj (dC (.bool true)) (aj (dC (.bool false)) (aJ)))))) (aW (sIf (D3.tOr (D3.dG (fun _=>some true)) (aM (dOp gNe (dOp gU (aD 5) (dC (.bool true))) (dC (.int 1))))) (bO (dTup (aj (dC (.str "odd")) (aj (dC (.int 0)) (aJ))))) (bI)) (aW (sIf (aM (dOp gIx (aD 5) (dC (.int 0)))) ((fun _=>none)) (bI)) (aW (sIf (aM (dOp gIx (aD 5) (dC (.int 1)))) (bO (dTup (aj (dC (.str "taken")) (aj (dC d) (aJ))))) (bI)) ((fun _=>none))))) else if c = "TooFull" then aW (bJ 5 (d_ (aj (dC (.bool false)) (aj (dC (.bool false)) (aj (dC (.bool true)) (aJ)))))) (aW (sIf (D3.tOr (D3.dG (fun _=>some true)) (aM (dOp gNe (dOp gU (aD 5) (dC (.bool true))) (dC (.int 1))))) (bO (dTup (aj (dC (.str "odd")) (aj (dC (.int 0)) (aJ))))) (bI)) (aW (sIf (aM (dOp gIx (aD 5) (dC (.int 0)))) ((fun _=>none)) (bI)) (aW (sIf (aM (dOp gIx (aD 5) (dC (.int 1)))) ((fun _=>none)) (bI)) (bO (dTup (aj (dC (.str "full")) (aj (dC d) (aJ)))))))) else (fun _=>none)):Str→D→FS) c (.int j) [some (.d (.int 1)),some (.d (.list ds)),some (.d (.int (M:Int))),some (.d (.int now)),none,none]=some (.rt r)→cI [.int 1,.list ds,.int (M:Int),.int now]=some r:=fun c j r hx hc hs=>by
  have tr:=PX (i:=4) (f:=(xIf (aM (dOp gEq (aD 0) (dC (.int 0)))) (jM eY [] (aj (aD 1) (aj (aD 2) (aj (aD 3) (aJ))))) (jM fU [] (aj (aD 1) (aj (aD 2) (aj (aD 3) (aj (iT (lB (aD 1)) (gNl 0) (D3.jA) (dC (.int 0)) 1 []) (aJ)))))))) (cs:=["NoStay", "Taken", "TooFull"]) (fS:=((fun c d=>if c = "NoStay" then aW (bJ 5 (d_ (aj (dC (.bool true)) (aj (dC (.bool false)) (aj (dC (.bool false)) (aJ)))))) (aW (sIf (D3.tOr (D3.dG (fun _=>some true)) (aM (dOp gNe (dOp gU (aD 5) (dC (.bool true))) (dC (.int 1))))) (bO (dTup (aj (dC (.str "odd")) (aj (dC (.int 0)) (aJ))))) (bI)) (aW (sIf (aM (dOp gIx (aD 5) (dC (.int 0)))) (bO (dTup (aj (dC (.str "stay")) (aj (dC d) (aJ))))) (bI)) (aW (sIf (aM (dOp gIx (aD 5) (dC (.int 1)))) ((fun _=>none)) (bI)) ((fun _=>none))))) else if c = "Taken" then aW (bJ 5 (d_ (aj (dC (.bool false)) (aj (dC (.bool true)) (aj (dC (.bool false)) (aJ)))))) (aW (sIf (D3.tOr (D3.dG (fun _=>some true)) (aM (dOp gNe (dOp gU (aD 5) (dC (.bool true))) (dC (.int 1))))) (bO (dTup (aj (dC (.str "odd")) (aj (dC (.int 0)) (aJ))))) (bI)) (aW (sIf (aM (dOp gIx (aD 5) (dC (.int 0)))) ((fun _=>none)) (bI)) (aW (sIf (aM (dOp gIx (aD 5) (dC (.int 1)))) (bO (dTup (aj (dC (.str "taken")) (aj (dC d) (aJ))))) (bI)) ((fun _=>none))))) else if c = "TooFull" then aW (bJ 5 (d_ (aj (dC (.bool false)) (aj (dC (.bool false)) (aj (dC (.bool true)) (aJ)))))) (aW (sIf (D3.tOr (D3.dG (fun _=>some true)) (aM (dOp gNe (dOp gU (aD 5) (dC (.bool true))) (dC (.int 1))))) (bO (dTup (aj (dC (.str "odd")) (aj (dC (.int 0)) (aJ))))) (bI)) (aW (sIf (aM (dOp gIx (aD 5) (dC (.int 0)))) ((fun _=>none)) (bI)) (aW (sIf (aM (dOp gIx (aD 5) (dC (.int 1)))) ((fun _=>none)) (bI)) (bO (dTup (aj (dC (.str "full")) (aj (dC d) (aJ)))))))) else (fun _=>none)):Str→D→FS)) (δ:=[some (.d (.int 1)),some (.d (.list ds)),some (.d (.int (M:Int))),some (.d (.int now)),none,none]) ((Ab t0).trans (vG a1 hx)) hc rfl hs
  unfold cI
  exact En rfl (PJ tr)
 have okk:∀ d,fU [.list ds,.int (M:Int),.int now,.list (aK ds.length (PyData.int 0))]=some (.o (.rt d))→cI [.int 1,.list ds,.int (M:Int),.int now]=some (.tuple [.str "told", .int 0]):=fun d hx=>by
  have tr:=PN (i:=4) (f:=(xIf (aM (dOp gEq (aD 0) (dC (.int 0)))) (jM eY [] (aj (aD 1) (aj (aD 2) (aj (aD 3) (aJ))))) (jM fU [] (aj (aD 1) (aj (aD 2) (aj (aD 3) (aj (iT (lB (aD 1)) (gNl 0) (D3.jA) (dC (.int 0)) 1 []) (aJ)))))))) (cs:=["NoStay", "Taken", "TooFull"]) (fS:=((fun c d=>if c = "NoStay" then aW (bJ 5 (d_ (aj (dC (.bool true)) (aj (dC (.bool false)) (aj (dC (.bool false)) (aJ)))))) (aW (sIf (D3.tOr (D3.dG (fun _=>some true)) (aM (dOp gNe (dOp gU (aD 5) (dC (.bool true))) (dC (.int 1))))) (bO (dTup (aj (dC (.str "odd")) (aj (dC (.int 0)) (aJ))))) (bI)) (aW (sIf (aM (dOp gIx (aD 5) (dC (.int 0)))) (bO (dTup (aj (dC (.str "stay")) (aj (dC d) (aJ))))) (bI)) (aW (sIf (aM (dOp gIx (aD 5) (dC (.int 1)))) ((fun _=>none)) (bI)) ((fun _=>none))))) else if c = "Taken" then aW (bJ 5 (d_ (aj (dC (.bool false)) (aj (dC (.bool true)) (aj (dC (.bool false)) (aJ)))))) (aW (sIf (D3.tOr (D3.dG (fun _=>some true)) (aM (dOp gNe (dOp gU (aD 5) (dC (.bool true))) (dC (.int 1))))) (bO (dTup (aj (dC (.str "odd")) (aj (dC (.int 0)) (aJ))))) (bI)) (aW (sIf (aM (dOp gIx (aD 5) (dC (.int 0)))) ((fun _=>none)) (bI)) (aW (sIf (aM (dOp gIx (aD 5) (dC (.int 1)))) (bO (dTup (aj (dC (.str "taken")) (aj (dC d) (aJ))))) (bI)) ((fun _=>none))))) else if c = "TooFull" then aW (bJ 5 (d_ (aj (dC (.bool false)) (aj (dC (.bool false)) (aj (dC (.bool true)) (aJ)))))) (aW (sIf (D3.tOr (D3.dG (fun _=>some true)) (aM (dOp gNe (dOp gU (aD 5) (dC (.bool true))) (dC (.int 1))))) (bO (dTup (aj (dC (.str "odd")) (aj (dC (.int 0)) (aJ))))) (bI)) (aW (sIf (aM (dOp gIx (aD 5) (dC (.int 0)))) ((fun _=>none)) (bI)) (aW (sIf (aM (dOp gIx (aD 5) (dC (.int 1)))) ((fun _=>none)) (bI)) (bO (dTup (aj (dC (.str "full")) (aj (dC d) (aJ)))))))) else (fun _=>none)):Str→D→FS)) (δ:=[some (.d (.int 1)),some (.d (.list ds)),some (.d (.int (M:Int))),some (.d (.int now)),none,none]) ((Ab t0).trans (vH a1 hx))
  unfold cI
  refine En rfl ((PK tr).trans ?_)
  simp only [EV,reduceIte,aq,au,ak,ao,aA,aB,aC,zl2]
 unfold Ae at hd
 unfold noF
 cases hc:chk M now ds 0 [] with
 | stay j =>
  rw [hc] at hd xc
  obtain ⟨rfl,rfl⟩:=hd
  rw [if_neg (by decide)]
  refine ex "NoStay" (j:Int) _ ?_ (by decide) (Eo _ _ _ _ _ _)
  unfold fU
  exact tZ rfl (vD (vG (a0 _ _ _) xc))
 | taken r =>
  rw [hc] at hd xc
  obtain ⟨rfl,rfl⟩:=hd
  rw [if_neg (by decide)]
  refine ex "Taken" (r:Int) _ ?_ (by decide) (Af _ _ _ _ _ _)
  unfold fU
  exact tZ rfl (vD (vG (a0 _ _ _) xc))
 | ok =>
  rw [hc] at hd xc
  obtain ⟨L,rfl,ok,hd⟩:=hd
  obtain ⟨d,xs⟩:=Ol ok xc
  rw [aL] at okk
  have tt:(if w = "full" then PyData.tuple [.str "told", .int 0] else PyData.tuple [.str w,.int v])=PyData.tuple [.str "told", .int 0]:=by
   cases hN:fN L M now with
   | some x =>
    rw [hN] at hd
    obtain ⟨rfl,rfl⟩:=hd
    rfl
   | none =>
    rw [hN] at hd
    obtain ⟨rfl,rfl⟩:=hd
    rfl
  rw [tt]
  exact okk d xs
end
def Sm (d:D):Prop:=d.depth ≤ 50∧noK d=true
theorem CQ {n:Nat}:∀ l:List D,(∀ d ∈ l,d.depth ≤ n)→PyData.depthAll l ≤ n
 | [],_=>by simp [PyData.depthAll]
 | a :: r,h=>by
  have h1:=h a aG
  have h2:=CQ r fun d hd=>h d (aF _ hd)
  simp only [PyData.depthAll]
  omega
theorem Ot {t:D} (hb:zO t=true) (hd:t.depth ≤ 60) (hn:noK t=true):o9 t t=some (.bool true):=by
 cases h:SeqAt.shaped t with
 | false=>exact Ip h hb (by omega) hn
 | true=>exact ur (Com.eq_self ⟨SeqAt.canLay_of_shaped h,hd⟩)
theorem Tw (i:Int):Sm (.int i):=⟨by simp [PyData.depth],rfl⟩
theorem Ou:Sm .none:=⟨by simp [PyData.depth],rfl⟩
theorem Tz (s:Str):Sm (.str s):=⟨by simp [PyData.depth],rfl⟩
theorem Ov:Sm (.dict []):=⟨by simp [PyData.depth,PyData.depthKv],rfl⟩
theorem Kq {ds:List D} (h:∀ d ∈ ds,Sm d):o9 (.list ds) (.list ds)=some (.bool true)∧vf (.list ds) (.list ds)=some (.bool false):=by
 have h1:(PyData.list ds).depth ≤ 60:=by
  have:=CQ (n:=50) ds fun d hd=>(h d hd).1
  simp only [PyData.depth]
  omega
 have h2:noK (.list ds)=true:=by
  rw [noK]
  exact uX _ fun d hd=>(h d hd).2
 refine ⟨Ot rfl h1 h2,?_⟩
 cases hs:SeqAt.shaped (.list ds) with
 | false=>exact Jm hs rfl (by omega) h2
 | true=>exact D_ (Com.ne_self ⟨SeqAt.canLay_of_shaped hs,h1⟩)
theorem CT {l:List D} (h:∀ d ∈ l,d.depth ≤ 40∧noK d=true):Sm (.tuple l):=by
 refine ⟨?_,?_⟩
 ·have:=CQ (n:=40) l fun d hd=>(h d hd).1
  simp only [PyData.depth]
  omega
 ·rw [noK]
  exact uX _ fun d hd=>(h d hd).2
section
variable {M:Nat} {now:Int} {ds:List D} {w:Str} {v:Int}
theorem yS {a b:Str} {c:Bool} (ha:(PyData.str a).canLay0=true) (hb:(PyData.str b).canLay0=true) (hc:PyData.eqv (.str a) (.str b)=c):o9 (.str a) (.str b)=some (.bool c):=by
 refine ur ?_
 unfold gEq
 rw [lQ (Eh (n:=1) ⟨ha,by simp [PyData.depth]⟩ (by decide)),lQ (Eh (n:=1) ⟨hb,by simp [PyData.depth]⟩ (by decide)),hc]
 rfl
theorem Wh (h:Ae M now ds w v):w = "stay" ∨ w = "taken" ∨ w = "full" ∨ w = "told" := by
 unfold Ae at h
 split at h
 ·exact .inl h.1
 ·exact .inr (.inl h.1)
 ·obtain ⟨L,_,_,h⟩:=h
  split at h
  ·exact .inr (.inr (.inl h.1))
  ·exact .inr (.inr (.inr h.1))
theorem pK (hM:M ≤ 12) (hl:ds.length ≤ 24) (hf:∀ d ∈ ds,fine d=true) (hs:∀ d ∈ ds,Sm d):gO [.list ds,.int (M:Int),.int now]=some (.bool true):=by
 obtain ⟨w,v,hd,e⟩:=Kp (M:=M) (now:=now) hl hf
 have c0:=Oo hM hl hf hd
 have c1:=Oq hl hf hd
 obtain ⟨q1,q2⟩:=Kq hs
 have wv:cP [.int v]=some (.bool true):=lwh (.int v)
 have go:∀ w:Str,ly 1 (.str w)→o9 (.tuple [.str w,.int v]) (.tuple [.str w,.int v])=some (.bool true)∧vf (.tuple [.str w,.int v]) (.tuple [.str w,.int v])=some (.bool false):=fun w hw=>by
  have:ly 60 (.tuple [.str w,.int v]):=Eh (J4 (n:=1) (pq hw (pq yO yN))) (by decide)
  exact ⟨ur (Com.eq_self this),D_ (Com.ne_self this)⟩
 have other:∀ w:Str,o9 (.tuple [.str w,.int v]) (.tuple [.str w,.int v])=some (.bool true)∧vf (.tuple [.str w,.int v]) (.tuple [.str w,.int v])=some (.bool false)→o9 (.str w) (.str "full")=some (.bool false)→w ≠ "full" → iD [.list ds,.int (M:Int),.int now]=some (.tuple [.str w,.int v])→cI [.int 0,.list ds,.int (M:Int),.int now]=some (.tuple [.str w,.int v])→cI [.int 1,.list ds,.int (M:Int),.int now]=some (noF w v)→gO [.list ds,.int (M:Int),.int now]=some (.bool true):=fun w ⟨k1,k2⟩ k3 k4 e c0 c1=>by
  unfold noF at c1
  rw [if_neg k4] at c1
  unfold gO
  simp only [EV,reduceIte,aq,au,ak,ao,aA,aB,aC,e,c0,k2,at0,at1,wv,q1,q2,k3,c1,k1]
 rcases Wh hd with rfl | rfl | rfl | rfl
 ·exact other _ (go _ ⟨by rw [PyData.canLay0];decide +kernel,by simp [PyData.depth]⟩) (yS (by rw [PyData.canLay0];decide +kernel) (by rw [PyData.canLay0];decide +kernel) (by decide +kernel)) (by decide) e c0 c1
 ·exact other _ (go _ ⟨by rw [PyData.canLay0];decide +kernel,by simp [PyData.depth]⟩) (yS (by rw [PyData.canLay0];decide +kernel) (by rw [PyData.canLay0];decide +kernel) (by decide +kernel)) (by decide) e c0 c1
 ·obtain ⟨k1,k2⟩:=go "full" ⟨by rw [PyData.canLay0];decide +kernel,by simp [PyData.depth]⟩
  have k3:o9 (.str "full") (.str "full")=some (.bool true):=yS (by rw [PyData.canLay0];decide +kernel) (by rw [PyData.canLay0];decide +kernel) (by decide +kernel)
  have k5:o9 (.tuple [.str "told", .int 0]) (.tuple [.str "told", .int 0])=some (.bool true):=ur (Com.eq_self (Eh (J4 (n:=1) (pq ⟨by rw [PyData.canLay0];decide +kernel,by simp [PyData.depth]⟩ (pq yO yN))) (by decide)))
  have c1:cI [.int 1,.list ds,.int (M:Int),.int now]=some (.tuple [.str "told", .int 0]):=c1
  unfold gO
  simp only [EV,reduceIte,aq,au,ak,ao,aA,aB,aC,e,c0,k2,at0,at1,wv,q1,q2,k3,c1,k5,zl2]
 ·exact other _ (go _ ⟨by rw [PyData.canLay0];decide +kernel,by simp [PyData.depth]⟩) (yS (by rw [PyData.canLay0];decide +kernel) (by rw [PyData.canLay0];decide +kernel) (by decide +kernel)) (by decide) e c0 c1
end
theorem TF {l:List D} {x:Int} (h0:0 ≤ x) (h1:x < l.length):∃ t ∈ l,pAt l x=some t:=by
 obtain ⟨a,h,e⟩:=NT (fun d:D=>d) (l:=l) h0 h1
 rw [rA] at e
 exact ⟨a,h,e⟩
theorem zl6:6 ≤ sizeLine:=Com.sz (by decide)
structure OkT (t:D):Prop where
 fine:fine t=true
 sm:Sm t
 no0:t ≠ .int 0
 ap:(∀ m,apD m t=true)∨(∃ f b,t = .list [.int f,.int b,.none])∨∃ f b,t = .tuple [.int f,.int b,.list [.int 0]]
theorem sm3 {a b c:D} (ha:a.depth ≤ 40∧noK a=true) (hb:b.depth ≤ 40∧noK b=true) (hc:c.depth ≤ 40∧noK c=true):Sm (.tuple [a,b,c]):=CT fun d hd=>by
 rcases aO.mp hd with rfl | hd
 ·exact ha
 ·rcases aO.mp hd with rfl | hd
  ·exact hb
  ·rw [aQ.mp hd];exact hc
theorem pY (i:Int):(PyData.int i).depth ≤ 40∧noK (.int i)=true:=⟨by simp [PyData.depth],rfl⟩
theorem Ep:(PyData.none).depth ≤ 40∧noK .none=true:=⟨by simp [PyData.depth],rfl⟩
theorem Xl (b:Bool):(PyData.bool b).depth ≤ 40∧noK (.bool b)=true:=⟨by simp [PyData.depth],rfl⟩
theorem Wi (x:Str):(PyData.str x).depth ≤ 40∧noK (.str x)=true:=⟨by simp [PyData.depth],rfl⟩
theorem pA {a b c:D} (ha:sca a=true) (hb:sca b=true) (hc:sca c=true):OkT (.tuple [a,b,c]):=by
 have k:∀ d:D,sca d=true→(d.depth ≤ 40∧noK d=true)∧∀ m,apD m d=true:=fun d hd=>by
  cases d with
  | none=>exact ⟨Ep,fun _=>rfl⟩
  | bool b=>exact ⟨Xl b,fun _=>rfl⟩
  | int i=>exact ⟨pY i,fun _=>rfl⟩
  | str x=>exact ⟨Wi x,fun _=>rfl⟩
  | _=>cases hd
 refine ⟨by show (sca a && sca b)=true;rw [ha,hb];rfl,sm3 (k a ha).1 (k b hb).1 (k c hc).1,(by intro z;cases z),.inl fun m=>?_⟩
 show (apD m a && (apD m b && (apD m c && true)))=true
 rw [(k a ha).2,(k b hb).2,(k c hc).2]
 rfl
theorem Kr (ns:List Int) {a now:Int} {M:Nat} (ha:0 ≤ a) (hM:M ≤ 12) (n0:0 ≤ now) (n1:now ≤ 399):∃ t,jG [.list (ns.map .int),.int a,.int (M:Int),.int now]=some t∧OkT t:=by
 have p1:=cJ (ns:=ns) (i:=a) (k:=1) (m:=5) ha (by decide) (by decide) (by decide)
 have p2:=cJ (ns:=ns) (i:=a) (k:=2) (m:=5) ha (by decide) (by decide) (by decide)
 have p3:=cJ (ns:=ns) (i:=a) (k:=3) (m:=(M:Int) + 1) ha (by decide) (by decide) (by omega)
 have p0:=cJ (ns:=ns) (i:=a) (k:=0) (m:=25) ha (by decide) (by decide) (by decide)
 have r1:=cD ns a 1 (m:=5) (by decide)
 have r2:=cD ns a 2 (m:=5) (by decide)
 have r0:=cD ns a 0 (m:=25) (by decide)
 generalize fM ns a 1 5=x1 at *
 generalize fM ns a 2 5=x2 at *
 generalize fM ns a 3 ((M:Int) + 1)=x3 at *
 generalize fM ns a 0 25=x0 at *
 obtain ⟨f,hf⟩:∃ f,(if now + x1 < 399 then now + x1 else 399)=f:=⟨_,rfl⟩
 obtain ⟨b,hb⟩:∃ b,(if f + 1 + x2 < 400 then f + 1 + x2 else 400)=b:=⟨_,rfl⟩
 have bb:0 ≤ b∧b ≤ 400:=by
  rw [← hb,← hf]
  (repeat' split) <;> omega
 obtain ⟨c1,hc1⟩:∃ c,(if now + 1 < 399 then now + 1 else 399)=c:=⟨_,rfl⟩
 obtain ⟨c2,hc2⟩:∃ c,(if now - 3 > 0 then now - 3 else 0)=c:=⟨_,rfl⟩
 obtain ⟨c3,hc3⟩:∃ c,(if now > 1 then now else 1)=c:=⟨_,rfl⟩
 obtain ⟨c4,hc4⟩:∃ c,(if now - 1 > 0 then now - 1 else 0)=c:=⟨_,rfl⟩
 obtain ⟨c5,hc5⟩:∃ c,(if now - 2 > 0 then now - 2 else 0)=c:=⟨_,rfl⟩
 have gs:Mv [.int b]=some (.str (Str.ofString (toString b))):=by
  have:b.natAbs.log2 < 1920:=qb (Nat.log2_le_self _) (by omega)
  show (if b.natAbs.log2 < 1920 then some (PyData.str (Str.ofString (toString b))) else none)=_
  rw [if_pos this]
 obtain ⟨sb,hsb⟩:∃ sb,Str.ofString (toString b)=sb:=⟨_,rfl⟩
 rw [hsb] at gs
 let l:List D:=[.none,.tuple [.int f,.int b],.list [.int f,.int b,.none],.tuple [.int b,.int f,.none],.tuple [.int f,.int f,.none],.tuple [.int (-1),.int b,.none],.tuple [.int f,.int 401,.none],.tuple [.bool true,.int b,.none],.tuple [.int f,.str sb,.none],.int 3,
  .tuple [.int f,.int b,.bool true],.tuple [.int f,.int b,.bool false],.tuple [.int f,.int b,.int (M:Int)],.tuple [.int f,.int b,.int (-1)],.tuple [.int f,.int b,.str "0"],.tuple [.int f,.int b,.list [.int 0]],.str "", .dict [],
  .tuple [.int c1,.int 400,.int x3],.tuple [.int c2,.int c3,.int x3],.tuple [.int c4,.int 400,.none],.tuple [.int c5,.int 400,.int x3],.tuple [.int now,.int 400,.int x3],.tuple [.int now,.int 400,.int x3],.tuple [.int f,.int b,.none,.none]]
 have all:∀ t ∈ l,OkT t:=by
  have ta:∀ i,sca (.int i)=true:=fun _=>rfl
  have tn:sca .none=true:=rfl
  have tb:∀ i,sca (.bool i)=true:=fun _=>rfl
  have ts:∀ i,sca (.str i)=true:=fun _=>rfl
  refine aR.mpr ⟨⟨rfl,Ou,(by intro z;cases z),.inl fun _=>rfl⟩,aR.mpr ⟨⟨rfl,CT fun d hd=>?_,(by intro z;cases z),.inl fun _=>rfl⟩,aR.mpr ⟨⟨rfl,⟨by simp [PyData.depth,PyData.depthAll],rfl⟩,(by intro z;cases z),.inr (.inl ⟨f,b,rfl⟩)⟩,?_⟩⟩⟩
  ·rcases aO.mp hd with rfl | hd
   ·exact pY _
   ·rw [aQ.mp hd];exact pY _
  refine aR.mpr ⟨pA (ta _) (ta _) tn,aR.mpr ⟨pA (ta _) (ta _) tn,aR.mpr ⟨pA (ta _) (ta _) tn,aR.mpr ⟨pA (ta _) (ta _) tn,aR.mpr ⟨pA (tb _) (ta _) tn,aR.mpr ⟨pA (ta _) (ts _) tn,?_⟩⟩⟩⟩⟩⟩
  refine aR.mpr ⟨⟨rfl,Tw _,(by intro z;cases z),.inl fun _=>rfl⟩,aR.mpr ⟨pA (ta _) (ta _) (tb _),aR.mpr ⟨pA (ta _) (ta _) (tb _),aR.mpr ⟨pA (ta _) (ta _) (ta _),aR.mpr ⟨pA (ta _) (ta _) (ta _),aR.mpr ⟨pA (ta _) (ta _) (ts _),?_⟩⟩⟩⟩⟩⟩
  refine aR.mpr ⟨⟨rfl,sm3 (pY _) (pY _) ⟨by simp [PyData.depth,PyData.depthAll],rfl⟩,(by intro z;cases z),.inr (.inr ⟨f,b,rfl⟩)⟩,aR.mpr ⟨⟨rfl,Tz _,(by intro z;cases z),.inl fun _=>rfl⟩,aR.mpr ⟨⟨rfl,Ov,(by intro z;cases z),.inl fun _=>rfl⟩,?_⟩⟩⟩
  refine aR.mpr ⟨pA (ta _) (ta _) (ta _),aR.mpr ⟨pA (ta _) (ta _) (ta _),aR.mpr ⟨pA (ta _) (ta _) tn,aR.mpr ⟨pA (ta _) (ta _) (ta _),aR.mpr ⟨pA (ta _) (ta _) (ta _),aR.mpr ⟨pA (ta _) (ta _) (ta _),aR.mpr ⟨⟨rfl,CT fun d hd=>?_,(by intro z;cases z),.inl fun _=>rfl⟩,kZ _⟩⟩⟩⟩⟩⟩⟩
  rcases aO.mp hd with rfl | hd
  ·exact pY _
  ·rcases aO.mp hd with rfl | hd
   ·exact pY _
   ·rcases aO.mp hd with rfl | hd
    ·exact Ep
    ·rw [aQ.mp hd];exact Ep
 obtain ⟨t,ht,et⟩:=TF (l:=l) r0.1 (by show x0 < (25:Int);exact r0.2)
 refine ⟨t,?_,all t ht⟩
 have et:pAt ([.none,.tuple [.int f,.int b],.list [.int f,.int b,.none],.tuple [.int b,.int f,.none],.tuple [.int f,.int f,.none],.tuple [.int (-1),.int b,.none],.tuple [.int f,.int 401,.none],.tuple [.bool true,.int b,.none],.tuple [.int f,.str sb,.none],.int 3,
  .tuple [.int f,.int b,.bool true],.tuple [.int f,.int b,.bool false],.tuple [.int f,.int b,.int (M:Int)],.tuple [.int f,.int b,.int (-1)],.tuple [.int f,.int b,.str "0"],.tuple [.int f,.int b,.list [.int 0]],.str "", .dict [],
  .tuple [.int c1,.int 400,.int x3],.tuple [.int c2,.int c3,.int x3],.tuple [.int c4,.int 400,.none],.tuple [.int c5,.int 400,.int x3],.tuple [.int now,.int 400,.int x3],.tuple [.int now,.int 400,.int x3],.tuple [.int f,.int b,.none,.none]]) x0=some t:=et
 unfold jG
 simp only [EV,reduceIte,aq,au,ak,ao,aA,aB,aC,p1,xM,hf,p2,hb,p3,zl5,zl2,zl3,zl1,zl4,zl6,gs,xO,vh,hc1,hc2,hc3,hc4,hc5,List.cons_append,kJ,bZ,iH,p0,et,wO,sU,ni,nj]
structure PM (ds:List D):Prop where
 t3:ds.length=3→∃ x ∈ ds,isTup x=true
 n0:∀ x ∈ ds,x ≠ .int 0
theorem Ks {a b:D} (ha:isTup a=false) (hb:isTup b=true):unl a b=true:=by
 unfold unl
 rw [ha,hb]
 simp
theorem Wj {t:D} {ds:List D} (ht:OkT t) (hd:PM ds):apD ds t=true:=by
 rcases ht.ap with h | ⟨f,b,rfl⟩ | ⟨f,b,rfl⟩
 ·exact h ds
 ·have:apart [.int f,.int b,.none] ds=true:=by
   unfold apart
   rw [fW]
   by_cases h3:ds.length=3
   ·right
    obtain ⟨x,hx,hx2⟩:=hd.t3 h3
    match ds,h3 with
    | [u,v,w],_ =>
     show (unl (.int f) u || (unl (.int b) v || (unl .none w || false)))=true
     rcases aO.mp hx with rfl | hx
     ·rw [Ks rfl hx2];rfl
     ·rcases aO.mp hx with rfl | hx
      ·rw [Ks rfl hx2];simp
      ·rw [← aQ.mp hx,Ks rfl hx2];simp
   ·left
    exact dTr fun z=>h3 z.symm
  show (apart [.int f,.int b,.none] ds && true)=true
  rw [this]
  rfl
 ·have:apart [.int 0] ds=true:=by
   unfold apart
   rw [fW]
   by_cases h1:ds.length=1
   ·right
    match ds,h1 with
    | [u],_ =>
     have hu:=hd.n0 u aG
     show (unl (.int 0) u || false)=true
     rw [Bool.or_false]
     cases u with
     | int j =>
      have:(0:Int) ≠ j:=fun z=>hu (by rw [z])
      have:Rq (.int 0) (.int j)=true:=dTr this
      unfold unl
      rw [this]
      simp
     | _=>rfl
   ·left
    exact dTr fun z=>h1 z.symm
  show (true && (true && ((apart [.int 0] ds && true) && true)))=true
  rw [this]
  rfl
theorem vL (ns:List Int) {a now:Int} {M:Nat} {ds:List D} (ha:0 ≤ a) (hM:M ≤ 12) (n0:0 ≤ now) (n1:now ≤ 399) (hl:ds.length ≤ 24) (hf:∀ d ∈ ds,fine d=true) (hs:∀ d ∈ ds,Sm d) (hp:PM ds) :
 ∃ ds',iG [.list (ns.map .int),.int a,.list ds,.int (M:Int),.int now]=some (.list ds')∧ds'.length ≤ 24∧(∀ d ∈ ds',fine d=true)∧(∀ d ∈ ds',Sm d)∧((∀ d ∈ ds,isTup d=true)→PM ds'):=by
 have p4:=cJ (ns:=ns) (i:=a) (k:=4) (m:=(ds.length:Int) + 1) ha (by decide) (by decide) (by omega)
 have p5:=cJ (ns:=ns) (i:=a) (k:=5) (m:=2) ha (by decide) (by decide) (by decide)
 have r4:=cD ns a 4 (m:=(ds.length:Int) + 1) (by omega)
 generalize fM ns a 4 ((ds.length:Int) + 1)=p at *
 generalize fM ns a 5 2=x5 at *
 obtain ⟨t,et,ht⟩:=Kr ns (a:=a) (now:=now) (M:=M) ha hM n0 n1
 obtain ⟨q,rfl⟩:∃ q:Nat,p=(q:Int):=⟨p.toNat,by omega⟩
 have kp:Eb [5] [] 7 (dCall jG (aj (aD 0) (aj (aD 1) (aj (aD 3) (aj (aD 4) (aJ)))))) [some (.d (.list (ns.map .int))),some (.d (.int a)),some (.d (.list ds)),some (.d (.int (M:Int))),some (.d (.int now)),some (.d (.list ds)),some (.d (.int (q:Int))),none]=some (.nx [some (.d (.list (ns.map .int))),some (.d (.int a)),some (.d (.list ds)),some (.d (.int (M:Int))),some (.d (.int now)),some (.d (.list ds)),some (.d (.int (q:Int))),some (.d t)]):=by
  refine (if_pos (show 7 < 8 by decide)).trans ?_
  have:(dCall jG (aj (aD 0) (aj (aD 1) (aj (aD 3) (aj (aD 4) (aJ)))))) [some (.d (.list (ns.map .int))),some (.d (.int a)),some (.d (.list ds)),some (.d (.int (M:Int))),some (.d (.int now)),some (.d (.list ds)),some (.d (.int (q:Int))),none]=some t:=by
   simp only [EV,reduceIte,aq,au,ak,ao,aA,aB,aC,et]
  rw [this,aH]
  refine (if_pos ?_).trans rfl
  show ((apD ds t && true) && true)=true
  rw [Wj ht hp]
  rfl
 have gl:rG (.list ds)=some (.list ds):=rfl
 obtain ⟨b5,h5⟩:∃ b,decide (x5=1)=b:=⟨_,rfl⟩
 by_cases c1:(q:Int) < (ds.length:Int)∧x5=1
 ·refine ⟨ds.set q t,?_,by rw [bU];exact hl,fun d hd=>?_,fun d hd=>?_,fun hT=>⟨fun h3=>?_,fun x hx=>?_⟩⟩
  ·have ix:pIx ds.length (q:Int)=some q:=by
    unfold pIx
    rw [if_pos (by omega),if_pos (by omega)]
    rfl
   unfold iG
   simp only [EV,reduceIte,aq,au,ak,ao,aA,aB,aC,gl,p4,kp,dTr c1.1,p5,dTr c1.2,ix,aH,wO,sU,ni,nj]
  ·rcases jj hd with z | rfl
   ·exact hf d z
   ·exact ht.fine
  ·rcases jj hd with z | rfl
   ·exact hs d z
   ·exact ht.sm
  ·rw [bU] at h3
   by_cases hq:q=0
   ·exact ⟨ds[1],j9.mpr ⟨1,by rw [bU];omega,by rw [pN (by omega)]⟩,hT _ (gq _)⟩
   ·exact ⟨ds[0],j9.mpr ⟨0,by rw [bU];omega,by rw [pN (by omega)]⟩,hT _ (gq _)⟩
  ·rcases jj hx with z | rfl
   ·exact hp.n0 x z
   ·exact ht.no0
 ·have c1':(decide ((q:Int) < (ds.length:Int))=true∧decide (x5=1)=false)∨decide ((q:Int) < (ds.length:Int))=false:=by
   by_cases c:(q:Int) < (ds.length:Int)
   ·exact .inl ⟨dTr c,dFa fun z=>c1 ⟨c,z⟩⟩
   ·exact .inr (dFa c)
  by_cases c2:ds.length < 24
  ·have ik:Bo (q:Int) t ds=some (ds.take q++t :: ds.drop q):=by
    unfold Bo
    rw [if_pos ⟨by omega,by omega,by omega⟩]
    have:vY ds.length (q:Int)=q:=by
     unfold vY
     rw [if_neg (by omega)]
     omega
    rw [this]
   have mm:∀ d,d ∈ ds.take q++t :: ds.drop q↔d=t∨d ∈ ds:=fun d=>by
    rw [bM,aO]
    have:d ∈ ds↔d ∈ ds.take q∨d ∈ ds.drop q:=by rw [← bM,jQ]
    rw [this]
    constructor
    ·rintro (z | z | z)
     ·exact .inr (.inl z)
     ·exact .inl z
     ·exact .inr (.inr z)
    ·rintro (z | z | z)
     ·exact .inr (.inl z)
     ·exact .inl z
     ·exact .inr (.inr z)
   have ln:(ds.take q++t :: ds.drop q).length=ds.length + 1:=by simp;omega
   refine ⟨ds.take q++t :: ds.drop q,?_,by omega,fun d hd=>?_,fun d hd=>?_,fun hT=>⟨fun h3=>?_,fun x hx=>?_⟩⟩
   ·have c2':(ds.length:Int) < 24:=by omega
    unfold iG
    rcases c1' with ⟨z1,z2⟩ | z1
    ·simp only [EV,reduceIte,aq,au,ak,ao,aA,aB,aC,gl,p4,kp,z1,p5,z2,dTr c2',zQ,rO,Ir ik,wO,sU,ni,nj]
    ·simp only [EV,reduceIte,aq,au,ak,ao,aA,aB,aC,gl,p4,kp,z1,dTr c2',zQ,rO,Ir ik,wO,sU,ni,nj]
   ·rcases (mm d).mp hd with rfl | z
    ·exact ht.fine
    ·exact hf d z
   ·rcases (mm d).mp hd with rfl | z
    ·exact ht.sm
    ·exact hs d z
   ·exact ⟨ds[0],(mm _).mpr (.inr (gq _)),hT _ (gq _)⟩
   ·rcases (mm x).mp hx with rfl | z
    ·exact ht.no0
    ·exact hp.n0 x z
  ·have c2':¬ (ds.length:Int) < 24:=by omega
   refine ⟨ds,?_,hl,hf,hs,fun _=>hp⟩
   unfold iG
   rcases c1' with ⟨z1,z2⟩ | z1
   ·simp only [EV,reduceIte,aq,au,ak,ao,aA,aB,aC,gl,p4,kp,z1,p5,z2,dFa c2',wO,sU,ni,nj]
   ·simp only [EV,reduceIte,aq,au,ak,ao,aA,aB,aC,gl,p4,kp,z1,dFa c2',wO,sU,ni,nj]
theorem Wk (L:List Ty):(∀ d ∈ L.map yD,fine d=true)∧(∀ d ∈ L.map yD,Sm d)∧(∀ d ∈ L.map yD,isTup d=true)∧PM (L.map yD):=by
 refine ⟨fun d hd=>?_,fun d hd=>?_,fun d hd=>?_,⟨fun h3=>?_,fun x hx=>?_⟩⟩
 ·obtain ⟨s,_,rfl⟩:=cT.mp hd
  rfl
 ·obtain ⟨s,_,rfl⟩:=cT.mp hd
  exact sm3 (pY _) (pY _) (by cases s.2.2 with | none=>exact Ep | some r=>exact pY _)
 ·obtain ⟨s,_,rfl⟩:=cT.mp hd
  rfl
 ·match L,h3 with
  | s :: L,_=>exact ⟨yD s,aG,rfl⟩
 ·obtain ⟨s,_,rfl⟩:=cT.mp hx
  intro z
  cases z
theorem Ku (ns:List Int) (h63:ns.length ≤ 63):Ke [.list (ns.map .int)]=some (.bool true):=by
 obtain ⟨M,now,hM,n0,n1,en⟩:=GJ ns
 obtain ⟨L,ok,eS⟩:=GF ns (M:=M) (now:=now) hM n0 n1
 obtain ⟨y1,y2,y3,y4⟩:=Wk L
 have l24:(L.map yD).length ≤ 24:=by rw [aL];exact ok.len
 obtain ⟨d1,e1,a1,a2,a3,a4⟩:=vL ns (a:=40) (by decide) hM n0 n1 l24 y1 y2 y4
 obtain ⟨d2,e2,b1,b2,b3,_⟩:=vL ns (a:=41) (by decide) hM n0 n1 a1 a2 a3 (a4 y3)
 obtain ⟨d3,e3,c1,c2,c3,_⟩:=vL ns (a:=42) (by decide) hM n0 n1 l24 y1 y2 y4
 have t0:=pK (now:=now) hM l24 y1 y2
 have t1:=pK (now:=now) hM a1 a2 a3
 have t2:=pK (now:=now) hM b1 b2 b3
 have t3:=pK (now:=now) hM c1 c2 c3
 obtain ⟨δ',e,u,rfl⟩:=sy (g:=(gNl 6)) (b:=(sIf (D3.dG (aM (dCall gO (aj (aD 6) (aj (aD 1) (aj (aD 2) (aJ))))))) (bO (dC (.bool false))) (bI)))
  (fun _ δ=>∃ u,δ=[some (.d (.list (ns.map .int))),some (.d (.int (M:Int))),some (.d (.int now)),some (.d (.list (L.map yD))),some (.d (.list d1)),some (.d (.list d2)),u]) [.list (L.map yD),.list d2,.list d1,.list d3,.list (L.map yD)]
  [some (.d (.list (ns.map .int))),some (.d (.int (M:Int))),some (.d (.int now)),some (.d (.list (L.map yD))),some (.d (.list d1)),some (.d (.list d2)),none] ⟨none,rfl⟩ (by
   rintro i d δ hd ⟨u,rfl⟩
   have hm:=iY hd
   have td:gO [d,.int (M:Int),.int now]=some (.bool true):=by
    rcases aO.mp hm with rfl | hm
    ·exact t0
    ·rcases aO.mp hm with rfl | hm
     ·exact t2
     ·rcases aO.mp hm with rfl | hm
      ·exact t1
      ·rcases aO.mp hm with rfl | hm
       ·exact t3
       ·rw [aQ.mp hm];exact t0
   refine ⟨_,[some (.d (.list (ns.map .int))),some (.d (.int (M:Int))),some (.d (.int now)),some (.d (.list (L.map yD))),some (.d (.list d1)),some (.d (.list d2)),some (.d d)],rfl,.inl ?_,_,rfl⟩
   simp only [EV,reduceIte,aq,au,ak,ao,aA,aB,aC,td,pR])
 unfold Ke
 simp only [EV,reduceIte,aq,au,ak,ao,aA,aB,aC,en,eS,e1,e2,e3,zl5]
 rw [e]
 simp only [EV,reduceIte,aq,au,ak,ao,aA,aB,aC]
end K32
namespace K32
open PySem PySem.Spec PyProof.Rows L2 My D3 XC XS XK
def top (i:Nat):Stmt:=PySem.Challenge.pw_nightbook_k32_stays_refused.main.body.getD i (.Pass ⟨0,0,0,0⟩)
section
seal PE PT PW PA PS PSs PG PGs PI PO PTs
variable {P:Program} {w:World} {K:PySem.W.Frag} {mg:Str→Option Value} {base:Heap} {n:Nat} {fld:Addr→Str}
theorem Ag (D:Dg K mg "is_whole" (top 6) ["thing"]) (B:Bl mg):Has P w K mg base (n + 1) "is_whole" ["thing"] (spD K eN):=by
 have sc:FnScope ["thing"] ["thing"] (aP (top 6)):=fsc
 exact gk (fl:=[.A]) D sc (by decide) (by decide) fun f cdv A outer s H E hr=>bh (bY (bT (kY (bC (o7 (T := "int") (by decide) (vP 0) (by rfl) B.isinstance_ (by rfl) B.int_ PyProof.Rows.boot_int)) (nZ (Ih (bC (o7 (T := "bool") (by decide) (vP 0) (by rfl) B.isinstance_ (by rfl) B.bool_ PyProof.Rows.boot_bool)))))))
theorem yU (D:Dg K mg "all_whole" (top 7) ["things"]) (B:Bl mg) (his_whole:Has P w K mg base n "is_whole" ["thing"] (spD K eN)):Has P w K mg base (n + 1) "all_whole" ["things"] (spD K gM):=by
 have sc:FnScope ["things"] ["things"] (aP (top 7)):=fsc
 exact gk (fl:=[.A]) D sc (by decide) (by decide) fun f cdv A outer s H E hr=>bh (bY (bT (dM (Fx rfl) Io (by rfl) B.all_ (show bootBuiltins "all" = some (.builtin "all") by decide +kernel) (dq (bC (jZ (L:=[]) (fl':=[.A]) rfl ["thing"] [] [] (Q_ (vB 0)) (fun _ _ _ _ _=>gN' (i:=0) (show (["thing"]:List Str).Nodup by decide +kernel)) (fun _ _ _ _ _=>n8) (fun _ _ _ _ _=>bB his_whole hr (dq (vP 0) dz)))) dz))))
theorem vM (D:Dg K mg "is_tuple_of" (top 8) ["thing", "many"]) (B:Bl mg) (hall_whole:Has P w K mg base n "all_whole" ["things"] (spD K gM)):Has P w K mg base (n + 1) "is_tuple_of" ["thing", "many"] (spD K j8):=by
 have sc:FnScope ["thing", "many"] ["thing", "many"] (aP (top 8)):=fsc
 exact gk (fl:=[.A,.A]) D sc (by decide) (by decide) fun f cdv A outer s H E hr=>bh (bY (uQ (kY (bC (o7 (T := "tuple") (by decide) (vP 0) (by rfl) B.isinstance_ (by rfl) B.tuple_ PyProof.Rows.boot_tuple)) (kY (bC (jW (mY hr.units) yg (bC (dM cF ju (by rfl) B.len_ PySem.boot_len (dq (vP 0) dz))) (vP 1) (cO _))) (nZ (bB hall_whole hr (dq (vP 0) dz)))))))
theorem CV (D:Dg K mg "is_pair" (top 9) ["thing"]) (B:Bl mg) (his_tuple_of:Has P w K mg base n "is_tuple_of" ["thing", "many"] (spD K j8)):Has P w K mg base (n + 1) "is_pair" ["thing"] (spD K lR):=by
 have sc:FnScope ["thing"] ["thing"] (aP (top 9)):=fsc
 exact gk (fl:=[.A]) D sc (by decide) (by decide) fun f cdv A outer s H E hr=>bh (bY (uQ (bB his_tuple_of hr (dq (vP 0) (dq iP dz)))))
theorem sZ (D:Dg K mg "is_whole_list" (top 10) ["thing"]) (B:Bl mg) (hall_whole:Has P w K mg base n "all_whole" ["things"] (spD K gM)):Has P w K mg base (n + 1) "is_whole_list" ["thing"] (spD K fY):=by
 have sc:FnScope ["thing"] ["thing"] (aP (top 10)):=fsc
 exact gk (fl:=[.A]) D sc (by decide) (by decide) fun f cdv A outer s H E hr=>bh (bY (uQ (kY (bC (o7 (T := "list") (by decide) (vP 0) (by rfl) B.isinstance_ (by rfl) B.list_ PyProof.Rows.boot_list)) (nZ (bB hall_whole hr (dq (vP 0) dz))))))
theorem vZ (D:Dg K mg "is_stretch" (top 13) ["thing"]) (B:Bl mg) (his_pair:Has P w K mg base n "is_pair" ["thing"] (spD K lR)) (gNIGHTS:∃ t,mg "NIGHTS" = some (.int 400 t)):Has P w K mg base (n + 1) "is_stretch" ["thing"] (spD K iy):=by
 have sc:FnScope ["thing"] ["thing"] (aP (top 13)):=fsc
 exact gk (fl:=[.A]) D sc (by decide) (by decide) fun f cdv A outer s H E hr=>bh (bY (bT (kY (d8 (bB his_pair hr (dq (vP 0) dz))) (nZ (Fv rC mO rC yd b_lt yd iP (b_ (dx (vB 0) iP)) (b_ (dx (vB 0) iP)) (bC (K_ gNIGHTS)))))))
theorem yV (D:Dg K mg "nights_of" (top 14) ["stay"]) (B:Bl mg):Has P w K mg base (n + 1) "nights_of" ["stay"] (spD K cH):=by
 have sc:FnScope ["stay"] ["stay"] (aP (top 14)):=fsc
 exact gk (fl:=[.A]) D sc (by decide) (by decide) fun f cdv A outer s H E hr=>bh (bY (dJ rfl (dq (bT (gC (b_ (dx (vB 0) iP)))) (dq (bT (gC (b_ (dx (vB 0) iP)))) dz))))
theorem Kv (D:Dg K mg "holds" (top 15) ["stretch", "night"]) (B:Bl mg):Has P w K mg base (n + 1) "holds" ["stretch", "night"] (spD K iV):=by
 have sc:FnScope ["stretch", "night"] ["stretch", "night"] (aP (top 15)):=fsc
 exact gk (fl:=[.A,.A]) D sc (by decide) (by decide) fun f cdv A outer s H E hr=>bh (bY (bT (uU rC mO yd b_lt (b_ (dx (vB 0) iP)) (vP 1) (b_ (dx (vB 0) iP)))))
theorem GR (D:Dg K mg "shared" (top 16) ["one", "other"]) (B:Bl mg):Has P w K mg base (n + 1) "shared" ["one", "other"] (spD K nG):=by
 have sc:FnScope ["one", "other", "first", "behind"] ["one", "other"] (aP (top 16)):=fsc
 exact gk (fl:=[.A,.A,.A,.A]) D sc (by decide) (by decide) fun f cdv A outer s H E hr=>aY (sA (i:=2) sc.nd (cC (dM (jT rfl) qp (by rfl) B.max_ PyProof.Rows.boot_max (dq (b_ (dx (vB 0) iP)) (dq (b_ (dx (vB 1) iP)) dz)))))
  (aY (sA (i:=3) sc.nd (cC (dM (jU rfl) qt (by rfl) B.min_ PyProof.Rows.boot_min (dq (b_ (dx (vB 0) iP)) (dq (b_ (dx (vB 1) iP)) dz)))))
  (aY (gF (dU wA Fj (vP 2) (vP 3) (cO _)) (bh (bY (bT (jD)))) (cW))
  (bh (bY (dJ rfl (dq (bT (gC (vP 2))) (dq (bT (gC (vP 3))) dz)))))))
theorem Kw (D:Dg K mg "meets" (top 17) ["one", "other"]) (B:Bl mg) (hshared:Has P w K mg base n "shared" ["one", "other"] (spD K nG)):Has P w K mg base (n + 1) "meets" ["one", "other"] (spD K lJ):=by
 have sc:FnScope ["one", "other"] ["one", "other"] (aP (top 17)):=fsc
 exact gk (fl:=[.A,.A]) D sc (by decide) (by decide) fun f cdv A outer s H E hr=>bh (bY (bT (Ln (d8 (bB hshared hr (dq (vP 0) (dq (vP 1) dz)))))))
theorem Ah (D:Dg K mg "count_at" (top 18) ["stretches", "night"]) (B:Bl mg) (hholds:Has P w K mg base n "holds" ["stretch", "night"] (spD K iV)):Has P w K mg base (n + 1) "count_at" ["stretches", "night"] (spD K je):=by
 have sc:FnScope ["stretches", "night"] ["stretches", "night"] (aP (top 18)):=fsc
 exact gk (fl:=[.A,.A]) D sc (by decide) (by decide) fun f cdv A outer s H E hr=>bh (bY (bT (dM cF ju (by rfl) B.len_ PySem.boot_len (dq (bC (jZ (L:=[]) (fl':=[.A,.A]) rfl ["stretch"] ["night"] [1] (iU (vB 0)) (fun _ _ _ _ _=>gN' (i:=0) (show (["stretch", "night"]:List Str).Nodup by decide +kernel)) (fun _ _ _ _ _=>rF (gD (d8 (bB hholds hr (dq (vP 0) (dq (vP 1) dz)))))) (fun _ _ _ _ _=>jc (gC (vP 0))))) dz))))
theorem GX (D:Dg K mg "firsts" (top 19) ["stretches"]) (B:Bl mg):Has P w K mg base (n + 1) "firsts" ["stretches"] (spD K mG):=by
 have sc:FnScope ["stretches"] ["stretches"] (aP (top 19)):=fsc
 exact gk (fl:=[.A]) D sc (by decide) (by decide) fun f cdv A outer s H E hr=>bh (bY (bT (jZ (L:=[]) (fl':=[.A]) rfl ["stretch"] [] [] (iU (vB 0)) (fun _ _ _ _ _=>gN' (i:=0) (show (["stretch"]:List Str).Nodup by decide +kernel)) (fun _ _ _ _ _=>n8) (fun _ _ _ _ _=>jc (gC (b_ (dx (vB 0) iP)))))))
theorem GZ (D:Dg K mg "fuller" (top 20) ["stretches", "many", "since"]) (B:Bl mg) (hcount_at:Has P w K mg base n "count_at" ["stretches", "night"] (spD K je)) (hfirsts:Has P w K mg base n "firsts" ["stretches"] (spD K mG)):Has P w K mg base (n + 1) "fuller" ["stretches", "many", "since"] (spD K jO):=by
 have sc:FnScope ["stretches", "many", "since", "later", "night"] ["stretches", "many", "since"] (aP (top 20)):=fsc
 exact gk (fl:=[.A,.A,.A,.A,.A]) D sc (by decide) (by decide) fun f cdv A outer s H E hr=>aY (zJ (i:=3) (L:=[]) (fl':=[.A,.A]) rfl sc.nd rfl rfl rfl ["first"] ["since"] [2] (iU (gP (jk (bB hfirsts hr (dq (vP 0) dz))))) (fun _ _ _ _ _=>gN' (i:=0) (show (["first", "since"]:List Str).Nodup by decide +kernel)) (fun _ _ _ _ _=>rF (dU Dr Lg (vP 0) (vP 1) (cO _))) (fun _ _ _ _ _=>jc (gC (vP 0))))
  (aY (mz (L:=[]) PassesOwn.never rfl (iU (gP (jr (o8 (gP (jr (jh (dq (vA 2) dz)))) (gP (cC (wN (dq (vP 3) dz) (by rfl) B.sorted_))))))) (gN' (i:=4) sc.nd) (bh (gF (dU Dr Lg (d8 (bB hcount_at hr (dq (vP 0) (dq (vP 4) dz)))) (vP 1) (cO _)) (bh (bY (bT (gC (vP 4))))) (cW))))
  (bh (bY (bT (jD)))))
theorem CW (D:Dg K mg "is_stay" (top 22) ["thing", "rooms", "now"]) (B:Bl mg) (his_whole:Has P w K mg base n "is_whole" ["thing"] (spD K eN)) (his_stretch:Has P w K mg base n "is_stretch" ["thing"] (spD K iy)) (hnights_of:Has P w K mg base n "nights_of" ["stay"] (spD K cH)) (hholds:Has P w K mg base n "holds" ["stretch", "night"] (spD K iV)):Has P w K mg base (n + 1) "is_stay" ["thing", "rooms", "now"] (spD K dY):=by
 have sc:FnScope ["thing", "rooms", "now", "room"] ["thing", "rooms", "now"] (aP (top 22)):=fsc
 exact gk (fl:=[.A,.A,.A,.A]) D sc (by decide) (by decide) fun f cdv A outer s H E hr=>aY (gF (rM (oF (jL (gD (bC (o7 (T := "tuple") (by decide) (vP 0) (by rfl) B.isinstance_ (by rfl) B.tuple_ PyProof.Rows.boot_tuple)))) (oF (dU (qd hr.units) Fp (bC (dM cF ju (by rfl) B.len_ PySem.boot_len (dq (vP 0) dz))) iP (cO _)) (ql (jL (gD (d8 (bB his_stretch hr (dq (d8 (bB hnights_of hr (dq (vP 0) dz))) dz))))))))) (bh (bY (bT (jR)))) (cW))
  (aY (sA (i:=3) sc.nd (dx (vB 0) iP))
  (aY (gF (uW (vP 3)) (bh (bY (bT (jW wA Fj (b_ (dx (vB 0) iP)) (vP 2) (cO _))))) (cW))
  (bh (bY (uQ (kY (d8 (bB his_whole hr (dq (vP 3) dz))) (kY (bC (uU rC mO yd b_lt iP (vP 3) (vP 1))) (nZ (bB hholds hr (dq (d8 (bB hnights_of hr (dq (vP 0) dz))) (dq (vP 2) dz)))))))))))
theorem uc (D:Dg K mg "check_stays" (top 23) ["stays", "rooms", "now"]) (B:Bl mg) (his_stay:Has P w K mg base (n + 2) "is_stay" ["thing", "rooms", "now"] (spD K dY)) (zNoStay:ExcG K mg fld "NoStay" "at" "InnError") (zTaken:ExcG K mg fld "Taken" "room" "InnError"):HasX P w K mg base fld (n + 3) "check_stays" ["stays", "rooms", "now"] (spX K mg d9) []:=by
 have sc:FnScope ["stays", "rooms", "now", "taken", "at", "stay"] ["stays", "rooms", "now"] (aP (top 23)):=fsc
 exact Mq (fl:=[.A,.A,.A,.N,.A,.A]) D sc (by decide) (by decide) fun f cdv A outer s H E hr=>jd (tR (LC (i:=3) rfl sc.nd rfl (by first | exact Or.inl rfl | exact Or.inr rfl) (DN)))
  (lG (Rg (L:=[]) U0 rfl (uq (vB 0) (by rfl) B.enumerate_) (uT rfl (jt (gN' (i:=4) sc.nd) (jt (gN' (i:=5) sc.nd) (rK)))) (jd (Jb (jL (gD (d8 (bB his_stay hr (dq (vP 5) (dq (vP 1) (dq (vP 2) dz))))))) (lG (wW zNoStay.fly hr (vP 4))) (Bv (cW)))
  (jd (Jb (dU (XB.Rv hr.units) XB.Vd (b_ (dx (vB 5) iP)) (Lz 3 rfl) (by with_unfolding_all rfl)) (lG (wW zTaken.fly hr (b_ (dx (vB 5) iP)))) (Bv (cW)))
  (lG (tR (gF (pF (b_ (dx (vB 5) iP))) (bh (XB.MJ (XK.hu1 hr.units) (i:=3) rfl Ox (b_ (dx (vB 5) iP)) rfl)) (cW))))))))
theorem vN (D:Dg K mg "check_full" (top 24) ["stays", "rooms", "now"]) (B:Bl mg) (hnights_of:Has P w K mg base (n + 2) "nights_of" ["stay"] (spD K cH)) (hfuller:Has P w K mg base (n + 2) "fuller" ["stretches", "many", "since"] (spD K jO)) (zTooFull:ExcG K mg fld "TooFull" "night" "InnError"):HasX P w K mg base fld (n + 3) "check_full" ["stays", "rooms", "now"] (spX K mg iz) []:=by
 have sc:FnScope ["stays", "rooms", "now", "night"] ["stays", "rooms", "now"] (aP (top 24)):=fsc
 exact yt (fl:=[.A,.A,.A,.A]) D sc (by decide) (by decide) fun f cdv A outer s H E hr=>jd (tR (sA (i:=3) sc.nd (jk (bB hfuller hr (dq (bC (jZ (L:=[]) (fl':=[.A]) rfl ["stay"] [] [] (iU (vB 0)) (fun _ _ _ _ _=>gN' (i:=0) (show (["stay"]:List Str).Nodup by decide +kernel)) (fun _ _ _ _ _=>n8) (fun _ _ _ _ _=>bB hnights_of hr (dq (vP 0) dz)))) (dq (vP 1) (dq (vP 2) dz)))))))
  (lG (Jb (pF (vP 3)) (lG (Jc zTooFull.fly hr (vP 3))) (Bv (cW))))
theorem tu {Pt:Addr} (D:XL.DgT K mg "still_to_come" (top 25) ["stays"] Pt "still_to_come.<locals>.<lambda>" ⟨76,30,76,59⟩) (B:Bl mg):Has P w K mg base (n + 1) "still_to_come" ["stays"] (spD K iK):=by
 have sc:FnScope ["stays", "places"] ["stays"] (aP (top 25)):=fsc
 exact XL.Rz (fl:=[.A,.A]) D sc (by decide) (by decide) fun f c A outer s H E hcd hr=>aY (zJ (i:=1) (L:=[]) (fl':=[.A,.A]) rfl sc.nd rfl rfl rfl ["place", "stay"] [] [] (uq (vB 0) (by rfl) B.enumerate_) (fun _ _ _ _ _=>uT rfl (jt (gN' (i:=0) (show (["place", "stay"]:List Str).Nodup by decide +kernel)) (jt (gN' (i:=1) (show (["place", "stay"]:List Str).Nodup by decide +kernel)) (rK)))) (fun _ _ _ _ _=>rF (uW (b_ (dx (vB 1) iP)))) (fun _ _ _ _ _=>jc (gC (vP 0))))
  (bh (bY (bT (XL.Cg (i:=0) ⟨⟨_,rfl,hcd⟩,rfl,D.tb⟩ hr (dq (vP 1) Ig) (by rfl) B.sorted_ rfl rfl rfl rfl (fun _ h=>XL.JC rfl h) (fun _ _ _ _ _=>rfl) rfl rfl rfl (by decide +kernel) rfl rfl (by decide) (by decide) (by decide) rfl rfl))))
theorem v5 (D:Dg K mg "beginnings" (top 26) ["stays", "rooms", "now"]) (B:Bl mg):Has P w K mg base (n + 1) "beginnings" ["stays", "rooms", "now"] (spD K f9):=by
 have sc:FnScope ["stays", "rooms", "now", "nights", "stay"] ["stays", "rooms", "now"] (aP (top 26)):=fsc
 exact gk (fl:=[.A,.A,.A,.O,.A]) D sc (by decide) (by decide) fun f cdv A outer s H E hr=>aY (pD (i:=3) rfl sc.nd rfl (by first | exact Or.inl rfl | exact Or.inr rfl) (QV (jh (dq (vA 2) dz)) (vP 1)))
  (aY (mz (L:=[]) PassesOwn.never rfl (iU (vB 0)) (gN' (i:=4) sc.nd) (bh (gF (pF (b_ (dx (vB 4) iP))) (bh (yh (i:=3) rfl (dx (vB 4) iP) (b_ (dx (vB 4) iP)) rfl)) (cW))))
  (bh (bY (yc 3 (by decide)))))
theorem v8 (D:Dg K mg "first_free" (top 27) ["begin", "night"]) (B:Bl mg):Has P w K mg base (n + 1) "first_free" ["begin", "night"] (spD K gj):=by
 have sc:FnScope ["begin", "night"] ["begin", "night"] (aP (top 27)):=fsc
 exact gk (fl:=[.A,.A]) D sc (by decide) (by decide) fun f cdv A outer s H E hr=>bh (bY (bT (gC (b_ (dx (gP (cC (jZ (L:=[]) (fl':=[.A,.A,.A]) rfl ["room", "since"] ["night"] [1] (uq (vB 0) (by rfl) B.enumerate_) (fun _ _ _ _ _=>uT rfl (jt (gN' (i:=0) (show (["room", "since", "night"]:List Str).Nodup by decide +kernel)) (jt (gN' (i:=1) (show (["room", "since", "night"]:List Str).Nodup by decide +kernel)) (rK)))) (fun _ _ _ _ _=>rF (dU rC yd (vP 1) (vP 2) (cO _))) (fun _ _ _ _ _=>jc (gC (vP 0)))))) iP)))))
theorem G3 (D:Dg K mg "filled" (top 28) ["stays", "plan", "begin"]) (B:Bl mg) (hstill_to_come:Has P w K mg base n "still_to_come" ["stays"] (spD K iK)) (hfirst_free:Has P w K mg base n "first_free" ["begin", "night"] (spD K gj)):Has P w K mg base (n + 1) "filled" ["stays", "plan", "begin"] (spD K nM):=by
 have sc:FnScope ["stays", "plan", "begin", "seats", "free_since", "place", "room"] ["stays", "plan", "begin"] (aP (top 28)):=fsc
 exact gk (fl:=[.A,.A,.A,.O,.O,.A,.A]) D sc (by decide) (by decide) fun f cdv A outer s H E hr=>aY (pD (i:=3) rfl sc.nd rfl (by first | exact Or.inl rfl | exact Or.inr rfl) (uo (vB 1) (by rfl) B.list_))
  (aY (pD (i:=4) rfl sc.nd rfl (by first | exact Or.inl rfl | exact Or.inr rfl) (uo (vB 2) (by rfl) B.list_))
  (aY (mz (L:=[]) PassesOwn.never rfl (iU (gP (jk (bB hstill_to_come hr (dq (vP 0) dz))))) (gN' (i:=5) sc.nd) (bh (gF (uW (b_ (dx (kW 3) (vP 5)))) (aY (sA (i:=6) sc.nd (jk (bB hfirst_free hr (dq (oY (kW 4)) (dq (b_ (dx (gP (dx (vB 0) (vP 5))) iP)) dz)))))
  (aY (yh (i:=3) rfl (vA 6) (vP 5) rfl)
  (bh (yh (i:=4) rfl (dx (gP (dx (vB 0) (vP 5))) iP) (vP 6) rfl)))) (cW))))
  (bh (bY (yc 3 (by decide))))))
theorem CZ (D:Dg K mg "seated" (top 29) ["stays", "rooms", "now"]) (B:Bl mg) (hbeginnings:Has P w K mg base (n + 2) "beginnings" ["stays", "rooms", "now"] (spD K f9)) (hfilled:Has P w K mg base (n + 2) "filled" ["stays", "plan", "begin"] (spD K nM)) (xcheck_full:HasX P w K mg base fld (n + 2) "check_full" ["stays", "rooms", "now"] (spX K mg iz) []) (xcheck_stays:HasX P w K mg base fld (n + 2) "check_stays" ["stays", "rooms", "now"] (spX K mg d9) []):HasX P w K mg base fld (n + 3) "seated" ["stays", "rooms", "now"] (spX K mg eY) []:=by
 have sc:FnScope ["stays", "rooms", "now"] ["stays", "rooms", "now"] (aP (top 29)):=fsc
 exact yt (fl:=[.A,.A,.A]) D sc (by decide) (by decide) fun f cdv A outer s H E hr=>jd (o_ (dd:=[]) xcheck_stays (fun H=>.nil) hr (dq (vP 0) (dq (vP 1) (dq (vP 2) dz))))
  (jd (o_ (dd:=[]) xcheck_full (fun H=>.nil) hr (dq (vP 0) (dq (vP 1) (dq (vP 2) dz))))
  (lG (tR (bY (uQ (bB hfilled hr (dq (vP 0) (dq (bC (jZ (L:=[]) (fl':=[.A]) rfl ["stay"] [] [] (iU (vB 0)) (fun _ _ _ _ _=>gN' (i:=0) (show (["stay"]:List Str).Nodup by decide +kernel)) (fun _ _ _ _ _=>n8) (fun _ _ _ _ _=>jc (gC (b_ (dx (vB 0) iP)))))) (dq (d8 (bB hbeginnings hr (dq (vP 0) (dq (vP 1) (dq (vP 2) dz))))) dz)))))))))
theorem C_ (D:DgD K mg "seated" (top 29) ["stays", "rooms", "now"] [V.int 0] ["now"]) (B:Bl mg) (hbeginnings:Has P w K mg base (n + 2) "beginnings" ["stays", "rooms", "now"] (spD K f9)) (hfilled:Has P w K mg base (n + 2) "filled" ["stays", "plan", "begin"] (spD K nM)) (xcheck_full:HasX P w K mg base fld (n + 2) "check_full" ["stays", "rooms", "now"] (spX K mg iz) []) (xcheck_stays:HasX P w K mg base fld (n + 2) "check_stays" ["stays", "rooms", "now"] (spX K mg d9) []):HasX P w K mg base fld (n + 3) "seated" ["stays", "rooms", "now"] (spX K mg eY) [V.int 0]:=by
 have sc:FnScope ["stays", "rooms", "now"] ["stays", "rooms", "now"] (aP (top 29)):=fsc
 exact Mi (fl:=[.A,.A,.A]) D sc (by decide) (by decide) fun f cdv A outer s H E hr=>jd (o_ (dd:=[]) xcheck_stays (fun H=>.nil) hr (dq (vP 0) (dq (vP 1) (dq (vP 2) dz))))
  (jd (o_ (dd:=[]) xcheck_full (fun H=>.nil) hr (dq (vP 0) (dq (vP 1) (dq (vP 2) dz))))
  (lG (tR (bY (uQ (bB hfilled hr (dq (vP 0) (dq (bC (jZ (L:=[]) (fl':=[.A]) rfl ["stay"] [] [] (iU (vB 0)) (fun _ _ _ _ _=>gN' (i:=0) (show (["stay"]:List Str).Nodup by decide +kernel)) (fun _ _ _ _ _=>n8) (fun _ _ _ _ _=>jc (gC (b_ (dx (vB 0) iP)))))) (dq (d8 (bB hbeginnings hr (dq (vP 0) (dq (vP 1) (dq (vP 2) dz))))) dz)))))))))
theorem ud (D:Dg K mg "has_fit_room" (top 31) ["stay", "room", "rooms"]) (B:Bl mg):Has P w K mg base (n + 1) "has_fit_room" ["stay", "room", "rooms"] (spD K cV):=by
 have sc:FnScope ["stay", "room", "rooms"] ["stay", "room", "rooms"] (aP (top 31)):=fsc
 exact gk (fl:=[.A,.A,.A]) D sc (by decide) (by decide) fun f cdv A outer s H E hr=>aY (gF (pF (b_ (dx (vB 0) iP))) (bh (bY (bT (jW (mY hr.units) yg (vP 1) (b_ (dx (vB 0) iP)) (cO _))))) (cW))
  (bh (bY (bT (uU rC mO yd b_lt iP (vP 1) (vP 2)))))
theorem Ai (D:Dg K mg "is_apart" (top 32) ["stays", "plan", "place"]) (B:Bl mg) (hnights_of:Has P w K mg base n "nights_of" ["stay"] (spD K cH)) (hmeets:Has P w K mg base n "meets" ["one", "other"] (spD K lJ)):Has P w K mg base (n + 1) "is_apart" ["stays", "plan", "place"] (spD K eU):=by
 have sc:FnScope ["stays", "plan", "place", "other"] ["stays", "plan", "place"] (aP (top 32)):=fsc
 exact gk (fl:=[.A,.A,.A,.A]) D sc (by decide) (by decide) fun f cdv A outer s H E hr=>aY (mz (L:=[]) PassesOwn.never rfl (m9 (by rfl) B.range_ (zH (dq (vP 2) dz))) (gN' (i:=3) sc.nd) (bh (gF (rM (qm (dU (mY hr.units) yg (b_ (dx (vB 1) (vP 3))) (b_ (dx (vB 1) (vP 2))) (cO _)) (n6 (gD (d8 (bB hmeets hr (dq (d8 (bB hnights_of hr (dq (b_ (dx (vB 0) (vP 3))) dz))) (dq (d8 (bB hnights_of hr (dq (b_ (dx (vB 0) (vP 2))) dz))) dz)))))))) (bh (bY (bT (jR)))) (cW))))
  (bh (bY (bT (jR))))
theorem Aj (D:Dg K mg "is_plan" (top 33) ["stays", "rooms", "now", "thing"]) (B:Bl mg) (his_whole_list:Has P w K mg base (n + 2) "is_whole_list" ["thing"] (spD K fY)) (hhas_fit_room:Has P w K mg base (n + 2) "has_fit_room" ["stay", "room", "rooms"] (spD K cV)) (his_apart:Has P w K mg base (n + 2) "is_apart" ["stays", "plan", "place"] (spD K eU)) (xcheck_stays:HasX P w K mg base fld (n + 2) "check_stays" ["stays", "rooms", "now"] (spX K mg d9) []):HasX P w K mg base fld (n + 3) "is_plan" ["stays", "rooms", "now", "thing"] (spX K mg fU) []:=by
 have sc:FnScope ["stays", "rooms", "now", "thing", "place", "stay"] ["stays", "rooms", "now", "thing"] (aP (top 33)):=fsc
 exact yt (fl:=[.A,.A,.A,.A,.A,.A]) D sc (by decide) (by decide) fun f cdv A outer s H E hr=>jd (o_ (dd:=[]) xcheck_stays (fun H=>.nil) hr (dq (vP 0) (dq (vP 1) (dq (vP 2) dz))))
  (jd (tR (gF (rM (oF (jL (gD (d8 (bB his_whole_list hr (dq (vP 3) dz))))) (ql (dU (qd hr.units) Fp (bC (dM cF ju (by rfl) B.len_ PySem.boot_len (dq (vP 3) dz))) (bC (dM cF ju (by rfl) B.len_ PySem.boot_len (dq (vP 0) dz))) (cO _))))) (bh (bY (bT (jR)))) (cW)))
  (jd (tR (mz (L:=[]) PassesOwn.never rfl (uq (vB 0) (by rfl) B.enumerate_) (uT rfl (jt (gN' (i:=4) sc.nd) (jt (gN' (i:=5) sc.nd) (rK)))) (bh (gF (rM (oF (jL (gD (d8 (bB hhas_fit_room hr (dq (vP 5) (dq (b_ (dx (vB 3) (vP 4))) (dq (vP 1) dz))))))) (ql (jL (gD (d8 (bB his_apart hr (dq (vP 0) (dq (vP 3) (dq (vP 4) dz)))))))))) (bh (bY (bT (jR)))) (cW)))))
  (lG (tR (bY (bT (jR)))))))
theorem yW (D:Dg K mg "_law_cell" (top 35) ["_law_script", "_law_at"]) (B:Bl mg):Has P w K mg base (n + 1) "_law_cell" ["_law_script", "_law_at"] (spD K gZ):=by
 have sc:FnScope ["_law_script", "_law_at"] ["_law_script", "_law_at"] (aP (top 35)):=fsc
 exact gk (fl:=[.A,.A]) D sc (by decide) (by decide) fun f cdv A outer s H E hr=>aY (gF (dU mO b_lt (vP 1) (bC (dM cF ju (by rfl) B.len_ PySem.boot_len (dq (vP 0) dz))) (cO _)) (bh (bY (bT (cZ lA rJ (b_ (dx (vB 0) (vP 1))) iP)))) (cW))
  (aY (gF (dU (mY hr.units) yg (vP 0) (bC (lF dz)) (cO _)) (bh (bY (bT (cZ fH gY (bC (cZ lE rH iP (vP 1))) iP)))) (cW))
  (bh (bY (bT (cZ fH gY (bC (cZ lA rJ (b_ (dx (vB 0) (bC (cZ lA rJ (bC (cZ lE rH (vP 1) iP)) (bC (dM cF ju (by rfl) B.len_ PySem.boot_len (dq (vP 0) dz))))))) iP)) (bC (cZ lE rH iP (vP 1))))))))
theorem yX (D:Dg K mg "_law_part" (top 36) ["_law_script", "_law_at", "_law_k", "_law_many"]) (B:Bl mg) (h_law_cell:Has P w K mg base n "_law_cell" ["_law_script", "_law_at"] (spD K gZ)):Has P w K mg base (n + 1) "_law_part" ["_law_script", "_law_at", "_law_k", "_law_many"] (spD K bA):=by
 have sc:FnScope ["_law_script", "_law_at", "_law_k", "_law_many", "_law_number", "_law_j"] ["_law_script", "_law_at", "_law_k", "_law_many"] (aP (top 36)):=fsc
 exact gk (fl:=[.A,.A,.A,.A,.A,.A]) D sc (by decide) (by decide) fun f cdv A outer s H E hr=>aY (gF (rM (qm (dU mO b_lt (vP 1) (bC (dM cF ju (by rfl) B.len_ PySem.boot_len (dq (vP 0) dz))) (cO _)) (n6 (dU wA Fj (b_ (dx (vB 0) (vP 1))) (bC (cZ Qw Ut iP iP)) (cO _))))) (aY (sA (i:=4) sc.nd (dx (vB 0) (vP 1)))
  (aY (mz (L:=[]) PassesOwn.never rfl (m9 (by rfl) B.range_ (zH (dq (vP 2) dz))) (gN' (i:=5) sc.nd) (bh (sA (i:=4) sc.nd (cC (cZ Dv O5 (vP 4) iP)))))
  (bh (gF (dU Dr Lg (vP 4) iP (cO _)) (bh (bY (bT (cZ lA rJ (bC (cZ lA rJ (vP 4) iP)) (vP 3))))) (cW))))) (cW))
  (aY (sA (i:=4) sc.nd (cC (cZ lA rJ (bC (cZ lE rH (bC (cZ fH gY (bC (cZ fH gY (d8 (bB h_law_cell hr (dq (vP 0) (dq (vP 1) dz)))) (bC (cZ lE rH iP (vP 1))))) iP)) (bC (cZ fH gY iP (bC (cZ lE rH iP (vP 2))))))) iP)))
  (aY (sA (i:=4) sc.nd (cC (cZ fH gY (bC (cZ lA rJ (bC (cZ lE rH (vP 4) (vP 4))) iP)) iP)))
  (bh (bY (bT (cZ lA rJ (bC (cZ Dv O5 (bC (cZ lA rJ (bC (cZ lE rH (vP 4) (vP 4))) iP)) iP)) (vP 3)))))))
theorem v9 (D:Dg K mg "_law_whole" (top 37) ["_law_found"]) (B:Bl mg):Has P w K mg base (n + 1) "_law_whole" ["_law_found"] (spD K cP):=by
 have sc:FnScope ["_law_found"] ["_law_found"] (aP (top 37)):=fsc
 exact gk (fl:=[.A]) D sc (by decide) (by decide) fun f cdv A outer s H E hr=>bh (bY (bT (kY (bC (o7 (T := "int") (by decide) (vP 0) (by rfl) B.isinstance_ (by rfl) B.int_ PyProof.Rows.boot_int)) (nZ (Ih (bC (o7 (T := "bool") (by decide) (vP 0) (by rfl) B.isinstance_ (by rfl) B.bool_ PyProof.Rows.boot_bool)))))))
theorem yZ (D:Dg K mg "_law_stay" (top 38) ["_law_script", "_law_at", "_law_turn", "_law_mode", "_law_now"]) (B:Bl mg) (h_law_part:Has P w K mg base n "_law_part" ["_law_script", "_law_at", "_law_k", "_law_many"] (spD K bA)):Has P w K mg base (n + 1) "_law_stay" ["_law_script", "_law_at", "_law_turn", "_law_mode", "_law_now"] (spD K g_):=by
 have sc:FnScope ["_law_script", "_law_at", "_law_turn", "_law_mode", "_law_now", "_law_first", "_law_long"] ["_law_script", "_law_at", "_law_turn", "_law_mode", "_law_now"] (aP (top 38)):=fsc
 exact gk (fl:=[.A,.A,.A,.A,.A,.A,.A]) D sc (by decide) (by decide) fun f cdv A outer s H E hr=>aY (sA (i:=5) sc.nd (cC (dM (jU rfl) qt (by rfl) B.min_ PyProof.Rows.boot_min (dq iP (dq (bC (cZ fH gY (vP 4) (d8 (bB h_law_part hr (dq (vP 0) (dq (vP 1) (dq (vP 2) (dq (b_ (dx (gP (cC (lF (dq iC (dq iC (dq iC (dq iC dz))))))) (vP 3))) dz)))))))) dz)))))
  (aY (sA (i:=6) sc.nd (cC (cZ fH gY iP (d8 (bB h_law_part hr (dq (vP 0) (dq (vP 1) (dq (bC (cZ fH gY (vP 2) iP)) (dq (b_ (dx (gP (cC (lF (dq iC (dq iC (dq iC (dq iC dz))))))) (d8 (bB h_law_part hr (dq (vP 0) (dq (vP 1) (dq (bC (cZ fH gY (vP 2) iP)) (dq iP dz)))))))) dz)))))))))
  (bh (bY (dJ rfl (dq (bT (gC (vP 5))) (dq (bT (dM (jU rfl) qt (by rfl) B.min_ PyProof.Rows.boot_min (dq iP (dq (bC (cZ fH gY (vP 5) (vP 6))) dz)))) (dq (bT (jD)) dz)))))))
theorem wg (D:Dg K mg "_law_guest" (top 39) ["_law_script", "_law_at", "_law_turn", "_law_now", "_law_room"]) (B:Bl mg) (h_law_part:Has P w K mg base n "_law_part" ["_law_script", "_law_at", "_law_k", "_law_many"] (spD K bA)):Has P w K mg base (n + 1) "_law_guest" ["_law_script", "_law_at", "_law_turn", "_law_now", "_law_room"] (spD K iB):=by
 have sc:FnScope ["_law_script", "_law_at", "_law_turn", "_law_now", "_law_room", "_law_first", "_law_more"] ["_law_script", "_law_at", "_law_turn", "_law_now", "_law_room"] (aP (top 39)):=fsc
 exact gk (fl:=[.A,.A,.A,.A,.A,.A,.A]) D sc (by decide) (by decide) fun f cdv A outer s H E hr=>aY (sA (i:=5) sc.nd (cC (dM (jT rfl) qp (by rfl) B.max_ PyProof.Rows.boot_max (dq iP (dq (bC (cZ uH zG (vP 3) (d8 (bB h_law_part hr (dq (vP 0) (dq (vP 1) (dq (vP 2) (dq iP dz)))))))) dz)))))
  (aY (sA (i:=6) sc.nd (jk (bB h_law_part hr (dq (vP 0) (dq (vP 1) (dq (bC (cZ fH gY (vP 2) iP)) (dq (b_ (dx (gP (cC (lF (dq iC (dq iC (dq iC dz)))))) (d8 (bB h_law_part hr (dq (vP 0) (dq (vP 1) (dq (bC (cZ fH gY (vP 2) iP)) (dq iP dz)))))))) dz)))))))
  (bh (bY (dJ rfl (dq (bT (gC (vP 5))) (dq (bT (dM (jU rfl) qt (by rfl) B.min_ PyProof.Rows.boot_min (dq iP (dq (bC (cZ fH gY (bC (cZ fH gY (vP 3) iP)) (vP 6))) dz)))) (dq (bT (gC (vP 4))) dz)))))))
theorem zc (D:Dg K mg "_law_full" (top 40) ["_law_stays_here", "_law_rooms", "_law_now"]) (B:Bl mg):Has P w K mg base (n + 1) "_law_full" ["_law_stays_here", "_law_rooms", "_law_now"] (spD K cN):=by
 have sc:FnScope ["_law_stays_here", "_law_rooms", "_law_now", "_law_night"] ["_law_stays_here", "_law_rooms", "_law_now"] (aP (top 40)):=fsc
 exact gk (fl:=[.A,.A,.A,.A]) D sc (by decide) (by decide) fun f cdv A outer s H E hr=>aY (mz (L:=[]) PassesOwn.never rfl (iU (gP (cC (wN (dq (O4 (o8 (gP (jr (jh (dq (vA 2) dz)))) (gP (cC (jZ (L:=[]) (fl':=[.A,.A]) rfl ["_law_one"] ["_law_now"] [2] (iU (vB 0)) (fun _ _ _ _ _=>gN' (i:=0) (show (["_law_one", "_law_now"]:List Str).Nodup by decide +kernel)) (fun _ _ _ _ _=>n8) (fun _ _ _ _ _=>jc (dM (jT rfl) qp (by rfl) B.max_ PyProof.Rows.boot_max (dq (vP 1) (dq (b_ (dx (vB 0) iP)) dz))))))))) dz) (by rfl) B.sorted_)))) (gN' (i:=3) sc.nd) (bh (gF (dU Dr Lg (bC (dM cF ju (by rfl) B.len_ PySem.boot_len (dq (bC (jZ (L:=[]) (fl':=[.A,.A]) rfl ["_law_one"] ["_law_night"] [3] (iU (vB 0)) (fun _ _ _ _ _=>gN' (i:=0) (show (["_law_one", "_law_night"]:List Str).Nodup by decide +kernel)) (fun _ _ _ _ _=>rF (rM (qm (dU rC yd (b_ (dx (vB 0) iP)) (vP 1) (cO _)) (n6 (dU mO b_lt (vP 1) (b_ (dx (vB 0) iP)) (cO _)))))) (fun _ _ _ _ _=>jc (gC (vP 0))))) dz))) (vP 1) (cO _)) (bh (bY (bT (gC (vP 3))))) (cW))))
  (bh (bY (bT (jD))))
theorem uf (D:Dg K mg "_law_numbers" (top 41) ["_law_script"]) (B:Bl mg) (h_law_part:Has P w K mg base n "_law_part" ["_law_script", "_law_at", "_law_k", "_law_many"] (spD K bA)):Has P w K mg base (n + 1) "_law_numbers" ["_law_script"] (spD K fO):=by
 have sc:FnScope ["_law_script", "_law_now", "_law_rooms"] ["_law_script"] (aP (top 41)):=fsc
 exact gk (fl:=[.A,.A,.A]) D sc (by decide) (by decide) fun f cdv A outer s H E hr=>aY (sA (i:=1) sc.nd (cC (lF (dq iC (dq (bB h_law_part hr (dq (vP 0) (dq iP (dq iP (dq iP dz))))) (dq (bB h_law_part hr (dq (vP 0) (dq iP (dq iP (dq iP dz))))) (dq (jc (cZ uH zG iP (d8 (bB h_law_part hr (dq (vP 0) (dq iP (dq iP (dq iP dz)))))))) dz)))))))
  (aY (sA (i:=2) sc.nd (cC (lF (dq (bB h_law_part hr (dq (vP 0) (dq iP (dq iP (dq iP dz))))) (dq (jc (cZ fH gY iP (d8 (bB h_law_part hr (dq (vP 0) (dq iP (dq iP (dq iP dz)))))))) (dq (bB h_law_part hr (dq (vP 0) (dq iP (dq iP (dq iP dz))))) dz))))))
  (bh (bY (dJ rfl (dq (bT (gC (b_ (dx (vB 2) (d8 (bB h_law_part hr (dq (vP 0) (dq iP (dq iP (dq iP dz)))))))))) (dq (bT (gC (b_ (dx (vB 1) (d8 (bB h_law_part hr (dq (vP 0) (dq iP (dq iP (dq iP dz)))))))))) dz))))))
theorem wj (D:Dg K mg "_law_stays" (top 42) ["_law_script", "_law_rooms", "_law_now", "_law_most"]) (B:Bl mg) (h_law_part:Has P w K mg base n "_law_part" ["_law_script", "_law_at", "_law_k", "_law_many"] (spD K bA)) (h_law_stay:Has P w K mg base n "_law_stay" ["_law_script", "_law_at", "_law_turn", "_law_mode", "_law_now"] (spD K g_)) (h_law_guest:Has P w K mg base n "_law_guest" ["_law_script", "_law_at", "_law_turn", "_law_now", "_law_room"] (spD K iB)) (h_law_full:Has P w K mg base n "_law_full" ["_law_stays_here", "_law_rooms", "_law_now"] (spD K cN)):Has P w K mg base (n + 1) "_law_stays" ["_law_script", "_law_rooms", "_law_now", "_law_most"] (spD K jP):=by
 have sc:FnScope ["_law_script", "_law_rooms", "_law_now", "_law_most", "_law_mode", "_law_stays_here", "_law_room", "_law_at", "_law_many", "_law_wide", "_law_loose", "_law_k", "_law_new"] ["_law_script", "_law_rooms", "_law_now", "_law_most"] (aP (top 42)):=fsc
 exact gk (fl:=[.A,.A,.A,.A,.A,.O,.A,.A,.A,.A,.A,.A,.A]) D sc (by decide) (by decide) fun f cdv A outer s H E hr=>aY (sA (i:=4) sc.nd (jk (bB h_law_part hr (dq (vP 0) (dq iP (dq iP (dq iP dz)))))))
  (aY (pD (i:=5) rfl sc.nd rfl (by first | exact Or.inl rfl | exact Or.inr rfl) (Bc (lF dz)))
  (aY (mz (L:=[]) PassesOwn.never rfl (m9 (by rfl) B.range_ (zH (dq (vP 1) dz))) (gN' (i:=6) sc.nd) (bh (gF (rM (qm (dU (mY hr.units) yg (d8 (bB h_law_part hr (dq (vP 0) (dq iP (dq (vP 6) (dq iP dz)))))) iP (cO _)) (n6 (dU mO b_lt (bC (dM cF ju (by rfl) B.len_ PySem.boot_len (dq (oY (kW 5)) dz))) (vP 3) (cO _))))) (aY (sA (i:=7) sc.nd (jk (bB h_law_part hr (dq (vP 0) (dq iP (dq (bC (cZ fH gY iP (vP 6))) (dq (bC (cZ fH gY (bC (dM cF ju (by rfl) B.len_ PySem.boot_len (dq (oY (kW 5)) dz))) iP)) dz)))))))
  (bh (Bp (i:=5) rfl (vP 7) (jk (bB h_law_guest hr (dq (vP 0) (dq iP (dq (bC (cZ lE rH iP (vP 6))) (dq (vP 2) (dq (vP 6) dz))))))) rfl))) (cW))))
  (aY (sA (i:=8) sc.nd (jk (bB h_law_part hr (dq (vP 0) (dq iP (dq iP (dq iP dz)))))))
  (aY (sA (i:=9) sc.nd (cC (jW (mY hr.units) yg (d8 (bB h_law_part hr (dq (vP 0) (dq iP (dq iP (dq iP dz)))))) iP (cO _))))
  (aY (sA (i:=10) sc.nd (cC (jW (mY hr.units) yg (d8 (bB h_law_part hr (dq (vP 0) (dq iP (dq iP (dq iP dz)))))) iP (cO _))))
  (aY (mz (L:=[]) PassesOwn.never rfl (m9 (by rfl) B.range_ (zH (dq (b_ (dx (gP (jr (jh (dq (vA 8) (dq (cC (jC)) dz))))) (bC (Ly (dq (vP 9) dz) (by rfl) B.int_)))) dz))) (gN' (i:=11) sc.nd) (aY (sA (i:=12) sc.nd (jk (bB h_law_stay hr (dq (vP 0) (dq (bC (cZ fH gY iP (vP 11))) (dq iP (dq (vP 4) (dq (vP 2) dz))))))))
  (aY (sA (i:=7) sc.nd (jk (bB h_law_part hr (dq (vP 0) (dq iP (dq (vP 11) (dq (bC (cZ fH gY (bC (dM cF ju (by rfl) B.len_ PySem.boot_len (dq (oY (kW 5)) dz))) iP)) dz)))))))
  (bh (gF (rM (qm (dU mO b_lt (bC (dM cF ju (by rfl) B.len_ PySem.boot_len (dq (oY (kW 5)) dz))) (vP 3) (cO _)) (n6 (rM (oF (gD (vP 10)) (ql (uW (d8 (bB h_law_full hr (dq (O4 (o8 (kW 5) (gP (jr (jh (dq (vA 12) dz)))))) (dq (vP 1) (dq (vP 2) dz)))))))))))) (bh (Bp (i:=5) rfl (vP 7) (vA 12) rfl)) (cW))))))
  (bh (bY (yc 5 (by decide))))))))))
theorem ug (D:Dg K mg "_law_stretch" (top 44) ["_law_one"]) (B:Bl mg) (h_law_whole:Has P w K mg base n "_law_whole" ["_law_found"] (spD K cP)):Has P w K mg base (n + 1) "_law_stretch" ["_law_one"] (spD K dH):=by
 have sc:FnScope ["_law_one"] ["_law_one"] (aP (top 44)):=fsc
 exact gk (fl:=[.A]) D sc (by decide) (by decide) fun f cdv A outer s H E hr=>aY (gF (rM (oF (jL (gD (bC (o7 (T := "tuple") (by decide) (vP 0) (by rfl) B.isinstance_ (by rfl) B.tuple_ PyProof.Rows.boot_tuple)))) (oF (dU (qd hr.units) Fp (bC (dM cF ju (by rfl) B.len_ PySem.boot_len (dq (vP 0) dz))) iP (cO _)) (oF (jL (gD (d8 (bB h_law_whole hr (dq (b_ (dx (vB 0) iP)) dz))))) (ql (jL (gD (d8 (bB h_law_whole hr (dq (b_ (dx (vB 0) iP)) dz)))))))))) (bh (bY (bT (jR)))) (cW))
  (bh (bY (bT (kY (bC (jW wA Fj (b_ (dx (vB 0) iP)) iP (cO _))) (kY (bC (jW mO b_lt (b_ (dx (vB 0) iP)) (b_ (dx (vB 0) iP)) (cO _))) (nZ (jW rC yd (b_ (dx (vB 0) iP)) iP (cO _))))))))
theorem zf (D:Dg K mg "_law_good" (top 45) ["_law_one", "_law_rooms", "_law_now"]) (B:Bl mg) (h_law_whole:Has P w K mg base n "_law_whole" ["_law_found"] (spD K cP)) (h_law_stretch:Has P w K mg base n "_law_stretch" ["_law_one"] (spD K dH)):Has P w K mg base (n + 1) "_law_good" ["_law_one", "_law_rooms", "_law_now"] (spD K cY):=by
 have sc:FnScope ["_law_one", "_law_rooms", "_law_now"] ["_law_one", "_law_rooms", "_law_now"] (aP (top 45)):=fsc
 exact gk (fl:=[.A,.A,.A]) D sc (by decide) (by decide) fun f cdv A outer s H E hr=>aY (gF (jL (gD (d8 (bB h_law_stretch hr (dq (vP 0) dz))))) (bh (bY (bT (jR)))) (cW))
  (aY (gF (uW (b_ (dx (vB 0) iP))) (bh (bY (bT (jW wA Fj (b_ (dx (vB 0) iP)) (vP 2) (cO _))))) (cW))
  (aY (gF (rM (oF (jL (gD (d8 (bB h_law_whole hr (dq (b_ (dx (vB 0) iP)) dz))))) (oF (dU mO b_lt (b_ (dx (vB 0) iP)) iP (cO _)) (ql (dU wA Fj (b_ (dx (vB 0) iP)) (vP 1) (cO _)))))) (bh (bY (bT (jR)))) (cW))
  (bh (bY (bT (kY (bC (jW rC yd (b_ (dx (vB 0) iP)) (vP 2) (cO _))) (nZ (jW mO b_lt (vP 2) (b_ (dx (vB 0) iP)) (cO _)))))))))
theorem Ak (D:Dg K mg "_law_due" (top 46) ["_law_stays_here", "_law_rooms", "_law_now"]) (B:Bl mg) (h_law_full:Has P w K mg base n "_law_full" ["_law_stays_here", "_law_rooms", "_law_now"] (spD K cN)) (h_law_good:Has P w K mg base n "_law_good" ["_law_one", "_law_rooms", "_law_now"] (spD K cY)):Has P w K mg base (n + 1) "_law_due" ["_law_stays_here", "_law_rooms", "_law_now"] (spD K iD):=by
 have sc:FnScope ["_law_stays_here", "_law_rooms", "_law_now", "_law_taken", "_law_at", "_law_night"] ["_law_stays_here", "_law_rooms", "_law_now"] (aP (top 46)):=fsc
 exact gk (fl:=[.A,.A,.A,.O,.A,.A]) D sc (by decide) (by decide) fun f cdv A outer s H E hr=>aY (pD (i:=3) rfl sc.nd rfl (by first | exact Or.inl rfl | exact Or.inr rfl) (Bc (lF dz)))
  (aY (mz (L:=[]) PassesOwn.never rfl (m9 (by rfl) B.range_ (zH (dq (bC (dM cF ju (by rfl) B.len_ PySem.boot_len (dq (vP 0) dz))) dz))) (gN' (i:=4) sc.nd) (aY (gF (jL (gD (d8 (bB h_law_good hr (dq (b_ (dx (vB 0) (vP 4))) (dq (vP 1) (dq (vP 2) dz))))))) (bh (bY (dJ rfl (dq (bT (jE)) (dq (bT (gC (vP 4))) dz))))) (cW))
  (aY (gF (rM (qm (pF (b_ (dx (gP (dx (vB 0) (vP 4))) iP))) (n6 (dU (Ra hr.units) WL (b_ (dx (gP (dx (vB 0) (vP 4))) iP)) (oY (kW 3)) (by with_unfolding_all rfl))))) (bh (bY (dJ rfl (dq (bT (jE)) (dq (bT (gC (b_ (dx (gP (dx (vB 0) (vP 4))) iP)))) dz))))) (cW))
  (bh (Fq (i:=3) rfl (dx (gP (dx (vB 0) (vP 4))) iP) rfl)))))
  (aY (sA (i:=5) sc.nd (jk (bB h_law_full hr (dq (vP 0) (dq (vP 1) (dq (vP 2) dz))))))
  (aY (gF (pF (vP 5)) (bh (bY (dJ rfl (dq (bT (jE)) (dq (bT (gC (vP 5))) dz))))) (cW))
  (bh (bY (dJ rfl (dq (bT (jE)) (dq (bT (jC)) dz))))))))
theorem Al (D:Dg K mg "_law_odd" (top 47) ["_law_script", "_law_at", "_law_rooms", "_law_now"]) (B:Bl mg) (h_law_part:Has P w K mg base n "_law_part" ["_law_script", "_law_at", "_law_k", "_law_many"] (spD K bA)):Has P w K mg base (n + 1) "_law_odd" ["_law_script", "_law_at", "_law_rooms", "_law_now"] (spL K jG):=by
 have sc:FnScope ["_law_script", "_law_at", "_law_rooms", "_law_now", "_law_first", "_law_behind", "_law_room", "_law_some"] ["_law_script", "_law_at", "_law_rooms", "_law_now"] (aP (top 47)):=fsc
 exact IK (fl:=[.A,.A,.A,.A,.A,.A,.A,.A]) D sc (by decide) (by decide) fun f cdv A outer s H E hr=>aY (sA (i:=4) sc.nd (cC (dM (jU rfl) qt (by rfl) B.min_ PyProof.Rows.boot_min (dq iP (dq (bC (cZ fH gY (vP 3) (d8 (bB h_law_part hr (dq (vP 0) (dq (vP 1) (dq iP (dq iP dz)))))))) dz)))))
  (aY (sA (i:=5) sc.nd (cC (dM (jU rfl) qt (by rfl) B.min_ PyProof.Rows.boot_min (dq iP (dq (bC (cZ fH gY (bC (cZ fH gY (vP 4) iP)) (d8 (bB h_law_part hr (dq (vP 0) (dq (vP 1) (dq iP (dq iP dz)))))))) dz)))))
  (aY (sA (i:=6) sc.nd (jk (bB h_law_part hr (dq (vP 0) (dq (vP 1) (dq iP (dq (bC (cZ fH gY (vP 2) iP)) dz)))))))
  (aY (sA (i:=7) sc.nd (jr (jh (dq (cC (jD)) (dq (dJ rfl (dq (vA 4) (dq (vA 5) dz))) (dq (jr (jh (dq (vA 4) (dq (vA 5) (dq (cC (jD)) dz))))) (dq (dJ rfl (dq (vA 5) (dq (vA 4) (dq (cC (jD)) dz)))) (dq (dJ rfl (dq (vA 4) (dq (vA 4) (dq (cC (jD)) dz)))) dz))))))))
  (aY (sA (i:=7) sc.nd (jr (o8 (vB 7) (gP (jr (jh (dq (dJ rfl (dq (cC (Ij iP)) (dq (vA 5) (dq (cC (jD)) dz)))) (dq (dJ rfl (dq (vA 4) (dq (cC (jC)) (dq (cC (jD)) dz)))) (dq (dJ rfl (dq (cC (jR)) (dq (vA 5) (dq (cC (jD)) dz)))) (dq (dJ rfl (dq (vA 4) (dq (cC (XN.Mw (dq (vP 5) dz) (by rfl) B.str_)) (dq (cC (jD)) dz)))) (dq (cC (jC)) dz)))))))))))
  (aY (sA (i:=7) sc.nd (jr (o8 (vB 7) (gP (jr (jh (dq (dJ rfl (dq (vA 4) (dq (vA 5) (dq (cC (jR)) dz)))) (dq (dJ rfl (dq (vA 4) (dq (vA 5) (dq (cC (jR)) dz)))) dz))))))))
  (aY (sA (i:=7) sc.nd (jr (o8 (vB 7) (gP (jr (jh (dq (dJ rfl (dq (vA 4) (dq (vA 5) (dq (vA 2) dz)))) (dq (dJ rfl (dq (vA 4) (dq (vA 5) (dq (cC (Ij iP)) dz)))) (dq (dJ rfl (dq (vA 4) (dq (vA 5) (dq (cC (jE)) dz)))) (dq (dJ rfl (dq (vA 4) (dq (vA 5) (dq (cC (lF (dq iC dz))) dz)))) (dq (cC (jE)) (dq (jk (Uy (DN))) dz))))))))))))
  (aY (sA (i:=7) sc.nd (jr (o8 (vB 7) (gP (jr (jh (dq (dJ rfl (dq (cC (dM (jU rfl) qt (by rfl) B.min_ PyProof.Rows.boot_min (dq iP (dq (bC (cZ fH gY (vP 3) iP)) dz)))) (dq (cC (jC)) (dq (vA 6) dz)))) (dq (dJ rfl (dq (cC (dM (jT rfl) qp (by rfl) B.max_ PyProof.Rows.boot_max (dq iP (dq (bC (cZ uH zG (vP 3) iP)) dz)))) (dq (cC (dM (jT rfl) qp (by rfl) B.max_ PyProof.Rows.boot_max (dq iP (dq (vP 3) dz)))) (dq (vA 6) dz)))) (dq (jk (dJ rfl (dq (jc (dM (jT rfl) qp (by rfl) B.max_ PyProof.Rows.boot_max (dq iP (dq (bC (cZ uH zG (vP 3) iP)) dz)))) (dq iC (dq (jc (jD)) dz))))) dz)))))))))
  (aY (sA (i:=7) sc.nd (jr (o8 (vB 7) (gP (jr (jh (dq (dJ rfl (dq (cC (dM (jT rfl) qp (by rfl) B.max_ PyProof.Rows.boot_max (dq iP (dq (bC (cZ uH zG (vP 3) iP)) dz)))) (dq (cC (jC)) (dq (vA 6) dz)))) (dq (dJ rfl (dq (vA 3) (dq (cC (jC)) (dq (vA 6) dz)))) (dq (dJ rfl (dq (vA 3) (dq (cC (jC)) (dq (vA 6) dz)))) (dq (dJ rfl (dq (vA 4) (dq (vA 5) (dq (cC (jD)) (dq (cC (jD)) dz))))) dz))))))))))
  (bh (DQ (b_ (dx (vB 7) (d8 (bB h_law_part hr (dq (vP 0) (dq (vP 1) (dq iP (dq (bC (dM cF ju (by rfl) B.len_ PySem.boot_len (dq (vP 7) dz))) dz))))))))))))))))))
theorem Am (D:Dg K mg "_law_put" (top 48) ["_law_script", "_law_at", "_law_stays_here", "_law_rooms", "_law_now"]) (B:Bl mg) (h_law_part:Has P w K mg base n "_law_part" ["_law_script", "_law_at", "_law_k", "_law_many"] (spD K bA)) (h_law_odd:Has P w K mg base n "_law_odd" ["_law_script", "_law_at", "_law_rooms", "_law_now"] (spL K jG)):Has P w K mg base (n + 1) "_law_put" ["_law_script", "_law_at", "_law_stays_here", "_law_rooms", "_law_now"] (spL K iG):=by
 have sc:FnScope ["_law_script", "_law_at", "_law_stays_here", "_law_rooms", "_law_now", "_law_found", "_law_place", "_law_odd_here"] ["_law_script", "_law_at", "_law_stays_here", "_law_rooms", "_law_now"] (aP (top 48)):=fsc
 exact IK (fl:=[.A,.A,.A,.A,.A,.O,.A,.A]) D sc (by decide) (by decide) fun f cdv A outer s H E hr=>aY (pD (i:=5) rfl sc.nd rfl (by first | exact Or.inl rfl | exact Or.inr rfl) (uo (vB 2) (by rfl) B.list_))
  (aY (sA (i:=6) sc.nd (jk (bB h_law_part hr (dq (vP 0) (dq (vP 1) (dq iP (dq (bC (cZ fH gY (bC (dM cF ju (by rfl) B.len_ PySem.boot_len (dq (oY (kW 5)) dz))) iP)) dz)))))))
  (aY (XQ.Mx (os:=[5]) (ns:=[]) (i:=7) rfl rfl sc.nd rfl (by first | exact Or.inl rfl | exact Or.inr rfl) (rQ h_law_odd hr (dq (vP 0) (dq (vP 1) (dq (vP 3) (dq (vP 4) dz))))))
  (aY (gF (rM (qm (dU mO b_lt (vP 6) (bC (dM cF ju (by rfl) B.len_ PySem.boot_len (dq (oY (kW 5)) dz))) (cO _)) (n6 (dU (mY hr.units) yg (d8 (bB h_law_part hr (dq (vP 0) (dq (vP 1) (dq iP (dq iP dz)))))) iP (cO _))))) (bh (yh (i:=5) rfl (vA 7) (vP 6) rfl)) (bh (gF (dU mO b_lt (bC (dM cF ju (by rfl) B.len_ PySem.boot_len (dq (oY (kW 5)) dz))) iP (cO _)) (bh (Bp (i:=5) rfl (vP 6) (vA 7) rfl)) (cW))))
  (bh (DQ (oY (kW 5)))))))
theorem vO (D:Dg K mg "_law_caught" (top 49) ["_law_way", "_law_stays_here", "_law_rooms", "_law_now"]) (B:Bl mg) (xis_plan:HasX P w K mg base fld n "is_plan" ["stays", "rooms", "now", "thing"] (spX K mg fU) []) (xseated:HasX P w K mg base fld n "seated" ["stays", "rooms", "now"] (spX K mg eY) []) (sNoStay:SuiU K mg fld "NoStay" "at" "InnError" [("NoStay", true),("Taken", false),("TooFull", false)]) (sTaken:SuiU K mg fld "Taken" "room" "InnError" [("NoStay", false),("Taken", true),("TooFull", false)]) (sTooFull:SuiU K mg fld "TooFull" "night" "InnError" [("NoStay", false),("Taken", false),("TooFull", true)]) (vValueError:mg "ValueError" = none):Has P w K mg base (n + 1) "_law_caught" ["_law_way", "_law_stays_here", "_law_rooms", "_law_now"] (spD K cI):=by
 have sc:FnScope ["_law_way", "_law_stays_here", "_law_rooms", "_law_now", "e", "_law_kinds"] ["_law_way", "_law_stays_here", "_law_rooms", "_law_now"] (aP (top 49)):=fsc
 exact gk (fl:=[.A,.A,.A,.A,.A,.A]) D sc (by decide) (by decide) fun f cdv A outer s H E hr=>aY (Mt (i:=4) (cs:=["NoStay", "Taken", "TooFull"]) (fS:=fun c d=>if c = "NoStay" then aW (bJ 5 (d_ (aj (dC (.bool true)) (aj (dC (.bool false)) (aj (dC (.bool false)) (aJ)))))) (aW (sIf (D3.tOr (D3.dG (fun _=>some true)) (aM (dOp gNe (dOp gU (aD 5) (dC (.bool true))) (dC (.int 1))))) (bO (dTup (aj (dC (.str "odd")) (aj (dC (.int 0)) (aJ))))) (bI)) (aW (sIf (aM (dOp gIx (aD 5) (dC (.int 0)))) (bO (dTup (aj (dC (.str "stay")) (aj (dC d) (aJ))))) (bI)) (aW (sIf (aM (dOp gIx (aD 5) (dC (.int 1)))) ((fun _=>none)) (bI)) ((fun _=>none))))) else if c = "Taken" then aW (bJ 5 (d_ (aj (dC (.bool false)) (aj (dC (.bool true)) (aj (dC (.bool false)) (aJ)))))) (aW (sIf (D3.tOr (D3.dG (fun _=>some true)) (aM (dOp gNe (dOp gU (aD 5) (dC (.bool true))) (dC (.int 1))))) (bO (dTup (aj (dC (.str "odd")) (aj (dC (.int 0)) (aJ))))) (bI)) (aW (sIf (aM (dOp gIx (aD 5) (dC (.int 0)))) ((fun _=>none)) (bI)) (aW (sIf (aM (dOp gIx (aD 5) (dC (.int 1)))) (bO (dTup (aj (dC (.str "taken")) (aj (dC d) (aJ))))) (bI)) ((fun _=>none))))) else if c = "TooFull" then aW (bJ 5 (d_ (aj (dC (.bool false)) (aj (dC (.bool false)) (aj (dC (.bool true)) (aJ)))))) (aW (sIf (D3.tOr (D3.dG (fun _=>some true)) (aM (dOp gNe (dOp gU (aD 5) (dC (.bool true))) (dC (.int 1))))) (bO (dTup (aj (dC (.str "odd")) (aj (dC (.int 0)) (aJ))))) (bI)) (aW (sIf (aM (dOp gIx (aD 5) (dC (.int 0)))) ((fun _=>none)) (bI)) (aW (sIf (aM (dOp gIx (aD 5) (dC (.int 1)))) ((fun _=>none)) (bI)) (bO (dTup (aj (dC (.str "full")) (aj (dC d) (aJ)))))))) else (fun _=>none)) (Rm (dU (mY hr.units) yg (vP 0) iP (cO _)) (zV (dd:=[]) xseated (fun H=>.nil) hr (dq (vP 1) (dq (vP 2) (dq (vP 3) dz)))) (zV (dd:=[]) xis_plan (fun H=>.nil) hr (dq (vP 1) (dq (vP 2) (dq (vP 3) (dq (bC (jZ (L:=[]) (fl':=[.A]) rfl ["_law_stay_here"] [] [] (iU (vB 1)) (fun _ _ _ _ _=>gN' (i:=0) (show (["_law_stay_here"]:List Str).Nodup by decide +kernel)) (fun _ _ _ _ _=>n8) (fun _ _ _ _ _=>jc (jC)))) dz)))))) (aR.mpr ⟨sX (i:=4) (g:=fun d=>aW (bJ 5 (d_ (aj (dC (.bool true)) (aj (dC (.bool false)) (aj (dC (.bool false)) (aJ)))))) (aW (sIf (D3.tOr (D3.dG (fun _=>some true)) (aM (dOp gNe (dOp gU (aD 5) (dC (.bool true))) (dC (.int 1))))) (bO (dTup (aj (dC (.str "odd")) (aj (dC (.int 0)) (aJ))))) (bI)) (aW (sIf (aM (dOp gIx (aD 5) (dC (.int 0)))) (bO (dTup (aj (dC (.str "stay")) (aj (dC d) (aJ))))) (bI)) (aW (sIf (aM (dOp gIx (aD 5) (dC (.int 1)))) ((fun _=>none)) (bI)) ((fun _=>none)))))) true sNoStay B.isinstance_ rfl (fun d=>by rw [if_pos rfl]) (fun a oa xd od v d S hfd=>iJ (yx (j:=5) (show (4:Nat) ≠ 5 by decide) rfl sc.nd rfl (by first | exact Or.inl rfl | exact Or.inr rfl) (Bx (BL (iw rfl (mD (rR (z:=⟨_,a,v,d⟩) (S.is ("NoStay", true) (by decide) rfl (by decide) _ _ _ _))) (iw rfl (mD (rR (z:=⟨_,a,v,d⟩) (S.is ("Taken", false) (by decide) rfl (by decide) _ _ _ _))) (iw rfl (mD (rR (z:=⟨_,a,v,d⟩) (S.is ("TooFull", false) (by decide) rfl (by decide) _ _ _ _))) (sV))))))) (iJ (rW (Ro (Jk (BP (Jj (z:=⟨_,a,v,d⟩) (S.isv vValueError rfl _ _ _ _))) (BR (rT (dU (qd hr.units) Fp (bC (XN.Cd (vP 5) (bC (jR)))) iP (cO _)))))) (jy (sW (wY (dJ rfl (dq (bT (jE)) (dq (bT (jC)) dz)))))) (lH)) (iJ (rW (rT (gD (b_ (dx (vB 5) iP)))) (jy (sW (BK rfl (iw rfl (wY (bT (jE))) (iw rfl (BJ (BX S)) (sV)))))) (lH)) (iJ (rW (rT (gD (b_ (dx (vB 5) iP)))) (jy (nC)) (lH)) (jy (nC)))))),aR.mpr ⟨sX (i:=4) (g:=fun d=>aW (bJ 5 (d_ (aj (dC (.bool false)) (aj (dC (.bool true)) (aj (dC (.bool false)) (aJ)))))) (aW (sIf (D3.tOr (D3.dG (fun _=>some true)) (aM (dOp gNe (dOp gU (aD 5) (dC (.bool true))) (dC (.int 1))))) (bO (dTup (aj (dC (.str "odd")) (aj (dC (.int 0)) (aJ))))) (bI)) (aW (sIf (aM (dOp gIx (aD 5) (dC (.int 0)))) ((fun _=>none)) (bI)) (aW (sIf (aM (dOp gIx (aD 5) (dC (.int 1)))) (bO (dTup (aj (dC (.str "taken")) (aj (dC d) (aJ))))) (bI)) ((fun _=>none)))))) true sTaken B.isinstance_ rfl (fun d=>by rw [if_neg (by decide)];rw [if_pos rfl]) (fun a oa xd od v d S hfd=>iJ (yx (j:=5) (show (4:Nat) ≠ 5 by decide) rfl sc.nd rfl (by first | exact Or.inl rfl | exact Or.inr rfl) (Bx (BL (iw rfl (mD (rR (z:=⟨_,a,v,d⟩) (S.is ("NoStay", false) (by decide) rfl (by decide) _ _ _ _))) (iw rfl (mD (rR (z:=⟨_,a,v,d⟩) (S.is ("Taken", true) (by decide) rfl (by decide) _ _ _ _))) (iw rfl (mD (rR (z:=⟨_,a,v,d⟩) (S.is ("TooFull", false) (by decide) rfl (by decide) _ _ _ _))) (sV))))))) (iJ (rW (Ro (Jk (BP (Jj (z:=⟨_,a,v,d⟩) (S.isv vValueError rfl _ _ _ _))) (BR (rT (dU (qd hr.units) Fp (bC (XN.Cd (vP 5) (bC (jR)))) iP (cO _)))))) (jy (sW (wY (dJ rfl (dq (bT (jE)) (dq (bT (jC)) dz)))))) (lH)) (iJ (rW (rT (gD (b_ (dx (vB 5) iP)))) (jy (nC)) (lH)) (iJ (rW (rT (gD (b_ (dx (vB 5) iP)))) (jy (sW (BK rfl (iw rfl (wY (bT (jE))) (iw rfl (BJ (BX S)) (sV)))))) (lH)) (jy (nC)))))),aR.mpr ⟨sX (i:=4) (g:=fun d=>aW (bJ 5 (d_ (aj (dC (.bool false)) (aj (dC (.bool false)) (aj (dC (.bool true)) (aJ)))))) (aW (sIf (D3.tOr (D3.dG (fun _=>some true)) (aM (dOp gNe (dOp gU (aD 5) (dC (.bool true))) (dC (.int 1))))) (bO (dTup (aj (dC (.str "odd")) (aj (dC (.int 0)) (aJ))))) (bI)) (aW (sIf (aM (dOp gIx (aD 5) (dC (.int 0)))) ((fun _=>none)) (bI)) (aW (sIf (aM (dOp gIx (aD 5) (dC (.int 1)))) ((fun _=>none)) (bI)) (bO (dTup (aj (dC (.str "full")) (aj (dC d) (aJ))))))))) true sTooFull B.isinstance_ rfl (fun d=>by rw [if_neg (by decide)];rw [if_neg (by decide)];rw [if_pos rfl]) (fun a oa xd od v d S hfd=>iJ (yx (j:=5) (show (4:Nat) ≠ 5 by decide) rfl sc.nd rfl (by first | exact Or.inl rfl | exact Or.inr rfl) (Bx (BL (iw rfl (mD (rR (z:=⟨_,a,v,d⟩) (S.is ("NoStay", false) (by decide) rfl (by decide) _ _ _ _))) (iw rfl (mD (rR (z:=⟨_,a,v,d⟩) (S.is ("Taken", false) (by decide) rfl (by decide) _ _ _ _))) (iw rfl (mD (rR (z:=⟨_,a,v,d⟩) (S.is ("TooFull", true) (by decide) rfl (by decide) _ _ _ _))) (sV))))))) (iJ (rW (Ro (Jk (BP (Jj (z:=⟨_,a,v,d⟩) (S.isv vValueError rfl _ _ _ _))) (BR (rT (dU (qd hr.units) Fp (bC (XN.Cd (vP 5) (bC (jR)))) iP (cO _)))))) (jy (sW (wY (dJ rfl (dq (bT (jE)) (dq (bT (jC)) dz)))))) (lH)) (iJ (rW (rT (gD (b_ (dx (vB 5) iP)))) (jy (nC)) (lH)) (iJ (rW (rT (gD (b_ (dx (vB 5) iP)))) (jy (nC)) (lH)) (jy (sW (BK rfl (iw rfl (wY (bT (jE))) (iw rfl (BJ (BX S)) (sV)))))))))),kZ _⟩⟩⟩) rfl rfl sc.nd rfl)
  (bh (bY (dJ rfl (dq (bT (jE)) (dq (bT (jC)) dz)))))
theorem zj (D:Dg K mg "_law_told" (top 50) ["_law_stays_here", "_law_rooms", "_law_now"]) (B:Bl mg) (h_law_whole:Has P w K mg base n "_law_whole" ["_law_found"] (spD K cP)) (h_law_due:Has P w K mg base n "_law_due" ["_law_stays_here", "_law_rooms", "_law_now"] (spD K iD)) (h_law_caught:Has P w K mg base n "_law_caught" ["_law_way", "_law_stays_here", "_law_rooms", "_law_now"] (spD K cI)):Has P w K mg base (n + 1) "_law_told" ["_law_stays_here", "_law_rooms", "_law_now"] (spD K gO):=by
 have sc:FnScope ["_law_stays_here", "_law_rooms", "_law_now", "_law_due_here", "_law_handed", "_law_found"] ["_law_stays_here", "_law_rooms", "_law_now"] (aP (top 50)):=fsc
 exact gk (fl:=[.A,.A,.A,.A,.A,.A]) D sc (by decide) (by decide) fun f cdv A outer s H E hr=>aY (sA (i:=3) sc.nd (jk (bB h_law_due hr (dq (vP 0) (dq (vP 1) (dq (vP 2) dz))))))
  (aY (sA (i:=4) sc.nd (jr (uo (vB 0) (by rfl) B.list_)))
  (aY (sA (i:=5) sc.nd (jk (bB h_law_caught hr (dq iP (dq (vP 4) (dq (vP 1) (dq (vP 2) dz)))))))
  (aY (gF (rM (oF (dU (Jr hr.units) Pg (vP 5) (vP 3) (cO _)) (oF (jL (gD (d8 (bB h_law_whole hr (dq (b_ (dx (vB 5) iP)) dz))))) (ql (dU (Jr hr.units) Pg (vP 4) (vP 0) (cO _)))))) (bh (bY (bT (jR)))) (cW))
  (aY (gF (dU (Br hr.units) Iz (b_ (dx (vB 3) iP)) (bC (jE)) (cO _)) (bh (sA (i:=3) sc.nd (jk (dJ rfl (dq (jc (jE)) (dq iC dz)))))) (cW))
  (bh (bY (bT (kY (bC (jW (Br hr.units) Iz (d8 (bB h_law_caught hr (dq iP (dq (vP 4) (dq (vP 1) (dq (vP 2) dz)))))) (vP 3) (cO _))) (nZ (jW (Br hr.units) Iz (vP 4) (vP 0) (cO _)))))))))))
theorem TJ {f:Addr} {fd:FuncData} (Fn:FunD K "law" (top 51) f fd) (B:Bl mg) (h_law_numbers:Has P w K mg base n "_law_numbers" ["_law_script"] (spD K fO)) (h_law_stays:Has P w K mg base n "_law_stays" ["_law_script", "_law_rooms", "_law_now", "_law_most"] (spD K jP)) (h_law_put:Has P w K mg base n "_law_put" ["_law_script", "_law_at", "_law_stays_here", "_law_rooms", "_law_now"] (spL K iG)) (h_law_told:Has P w K mg base n "_law_told" ["_law_stays_here", "_law_rooms", "_law_now"] (spD K gO)):FnOk P w K mg base CX0 (n + 1) f fd ["_law_script"] (spD K Ke):=by
 have sc:FnScope ["_law_script", "_law_rooms", "_law_now", "_law_stays_here", "_law_one", "_law_both", "_law_some"] ["_law_script"] (aP (top 51)):=fsc
 exact Il (fl:=[.A,.A,.A,.A,.A,.A,.A]) Fn sc (by decide) (by decide) fun f cdv A outer s H E hr=>aY (QT (jk (bB h_law_numbers hr (dq (vP 0) dz))) (uT rfl (jt (gN' (i:=1) sc.nd) (jt (gN' (i:=2) sc.nd) (rK)))))
  (aY (sA (i:=3) sc.nd (jk (bB h_law_stays hr (dq (vP 0) (dq (vP 1) (dq (vP 2) (dq iP dz)))))))
  (aY (sA (i:=4) sc.nd (Rc rfl (rQ h_law_put hr (dq (vP 0) (dq iP (dq (vP 3) (dq (vP 1) (dq (vP 2) dz))))))))
  (aY (sA (i:=5) sc.nd (Rc rfl (rQ h_law_put hr (dq (vP 0) (dq iP (dq (vP 4) (dq (vP 1) (dq (vP 2) dz))))))))
  (aY (mz (L:=[]) PassesOwn.never rfl (iU (gP (jr (jh (dq (vA 3) (dq (vA 5) (dq (vA 4) (dq (Rc rfl (rQ h_law_put hr (dq (vP 0) (dq iP (dq (vP 3) (dq (vP 1) (dq (vP 2) dz))))))) (dq (vA 3) dz))))))))) (gN' (i:=6) sc.nd) (bh (gF (jL (gD (d8 (bB h_law_told hr (dq (vP 6) (dq (vP 1) (dq (vP 2) dz))))))) (bh (bY (bT (jR)))) (cW))))
  (bh (bY (bT (jR))))))))
end
end K32
namespace D3
theorem len0 {p:List PySem.Value→Prop} (h:p []):∀ us,us.length=0→p us:=fun us hl=>by
 cases us with
 | nil=>exact h
 | cons _ _=>cases hl
theorem cG {n:Nat} {p:List PySem.Value→Prop} (h:∀ a us,us.length=n→p (a :: us)):∀ us,us.length=n + 1→p us:=fun us hl=>by
 cases us with
 | nil=>cases hl
 | cons a r=>exact h a r (Nat.succ.inj hl)
end D3
namespace K32
open PySem L2 My D3
structure Txt (K:PySem.W.Frag) (mg:Str→Option Value):Prop where
 d_is_whole:Dg K mg "is_whole" (top 6) ["thing"]
 d_all_whole:Dg K mg "all_whole" (top 7) ["things"]
 d_is_tuple_of:Dg K mg "is_tuple_of" (top 8) ["thing", "many"]
 d_is_pair:Dg K mg "is_pair" (top 9) ["thing"]
 d_is_whole_list:Dg K mg "is_whole_list" (top 10) ["thing"]
 d_is_stretch:Dg K mg "is_stretch" (top 13) ["thing"]
 d_nights_of:Dg K mg "nights_of" (top 14) ["stay"]
 d_holds:Dg K mg "holds" (top 15) ["stretch", "night"]
 d_shared:Dg K mg "shared" (top 16) ["one", "other"]
 d_meets:Dg K mg "meets" (top 17) ["one", "other"]
 d_count_at:Dg K mg "count_at" (top 18) ["stretches", "night"]
 d_firsts:Dg K mg "firsts" (top 19) ["stretches"]
 d_fuller:Dg K mg "fuller" (top 20) ["stretches", "many", "since"]
 d_is_stay:Dg K mg "is_stay" (top 22) ["thing", "rooms", "now"]
 d_check_stays:Dg K mg "check_stays" (top 23) ["stays", "rooms", "now"]
 d_check_full:Dg K mg "check_full" (top 24) ["stays", "rooms", "now"]
 d_still_to_come:XL.DgT K mg "still_to_come" (top 25) ["stays"] 189 "still_to_come.<locals>.<lambda>" ⟨76,30,76,59⟩
 d_beginnings:Dg K mg "beginnings" (top 26) ["stays", "rooms", "now"]
 d_first_free:Dg K mg "first_free" (top 27) ["begin", "night"]
 d_filled:Dg K mg "filled" (top 28) ["stays", "plan", "begin"]
 d_seated:Dg K mg "seated" (top 29) ["stays", "rooms", "now"]
 d_has_fit_room:Dg K mg "has_fit_room" (top 31) ["stay", "room", "rooms"]
 d_is_apart:Dg K mg "is_apart" (top 32) ["stays", "plan", "place"]
 d_is_plan:Dg K mg "is_plan" (top 33) ["stays", "rooms", "now", "thing"]
 d__law_cell:Dg K mg "_law_cell" (top 35) ["_law_script", "_law_at"]
 d__law_part:Dg K mg "_law_part" (top 36) ["_law_script", "_law_at", "_law_k", "_law_many"]
 d__law_whole:Dg K mg "_law_whole" (top 37) ["_law_found"]
 d__law_stay:Dg K mg "_law_stay" (top 38) ["_law_script", "_law_at", "_law_turn", "_law_mode", "_law_now"]
 d__law_guest:Dg K mg "_law_guest" (top 39) ["_law_script", "_law_at", "_law_turn", "_law_now", "_law_room"]
 d__law_full:Dg K mg "_law_full" (top 40) ["_law_stays_here", "_law_rooms", "_law_now"]
 d__law_numbers:Dg K mg "_law_numbers" (top 41) ["_law_script"]
 d__law_stays:Dg K mg "_law_stays" (top 42) ["_law_script", "_law_rooms", "_law_now", "_law_most"]
 d__law_stretch:Dg K mg "_law_stretch" (top 44) ["_law_one"]
 d__law_good:Dg K mg "_law_good" (top 45) ["_law_one", "_law_rooms", "_law_now"]
 d__law_due:Dg K mg "_law_due" (top 46) ["_law_stays_here", "_law_rooms", "_law_now"]
 d__law_odd:Dg K mg "_law_odd" (top 47) ["_law_script", "_law_at", "_law_rooms", "_law_now"]
 d__law_put:Dg K mg "_law_put" (top 48) ["_law_script", "_law_at", "_law_stays_here", "_law_rooms", "_law_now"]
 d__law_caught:Dg K mg "_law_caught" (top 49) ["_law_way", "_law_stays_here", "_law_rooms", "_law_now"]
 d__law_told:Dg K mg "_law_told" (top 50) ["_law_stays_here", "_law_rooms", "_law_now"]
 d_law:Dl K mg "law" "_law_script" (top 51)
 e_seated:DgD K mg "seated" (top 29) ["stays", "rooms", "now"] [V.int 0] ["now"]
 z_NoStay:XC.ExcG K mg (fun C=>if C=44 then "at" else if C=63 then "room" else if C=82 then "night" else "") "NoStay" "at" "InnError"
 z_Taken:XC.ExcG K mg (fun C=>if C=44 then "at" else if C=63 then "room" else if C=82 then "night" else "") "Taken" "room" "InnError"
 z_TooFull:XC.ExcG K mg (fun C=>if C=44 then "at" else if C=63 then "room" else if C=82 then "night" else "") "TooFull" "night" "InnError"
 s_NoStay:XC.SuiU K mg (fun C=>if C=44 then "at" else if C=63 then "room" else if C=82 then "night" else "") "NoStay" "at" "InnError" [("NoStay", true),("Taken", false),("TooFull", false)]
 s_Taken:XC.SuiU K mg (fun C=>if C=44 then "at" else if C=63 then "room" else if C=82 then "night" else "") "Taken" "room" "InnError" [("NoStay", false),("Taken", true),("TooFull", false)]
 s_TooFull:XC.SuiU K mg (fun C=>if C=44 then "at" else if C=63 then "room" else if C=82 then "night" else "") "TooFull" "night" "InnError" [("NoStay", false),("Taken", false),("TooFull", true)]
 v_ValueError:mg "ValueError" = none
 blt:Bl mg
 c_NIGHTS:∃ t,mg "NIGHTS" = some (.int 400 t)
theorem TQ {P:Program} {w:World} {K:PySem.W.Frag} {mg:Str→Option Value} {base:Heap} (T:Txt K mg) {f:Addr} {fd:FuncData} (F:FunD K "law" (top 51) f fd):FnOk P w K mg base CX0 65 f fd ["_law_script"] (Im K):=by
 have h_is_whole:=Ag (P:=P) (w:=w) (base:=base) (n:=0) T.d_is_whole T.blt
 have h_nights_of:=yV (P:=P) (w:=w) (base:=base) (n:=0) T.d_nights_of T.blt
 have h_holds:=Kv (P:=P) (w:=w) (base:=base) (n:=0) T.d_holds T.blt
 have h_shared:=GR (P:=P) (w:=w) (base:=base) (n:=0) T.d_shared T.blt
 have h_firsts:=GX (P:=P) (w:=w) (base:=base) (n:=0) T.d_firsts T.blt
 have h_still_to_come:=tu (P:=P) (w:=w) (base:=base) (n:=0) T.d_still_to_come T.blt
 have h_beginnings:=v5 (P:=P) (w:=w) (base:=base) (n:=0) T.d_beginnings T.blt
 have h_first_free:=v8 (P:=P) (w:=w) (base:=base) (n:=0) T.d_first_free T.blt
 have h_has_fit_room:=ud (P:=P) (w:=w) (base:=base) (n:=0) T.d_has_fit_room T.blt
 have h__law_cell:=yW (P:=P) (w:=w) (base:=base) (n:=0) T.d__law_cell T.blt
 have h__law_whole:=v9 (P:=P) (w:=w) (base:=base) (n:=0) T.d__law_whole T.blt
 have h__law_full:=zc (P:=P) (w:=w) (base:=base) (n:=0) T.d__law_full T.blt
 have h_all_whole:=yU (P:=P) (w:=w) (base:=base) (n:=1) T.d_all_whole T.blt (h_is_whole.mono (by decide))
 have h_meets:=Kw (P:=P) (w:=w) (base:=base) (n:=1) T.d_meets T.blt (h_shared.mono (by decide))
 have h_count_at:=Ah (P:=P) (w:=w) (base:=base) (n:=1) T.d_count_at T.blt (h_holds.mono (by decide))
 have h_filled:=G3 (P:=P) (w:=w) (base:=base) (n:=1) T.d_filled T.blt (h_still_to_come.mono (by decide)) (h_first_free.mono (by decide))
 have h__law_part:=yX (P:=P) (w:=w) (base:=base) (n:=1) T.d__law_part T.blt (h__law_cell.mono (by decide))
 have h__law_stretch:=ug (P:=P) (w:=w) (base:=base) (n:=1) T.d__law_stretch T.blt (h__law_whole.mono (by decide))
 have h_is_tuple_of:=vM (P:=P) (w:=w) (base:=base) (n:=2) T.d_is_tuple_of T.blt (h_all_whole.mono (by decide))
 have h_is_whole_list:=sZ (P:=P) (w:=w) (base:=base) (n:=2) T.d_is_whole_list T.blt (h_all_whole.mono (by decide))
 have h_fuller:=GZ (P:=P) (w:=w) (base:=base) (n:=2) T.d_fuller T.blt (h_count_at.mono (by decide)) (h_firsts.mono (by decide))
 have h_is_apart:=Ai (P:=P) (w:=w) (base:=base) (n:=2) T.d_is_apart T.blt (h_nights_of.mono (by decide)) (h_meets.mono (by decide))
 have h__law_stay:=yZ (P:=P) (w:=w) (base:=base) (n:=2) T.d__law_stay T.blt (h__law_part.mono (by decide))
 have h__law_guest:=wg (P:=P) (w:=w) (base:=base) (n:=2) T.d__law_guest T.blt (h__law_part.mono (by decide))
 have h__law_numbers:=uf (P:=P) (w:=w) (base:=base) (n:=2) T.d__law_numbers T.blt (h__law_part.mono (by decide))
 have h__law_good:=zf (P:=P) (w:=w) (base:=base) (n:=2) T.d__law_good T.blt (h__law_whole.mono (by decide)) (h__law_stretch.mono (by decide))
 have h__law_odd:=Al (P:=P) (w:=w) (base:=base) (n:=2) T.d__law_odd T.blt (h__law_part.mono (by decide))
 have h_is_pair:=CV (P:=P) (w:=w) (base:=base) (n:=3) T.d_is_pair T.blt (h_is_tuple_of.mono (by decide))
 have x_check_full:=vN (P:=P) (w:=w) (base:=base) (fld:=(fun C=>if C=44 then "at" else if C=63 then "room" else if C=82 then "night" else "")) (n:=1) T.d_check_full T.blt (h_nights_of.mono (by decide)) (h_fuller.mono (by decide)) T.z_TooFull
 have h__law_stays:=wj (P:=P) (w:=w) (base:=base) (n:=3) T.d__law_stays T.blt (h__law_part.mono (by decide)) (h__law_stay.mono (by decide)) (h__law_guest.mono (by decide)) (h__law_full.mono (by decide))
 have h__law_due:=Ak (P:=P) (w:=w) (base:=base) (n:=3) T.d__law_due T.blt (h__law_full.mono (by decide)) (h__law_good.mono (by decide))
 have h__law_put:=Am (P:=P) (w:=w) (base:=base) (n:=3) T.d__law_put T.blt (h__law_part.mono (by decide)) (h__law_odd.mono (by decide))
 have h_is_stretch:=vZ (P:=P) (w:=w) (base:=base) (n:=4) T.d_is_stretch T.blt (h_is_pair.mono (by decide)) T.c_NIGHTS
 have h_is_stay:=CW (P:=P) (w:=w) (base:=base) (n:=5) T.d_is_stay T.blt (h_is_whole.mono (by decide)) (h_is_stretch.mono (by decide)) (h_nights_of.mono (by decide)) (h_holds.mono (by decide))
 have x_check_stays:=uc (P:=P) (w:=w) (base:=base) (fld:=(fun C=>if C=44 then "at" else if C=63 then "room" else if C=82 then "night" else "")) (n:=4) T.d_check_stays T.blt (h_is_stay.mono (by decide)) T.z_NoStay T.z_Taken
 have x_seated:=CZ (P:=P) (w:=w) (base:=base) (fld:=(fun C=>if C=44 then "at" else if C=63 then "room" else if C=82 then "night" else "")) (n:=5) T.d_seated T.blt (h_beginnings.mono (by decide)) (h_filled.mono (by decide)) (x_check_full.mono (by decide)) (x_check_stays.mono (by decide))
 have y_seated:=C_ (P:=P) (w:=w) (base:=base) (fld:=(fun C=>if C=44 then "at" else if C=63 then "room" else if C=82 then "night" else "")) (n:=5) T.e_seated T.blt (h_beginnings.mono (by decide)) (h_filled.mono (by decide)) (x_check_full.mono (by decide)) (x_check_stays.mono (by decide))
 have x_is_plan:=Aj (P:=P) (w:=w) (base:=base) (fld:=(fun C=>if C=44 then "at" else if C=63 then "room" else if C=82 then "night" else "")) (n:=5) T.d_is_plan T.blt (h_is_whole_list.mono (by decide)) (h_has_fit_room.mono (by decide)) (h_is_apart.mono (by decide)) (x_check_stays.mono (by decide))
 have h__law_caught:=vO (P:=P) (w:=w) (base:=base) (n:=8) T.d__law_caught T.blt (x_is_plan.mono (by decide)) (x_seated.mono (by decide)) T.s_NoStay T.s_Taken T.s_TooFull T.v_ValueError
 have h__law_told:=zj (P:=P) (w:=w) (base:=base) (n:=9) T.d__law_told T.blt (h__law_whole.mono (by decide)) (h__law_due.mono (by decide)) (h__law_caught.mono (by decide))
 exact ((TJ (P:=P) (w:=w) (base:=base) (n:=10) F T.blt (h__law_numbers.mono (by decide)) (h__law_stays.mono (by decide)) (h__law_put.mono (by decide)) (h__law_told.mono (by decide))).mono (by decide)).imp (Lw K32.Ku)
end K32
def PySem.W.Fast.tw7922002961923833119:=0
def PySem.W.Fast.tw7604395211604938021:=0
def PySem.W.Fast.tw13335926643858686238:=0
def PySem.W.Fast.tw9996430009806287796:=0
def PySem.W.Fast.tw978329742147622462:=0
def PySem.W.Fast.tw14912652620966890590:=0
def PySem.W.Fast.tw6233520780361130899:=0
def PySem.W.Fast.tw11689140968591166605:=0
def PySem.W.Fast.tw11777863488614837707:=0
def PySem.W.Fast.tw14703444218884037700:=0
def PySem.W.Fast.tw4470022222772588396:=0
def PySem.W.Fast.tw8995480249688276990:=0
def PySem.W.Fast.tw13794993455542611875:=0
def PySem.W.Fast.tw119987441700476761:=0
def PySem.W.Fast.tw12318054516208501920:=0
def PySem.W.Fast.tw14055838329643108693:=0
def PySem.W.Fast.tw7534058547285748301:=0
def PySem.W.Fast.tw10182577379032199482:=0
def PySem.W.Fast.tw8401040390033993100:=0
open PySem PySem.W PyProof.Rows
set_option maxRecDepth 100000 in
set_option maxHeartbeats 0 in
theorem PySem.Challenge.cw_nightbook_k32_stays_refused_holds : PySem.Challenge.rw_nightbook_k32_stays_refused.Holds := by
 w_on;o_law;k_head;(case hw=>w_witness2)
 k_fill
 refine L2.Hy (l:=PySem.Challenge.rw_nightbook_k32_stays_refused) (n:=63) (k:=65) (x := "_law_script") (CX:=L2.CX0) (sp:=D3.Im) rfl (by decide) rfl ⟨rfl,by decide,by decide⟩ (fun w h Y=>PySem.W.km_in_of Y) ?F D3.tabs (fun w h Y=>XL.M6 (c:=191) (PySem.W.km_in_of Y) (PySem.W.km_tabs_of Y _ (aG)) (by kernel_rfl) (by kernel_rfl)) XL.JB ?S ?C
 case F =>
  intro w mg fa h KX G hmg
  have T:K32.Txt (L2.KOf KX) mg:=by
   dsimp only [L2.KOf]
   have d_is_whole:D3.Dg (L2.KOf KX) mg "is_whole" (K32.top 6) ["thing"]:=by
    dsimp only [L2.KOf]
    refine' D3.fB KX G ?b ?a ?l ?c ?k
    (case a=>k_is);(case l=>k_is);(case c=>k_is);(case k=>k_is)
    (case b=>exact fun _ _ _ _ _ _=>D3.cG fun _=>D3.len0 rfl)
   have d_all_whole:D3.Dg (L2.KOf KX) mg "all_whole" (K32.top 7) ["things"]:=by
    dsimp only [L2.KOf]
    refine' D3.fB KX G ?b ?a ?l ?c ?k
    (case a=>k_is);(case l=>k_is);(case c=>k_is);(case k=>k_is)
    (case b=>exact fun _ _ _ _ _ _=>D3.cG fun _=>D3.len0 rfl)
   have d_is_tuple_of:D3.Dg (L2.KOf KX) mg "is_tuple_of" (K32.top 8) ["thing", "many"]:=by
    dsimp only [L2.KOf]
    refine' D3.fB KX G ?b ?a ?l ?c ?k
    (case a=>k_is);(case l=>k_is);(case c=>k_is);(case k=>k_is)
    (case b=>exact fun _ _ _ _ _ _=>D3.cG fun _=>D3.cG fun _=>D3.len0 rfl)
   have d_is_pair:D3.Dg (L2.KOf KX) mg "is_pair" (K32.top 9) ["thing"]:=by
    dsimp only [L2.KOf]
    refine' D3.fB KX G ?b ?a ?l ?c ?k
    (case a=>k_is);(case l=>k_is);(case c=>k_is);(case k=>k_is)
    (case b=>exact fun _ _ _ _ _ _=>D3.cG fun _=>D3.len0 rfl)
   have d_is_whole_list:D3.Dg (L2.KOf KX) mg "is_whole_list" (K32.top 10) ["thing"]:=by
    dsimp only [L2.KOf]
    refine' D3.fB KX G ?b ?a ?l ?c ?k
    (case a=>k_is);(case l=>k_is);(case c=>k_is);(case k=>k_is)
    (case b=>exact fun _ _ _ _ _ _=>D3.cG fun _=>D3.len0 rfl)
   have d_is_stretch:D3.Dg (L2.KOf KX) mg "is_stretch" (K32.top 13) ["thing"]:=by
    dsimp only [L2.KOf]
    refine' D3.fB KX G ?b ?a ?l ?c ?k
    (case a=>k_is);(case l=>k_is);(case c=>k_is);(case k=>k_is)
    (case b=>exact fun _ _ _ _ _ _=>D3.cG fun _=>D3.len0 rfl)
   have d_nights_of:D3.Dg (L2.KOf KX) mg "nights_of" (K32.top 14) ["stay"]:=by
    dsimp only [L2.KOf]
    refine' D3.fB KX G ?b ?a ?l ?c ?k
    (case a=>k_is);(case l=>k_is);(case c=>k_is);(case k=>k_is)
    (case b=>exact fun _ _ _ _ _ _=>D3.cG fun _=>D3.len0 rfl)
   have d_holds:D3.Dg (L2.KOf KX) mg "holds" (K32.top 15) ["stretch", "night"]:=by
    dsimp only [L2.KOf]
    refine' D3.fB KX G ?b ?a ?l ?c ?k
    (case a=>k_is);(case l=>k_is);(case c=>k_is);(case k=>k_is)
    (case b=>exact fun _ _ _ _ _ _=>D3.cG fun _=>D3.cG fun _=>D3.len0 rfl)
   have d_shared:D3.Dg (L2.KOf KX) mg "shared" (K32.top 16) ["one", "other"]:=by
    dsimp only [L2.KOf]
    refine' D3.fB KX G ?b ?a ?l ?c ?k
    (case a=>k_is);(case l=>k_is);(case c=>k_is);(case k=>k_is)
    (case b=>exact fun _ _ _ _ _ _=>D3.cG fun _=>D3.cG fun _=>D3.len0 rfl)
   have d_meets:D3.Dg (L2.KOf KX) mg "meets" (K32.top 17) ["one", "other"]:=by
    dsimp only [L2.KOf]
    refine' D3.fB KX G ?b ?a ?l ?c ?k
    (case a=>k_is);(case l=>k_is);(case c=>k_is);(case k=>k_is)
    (case b=>exact fun _ _ _ _ _ _=>D3.cG fun _=>D3.cG fun _=>D3.len0 rfl)
   have d_count_at:D3.Dg (L2.KOf KX) mg "count_at" (K32.top 18) ["stretches", "night"]:=by
    dsimp only [L2.KOf]
    refine' D3.fB KX G ?b ?a ?l ?c ?k
    (case a=>k_is);(case l=>k_is);(case c=>k_is);(case k=>k_is)
    (case b=>exact fun _ _ _ _ _ _=>D3.cG fun _=>D3.cG fun _=>D3.len0 rfl)
   have d_firsts:D3.Dg (L2.KOf KX) mg "firsts" (K32.top 19) ["stretches"]:=by
    dsimp only [L2.KOf]
    refine' D3.fB KX G ?b ?a ?l ?c ?k
    (case a=>k_is);(case l=>k_is);(case c=>k_is);(case k=>k_is)
    (case b=>exact fun _ _ _ _ _ _=>D3.cG fun _=>D3.len0 rfl)
   have d_fuller:D3.Dg (L2.KOf KX) mg "fuller" (K32.top 20) ["stretches", "many", "since"]:=by
    dsimp only [L2.KOf]
    refine' D3.Ik KX G ?b ?a ?l ?c ?k ?t ?s
    (case a=>k_is);(case l=>k_is);(case c=>k_is);(case k=>k_is);(case t=>k_is);(case s=>rfl)
    (case b=>exact fun _ _ _ _ _ _=>D3.cG fun _=>D3.cG fun _=>D3.cG fun _=>D3.len0 ⟨_,rfl,rfl⟩)
   have d_is_stay:D3.Dg (L2.KOf KX) mg "is_stay" (K32.top 22) ["thing", "rooms", "now"]:=by
    dsimp only [L2.KOf]
    refine' D3.fB KX G ?b ?a ?l ?c ?k
    (case a=>k_is);(case l=>k_is);(case c=>k_is);(case k=>k_is)
    (case b=>exact fun _ _ _ _ _ _=>D3.cG fun _=>D3.cG fun _=>D3.cG fun _=>D3.len0 rfl)
   have d_check_stays:D3.Dg (L2.KOf KX) mg "check_stays" (K32.top 23) ["stays", "rooms", "now"]:=by
    dsimp only [L2.KOf]
    refine' D3.fB KX G ?b ?a ?l ?c ?k
    (case a=>k_is);(case l=>k_is);(case c=>k_is);(case k=>k_is)
    (case b=>exact fun _ _ _ _ _ _=>D3.cG fun _=>D3.cG fun _=>D3.cG fun _=>D3.len0 rfl)
   have d_check_full:D3.Dg (L2.KOf KX) mg "check_full" (K32.top 24) ["stays", "rooms", "now"]:=by
    dsimp only [L2.KOf]
    refine' D3.fB KX G ?b ?a ?l ?c ?k
    (case a=>k_is);(case l=>k_is);(case c=>k_is);(case k=>k_is)
    (case b=>exact fun _ _ _ _ _ _=>D3.cG fun _=>D3.cG fun _=>D3.cG fun _=>D3.len0 rfl)
   have d_still_to_come:XL.DgT (L2.KOf KX) mg "still_to_come" (K32.top 25) ["stays"] 189 "still_to_come.<locals>.<lambda>" ⟨76,30,76,59⟩:=by
    dsimp only [L2.KOf]
    refine' XL.Ry KX G ?b ?a ?l ?c ?k ?h ?t
    (case a=>k_is);(case l=>k_is);(case c=>k_is);(case k=>k_is);(case h=>kernel_rfl);(case t=>exact aG)
    (case b=>exact fun _ _ _ _ _ _=>D3.cG fun _=>D3.len0 rfl)
   have d_beginnings:D3.Dg (L2.KOf KX) mg "beginnings" (K32.top 26) ["stays", "rooms", "now"]:=by
    dsimp only [L2.KOf]
    refine' D3.fB KX G ?b ?a ?l ?c ?k
    (case a=>k_is);(case l=>k_is);(case c=>k_is);(case k=>k_is)
    (case b=>exact fun _ _ _ _ _ _=>D3.cG fun _=>D3.cG fun _=>D3.cG fun _=>D3.len0 rfl)
   have d_first_free:D3.Dg (L2.KOf KX) mg "first_free" (K32.top 27) ["begin", "night"]:=by
    dsimp only [L2.KOf]
    refine' D3.fB KX G ?b ?a ?l ?c ?k
    (case a=>k_is);(case l=>k_is);(case c=>k_is);(case k=>k_is)
    (case b=>exact fun _ _ _ _ _ _=>D3.cG fun _=>D3.cG fun _=>D3.len0 rfl)
   have d_filled:D3.Dg (L2.KOf KX) mg "filled" (K32.top 28) ["stays", "plan", "begin"]:=by
    dsimp only [L2.KOf]
    refine' D3.fB KX G ?b ?a ?l ?c ?k
    (case a=>k_is);(case l=>k_is);(case c=>k_is);(case k=>k_is)
    (case b=>exact fun _ _ _ _ _ _=>D3.cG fun _=>D3.cG fun _=>D3.cG fun _=>D3.len0 rfl)
   have d_seated:D3.Dg (L2.KOf KX) mg "seated" (K32.top 29) ["stays", "rooms", "now"]:=by
    dsimp only [L2.KOf]
    refine' D3.Ik KX G ?b ?a ?l ?c ?k ?t ?s
    (case a=>k_is);(case l=>k_is);(case c=>k_is);(case k=>k_is);(case t=>k_is);(case s=>rfl)
    (case b=>exact fun _ _ _ _ _ _=>D3.cG fun _=>D3.cG fun _=>D3.cG fun _=>D3.len0 ⟨_,rfl,rfl⟩)
   have d_has_fit_room:D3.Dg (L2.KOf KX) mg "has_fit_room" (K32.top 31) ["stay", "room", "rooms"]:=by
    dsimp only [L2.KOf]
    refine' D3.fB KX G ?b ?a ?l ?c ?k
    (case a=>k_is);(case l=>k_is);(case c=>k_is);(case k=>k_is)
    (case b=>exact fun _ _ _ _ _ _=>D3.cG fun _=>D3.cG fun _=>D3.cG fun _=>D3.len0 rfl)
   have d_is_apart:D3.Dg (L2.KOf KX) mg "is_apart" (K32.top 32) ["stays", "plan", "place"]:=by
    dsimp only [L2.KOf]
    refine' D3.fB KX G ?b ?a ?l ?c ?k
    (case a=>k_is);(case l=>k_is);(case c=>k_is);(case k=>k_is)
    (case b=>exact fun _ _ _ _ _ _=>D3.cG fun _=>D3.cG fun _=>D3.cG fun _=>D3.len0 rfl)
   have d_is_plan:D3.Dg (L2.KOf KX) mg "is_plan" (K32.top 33) ["stays", "rooms", "now", "thing"]:=by
    dsimp only [L2.KOf]
    refine' D3.fB KX G ?b ?a ?l ?c ?k
    (case a=>k_is);(case l=>k_is);(case c=>k_is);(case k=>k_is)
    (case b=>exact fun _ _ _ _ _ _=>D3.cG fun _=>D3.cG fun _=>D3.cG fun _=>D3.cG fun _=>D3.len0 rfl)
   have d__law_cell:D3.Dg (L2.KOf KX) mg "_law_cell" (K32.top 35) ["_law_script", "_law_at"]:=by
    dsimp only [L2.KOf]
    refine' D3.fB KX G ?b ?a ?l ?c ?k
    (case a=>k_is);(case l=>k_is);(case c=>k_is);(case k=>k_is)
    (case b=>exact fun _ _ _ _ _ _=>D3.cG fun _=>D3.cG fun _=>D3.len0 rfl)
   have d__law_part:D3.Dg (L2.KOf KX) mg "_law_part" (K32.top 36) ["_law_script", "_law_at", "_law_k", "_law_many"]:=by
    dsimp only [L2.KOf]
    refine' D3.fB KX G ?b ?a ?l ?c ?k
    (case a=>k_is);(case l=>k_is);(case c=>k_is);(case k=>k_is)
    (case b=>exact fun _ _ _ _ _ _=>D3.cG fun _=>D3.cG fun _=>D3.cG fun _=>D3.cG fun _=>D3.len0 rfl)
   have d__law_whole:D3.Dg (L2.KOf KX) mg "_law_whole" (K32.top 37) ["_law_found"]:=by
    dsimp only [L2.KOf]
    refine' D3.fB KX G ?b ?a ?l ?c ?k
    (case a=>k_is);(case l=>k_is);(case c=>k_is);(case k=>k_is)
    (case b=>exact fun _ _ _ _ _ _=>D3.cG fun _=>D3.len0 rfl)
   have d__law_stay:D3.Dg (L2.KOf KX) mg "_law_stay" (K32.top 38) ["_law_script", "_law_at", "_law_turn", "_law_mode", "_law_now"]:=by
    dsimp only [L2.KOf]
    refine' D3.fB KX G ?b ?a ?l ?c ?k
    (case a=>k_is);(case l=>k_is);(case c=>k_is);(case k=>k_is)
    (case b=>exact fun _ _ _ _ _ _=>D3.cG fun _=>D3.cG fun _=>D3.cG fun _=>D3.cG fun _=>D3.cG fun _=>D3.len0 rfl)
   have d__law_guest:D3.Dg (L2.KOf KX) mg "_law_guest" (K32.top 39) ["_law_script", "_law_at", "_law_turn", "_law_now", "_law_room"]:=by
    dsimp only [L2.KOf]
    refine' D3.fB KX G ?b ?a ?l ?c ?k
    (case a=>k_is);(case l=>k_is);(case c=>k_is);(case k=>k_is)
    (case b=>exact fun _ _ _ _ _ _=>D3.cG fun _=>D3.cG fun _=>D3.cG fun _=>D3.cG fun _=>D3.cG fun _=>D3.len0 rfl)
   have d__law_full:D3.Dg (L2.KOf KX) mg "_law_full" (K32.top 40) ["_law_stays_here", "_law_rooms", "_law_now"]:=by
    dsimp only [L2.KOf]
    refine' D3.fB KX G ?b ?a ?l ?c ?k
    (case a=>k_is);(case l=>k_is);(case c=>k_is);(case k=>k_is)
    (case b=>exact fun _ _ _ _ _ _=>D3.cG fun _=>D3.cG fun _=>D3.cG fun _=>D3.len0 rfl)
   have d__law_numbers:D3.Dg (L2.KOf KX) mg "_law_numbers" (K32.top 41) ["_law_script"]:=by
    dsimp only [L2.KOf]
    refine' D3.fB KX G ?b ?a ?l ?c ?k
    (case a=>k_is);(case l=>k_is);(case c=>k_is);(case k=>k_is)
    (case b=>exact fun _ _ _ _ _ _=>D3.cG fun _=>D3.len0 rfl)
   have d__law_stays:D3.Dg (L2.KOf KX) mg "_law_stays" (K32.top 42) ["_law_script", "_law_rooms", "_law_now", "_law_most"]:=by
    dsimp only [L2.KOf]
    refine' D3.fB KX G ?b ?a ?l ?c ?k
    (case a=>k_is);(case l=>k_is);(case c=>k_is);(case k=>k_is)
    (case b=>exact fun _ _ _ _ _ _=>D3.cG fun _=>D3.cG fun _=>D3.cG fun _=>D3.cG fun _=>D3.len0 rfl)
   have d__law_stretch:D3.Dg (L2.KOf KX) mg "_law_stretch" (K32.top 44) ["_law_one"]:=by
    dsimp only [L2.KOf]
    refine' D3.fB KX G ?b ?a ?l ?c ?k
    (case a=>k_is);(case l=>k_is);(case c=>k_is);(case k=>k_is)
    (case b=>exact fun _ _ _ _ _ _=>D3.cG fun _=>D3.len0 rfl)
   have d__law_good:D3.Dg (L2.KOf KX) mg "_law_good" (K32.top 45) ["_law_one", "_law_rooms", "_law_now"]:=by
    dsimp only [L2.KOf]
    refine' D3.fB KX G ?b ?a ?l ?c ?k
    (case a=>k_is);(case l=>k_is);(case c=>k_is);(case k=>k_is)
    (case b=>exact fun _ _ _ _ _ _=>D3.cG fun _=>D3.cG fun _=>D3.cG fun _=>D3.len0 rfl)
   have d__law_due:D3.Dg (L2.KOf KX) mg "_law_due" (K32.top 46) ["_law_stays_here", "_law_rooms", "_law_now"]:=by
    dsimp only [L2.KOf]
    refine' D3.fB KX G ?b ?a ?l ?c ?k
    (case a=>k_is);(case l=>k_is);(case c=>k_is);(case k=>k_is)
    (case b=>exact fun _ _ _ _ _ _=>D3.cG fun _=>D3.cG fun _=>D3.cG fun _=>D3.len0 rfl)
   have d__law_odd:D3.Dg (L2.KOf KX) mg "_law_odd" (K32.top 47) ["_law_script", "_law_at", "_law_rooms", "_law_now"]:=by
    dsimp only [L2.KOf]
    refine' D3.fB KX G ?b ?a ?l ?c ?k
    (case a=>k_is);(case l=>k_is);(case c=>k_is);(case k=>k_is)
    (case b=>exact fun _ _ _ _ _ _=>D3.cG fun _=>D3.cG fun _=>D3.cG fun _=>D3.cG fun _=>D3.len0 rfl)
   have d__law_put:D3.Dg (L2.KOf KX) mg "_law_put" (K32.top 48) ["_law_script", "_law_at", "_law_stays_here", "_law_rooms", "_law_now"]:=by
    dsimp only [L2.KOf]
    refine' D3.fB KX G ?b ?a ?l ?c ?k
    (case a=>k_is);(case l=>k_is);(case c=>k_is);(case k=>k_is)
    (case b=>exact fun _ _ _ _ _ _=>D3.cG fun _=>D3.cG fun _=>D3.cG fun _=>D3.cG fun _=>D3.cG fun _=>D3.len0 rfl)
   have d__law_caught:D3.Dg (L2.KOf KX) mg "_law_caught" (K32.top 49) ["_law_way", "_law_stays_here", "_law_rooms", "_law_now"]:=by
    dsimp only [L2.KOf]
    refine' D3.fB KX G ?b ?a ?l ?c ?k
    (case a=>k_is);(case l=>k_is);(case c=>k_is);(case k=>k_is)
    (case b=>exact fun _ _ _ _ _ _=>D3.cG fun _=>D3.cG fun _=>D3.cG fun _=>D3.cG fun _=>D3.len0 rfl)
   have d__law_told:D3.Dg (L2.KOf KX) mg "_law_told" (K32.top 50) ["_law_stays_here", "_law_rooms", "_law_now"]:=by
    dsimp only [L2.KOf]
    refine' D3.fB KX G ?b ?a ?l ?c ?k
    (case a=>k_is);(case l=>k_is);(case c=>k_is);(case k=>k_is)
    (case b=>exact fun _ _ _ _ _ _=>D3.cG fun _=>D3.cG fun _=>D3.cG fun _=>D3.len0 rfl)
   have d_law:D3.Dl (L2.KOf KX) mg "law" "_law_script" (K32.top 51):=by
    dsimp only [L2.KOf]
    refine' D3.Ux KX G ?b ?a ?l ?c ?k
    (case a=>k_is);(case l=>k_is);(case c=>k_is);(case k=>k_is)
    (case b=>exact fun _ _ _ _ _ _ u=>rfl)
   have e_seated:D3.DgD (L2.KOf KX) mg "seated" (K32.top 29) ["stays", "rooms", "now"] [L2.V.int 0] ["now"]:=by
    dsimp only [L2.KOf]
    refine' D3.Lx KX G ?b ?d ?pne ?a ?l ?c ?k ?t ?s ?v
    (case a=>k_is);(case l=>k_is);(case c=>k_is);(case k=>k_is);(case t=>k_is);(case s=>rfl);(case pne=>exact List.cons_ne_nil _ _)
    (case b=>exact fun _ _ _ _ _ _ us hl=>match us,(show us.length=2 by simp at hl;omega) with | [_,_],_=>⟨_,rfl,rfl⟩)
    (case d=>exact fun _ _ _ _ _ _ us ws h1 hl=>match ws,us,h1,(show us.length=2 by simp at hl h1;omega) with | [_],[_,_],_,_=>⟨_,rfl,rfl⟩)
    (case v=>exact .cons ⟨_,rfl⟩ .nil)
   have s_NoStay:XC.SuiU (L2.KOf KX) mg (fun C=>if C=44 then "at" else if C=63 then "room" else if C=82 then "night" else "") "NoStay" "at" "InnError" [("NoStay", true),("Taken", false),("TooFull", false)]:=by
    dsimp only [L2.KOf]
    refine' XC.yE (XC.Bw KX G ?a ?kp ?lC ?lI ?lN ?oN ?lNI ?oNI ?i1 ?i2 ?s1 ?s2 ?n1 ?n2 ?hB ?lk ?hcd ?sc ?l1 ?l2 ?hb ?ne ?nd ?nc) ?fc (PySem.W.mg_of KX G ?m) ⟨⟨?e1,?e2,?e3⟩,?k2,?k3,?k4,?k5,?k6⟩ ⟨⟨?e4,?e5,?e6⟩,?a2,?a3⟩ (XC.jN (PySem.W.mg_of KX G ?t0) ?r0 (XC.jN (PySem.W.mg_of KX G ?t1) ?r1 (XC.jN (PySem.W.mg_of KX G ?t2) ?r2 XC.yC)))
    (case a=>k_is);(case kp=>k_is);(case lC=>k_is);(case lI=>k_is);(case lN=>k_is);(case lNI=>k_is);(case oN=>rfl);(case oNI=>rfl)
    (case i1=>k_is);(case i2=>k_is);(case s1=>k_is);(case s2=>k_is);(case n1=>k_is);(case n2=>k_is)
    (case hB=>rw [typeLookup_type,builtinLookup_eq_fast];kernel_rfl)
    (case lk=>k_is);(case hcd=>k_is);(case sc=>exact ⟨rfl,rfl,rfl,by decide +kernel,rfl,by decide +kernel,by decide +kernel⟩);(case l1=>rfl);(case l2=>rfl)
    (case hb=>exact fun _ _=>rfl);(case ne=>decide);(case nd=>decide);(case nc=>decide)
    (case m=>k_is);(case fc=>rfl)
    (case e1=>kernel_rfl);(case e2=>kernel_rfl);(case e3=>kernel_rfl);(case k2=>kernel_rfl);(case k3=>kernel_rfl);(case k4=>kernel_rfl);(case k5=>kernel_rfl);(case k6=>kernel_rfl)
    (case e4=>kernel_rfl);(case e5=>kernel_rfl);(case e6=>kernel_rfl);(case a2=>kernel_rfl);(case a3=>kernel_rfl)
    (case t0=>k_is);(case r0=>kernel_rfl);(case t1=>k_is);(case r1=>kernel_rfl);(case t2=>k_is);(case r2=>kernel_rfl)
   have s_Taken:XC.SuiU (L2.KOf KX) mg (fun C=>if C=44 then "at" else if C=63 then "room" else if C=82 then "night" else "") "Taken" "room" "InnError" [("NoStay", false),("Taken", true),("TooFull", false)]:=by
    dsimp only [L2.KOf]
    refine' XC.yE (XC.Bw KX G ?a ?kp ?lC ?lI ?lN ?oN ?lNI ?oNI ?i1 ?i2 ?s1 ?s2 ?n1 ?n2 ?hB ?lk ?hcd ?sc ?l1 ?l2 ?hb ?ne ?nd ?nc) ?fc (PySem.W.mg_of KX G ?m) ⟨⟨?e1,?e2,?e3⟩,?k2,?k3,?k4,?k5,?k6⟩ ⟨⟨?e4,?e5,?e6⟩,?a2,?a3⟩ (XC.jN (PySem.W.mg_of KX G ?t0) ?r0 (XC.jN (PySem.W.mg_of KX G ?t1) ?r1 (XC.jN (PySem.W.mg_of KX G ?t2) ?r2 XC.yC)))
    (case a=>k_is);(case kp=>k_is);(case lC=>k_is);(case lI=>k_is);(case lN=>k_is);(case lNI=>k_is);(case oN=>rfl);(case oNI=>rfl)
    (case i1=>k_is);(case i2=>k_is);(case s1=>k_is);(case s2=>k_is);(case n1=>k_is);(case n2=>k_is)
    (case hB=>rw [typeLookup_type,builtinLookup_eq_fast];kernel_rfl)
    (case lk=>k_is);(case hcd=>k_is);(case sc=>exact ⟨rfl,rfl,rfl,by decide +kernel,rfl,by decide +kernel,by decide +kernel⟩);(case l1=>rfl);(case l2=>rfl)
    (case hb=>exact fun _ _=>rfl);(case ne=>decide);(case nd=>decide);(case nc=>decide)
    (case m=>k_is);(case fc=>rfl)
    (case e1=>kernel_rfl);(case e2=>kernel_rfl);(case e3=>kernel_rfl);(case k2=>kernel_rfl);(case k3=>kernel_rfl);(case k4=>kernel_rfl);(case k5=>kernel_rfl);(case k6=>kernel_rfl)
    (case e4=>kernel_rfl);(case e5=>kernel_rfl);(case e6=>kernel_rfl);(case a2=>kernel_rfl);(case a3=>kernel_rfl)
    (case t0=>k_is);(case r0=>kernel_rfl);(case t1=>k_is);(case r1=>kernel_rfl);(case t2=>k_is);(case r2=>kernel_rfl)
   have s_TooFull:XC.SuiU (L2.KOf KX) mg (fun C=>if C=44 then "at" else if C=63 then "room" else if C=82 then "night" else "") "TooFull" "night" "InnError" [("NoStay", false),("Taken", false),("TooFull", true)]:=by
    dsimp only [L2.KOf]
    refine' XC.yE (XC.Bw KX G ?a ?kp ?lC ?lI ?lN ?oN ?lNI ?oNI ?i1 ?i2 ?s1 ?s2 ?n1 ?n2 ?hB ?lk ?hcd ?sc ?l1 ?l2 ?hb ?ne ?nd ?nc) ?fc (PySem.W.mg_of KX G ?m) ⟨⟨?e1,?e2,?e3⟩,?k2,?k3,?k4,?k5,?k6⟩ ⟨⟨?e4,?e5,?e6⟩,?a2,?a3⟩ (XC.jN (PySem.W.mg_of KX G ?t0) ?r0 (XC.jN (PySem.W.mg_of KX G ?t1) ?r1 (XC.jN (PySem.W.mg_of KX G ?t2) ?r2 XC.yC)))
    (case a=>k_is);(case kp=>k_is);(case lC=>k_is);(case lI=>k_is);(case lN=>k_is);(case lNI=>k_is);(case oN=>rfl);(case oNI=>rfl)
    (case i1=>k_is);(case i2=>k_is);(case s1=>k_is);(case s2=>k_is);(case n1=>k_is);(case n2=>k_is)
    (case hB=>rw [typeLookup_type,builtinLookup_eq_fast];kernel_rfl)
    (case lk=>k_is);(case hcd=>k_is);(case sc=>exact ⟨rfl,rfl,rfl,by decide +kernel,rfl,by decide +kernel,by decide +kernel⟩);(case l1=>rfl);(case l2=>rfl)
    (case hb=>exact fun _ _=>rfl);(case ne=>decide);(case nd=>decide);(case nc=>decide)
    (case m=>k_is);(case fc=>rfl)
    (case e1=>kernel_rfl);(case e2=>kernel_rfl);(case e3=>kernel_rfl);(case k2=>kernel_rfl);(case k3=>kernel_rfl);(case k4=>kernel_rfl);(case k5=>kernel_rfl);(case k6=>kernel_rfl)
    (case e4=>kernel_rfl);(case e5=>kernel_rfl);(case e6=>kernel_rfl);(case a2=>kernel_rfl);(case a3=>kernel_rfl)
    (case t0=>k_is);(case r0=>kernel_rfl);(case t1=>k_is);(case r1=>kernel_rfl);(case t2=>k_is);(case r2=>kernel_rfl)
   have z_NoStay:=XC.SuiU.up s_NoStay
   have z_Taken:=XC.SuiU.up s_Taken
   have z_TooFull:=XC.SuiU.up s_TooFull
   have v_ValueError:mg "ValueError" = none:=by
    refine' PySem.W.mg_none_of KX G ?z
    (case z=>k_is)
   have ju:mg "len" = none:=by
    refine' PySem.W.mg_none_of KX G ?z
    (case z=>k_is)
   have b_range:mg "range" = none:=by
    refine' PySem.W.mg_none_of KX G ?z
    (case z=>k_is)
   have b_abs:mg "abs" = none:=by
    refine' PySem.W.mg_none_of KX G ?z
    (case z=>k_is)
   have b_isinstance:mg "isinstance" = none:=by
    refine' PySem.W.mg_none_of KX G ?z
    (case z=>k_is)
   have b_int:mg "int" = none:=by
    refine' PySem.W.mg_none_of KX G ?z
    (case z=>k_is)
   have b_bool:mg "bool" = none:=by
    refine' PySem.W.mg_none_of KX G ?z
    (case z=>k_is)
   have b_tuple:mg "tuple" = none:=by
    refine' PySem.W.mg_none_of KX G ?z
    (case z=>k_is)
   have b_list:mg "list" = none:=by
    refine' PySem.W.mg_none_of KX G ?z
    (case z=>k_is)
   have b_str:mg "str" = none:=by
    refine' PySem.W.mg_none_of KX G ?z
    (case z=>k_is)
   have b_max:mg "max" = none:=by
    refine' PySem.W.mg_none_of KX G ?z
    (case z=>k_is)
   have b_min:mg "min" = none:=by
    refine' PySem.W.mg_none_of KX G ?z
    (case z=>k_is)
   have b_sorted:mg "sorted" = none:=by
    refine' PySem.W.mg_none_of KX G ?z
    (case z=>k_is)
   have O7:mg "sum" = none:=by
    refine' PySem.W.mg_none_of KX G ?z
    (case z=>k_is)
   have b_reversed:mg "reversed" = none:=by
    refine' PySem.W.mg_none_of KX G ?z
    (case z=>k_is)
   have b_enumerate:mg "enumerate" = none:=by
    refine' PySem.W.mg_none_of KX G ?z
    (case z=>k_is)
   have b_zip:mg "zip" = none:=by
    refine' PySem.W.mg_none_of KX G ?z
    (case z=>k_is)
   have b_set:mg "set" = none:=by
    refine' PySem.W.mg_none_of KX G ?z
    (case z=>k_is)
   have b_any:mg "any" = none:=by
    refine' PySem.W.mg_none_of KX G ?z
    (case z=>k_is)
   have Io:mg "all" = none:=by
    refine' PySem.W.mg_none_of KX G ?z
    (case z=>k_is)
   have b_dict:mg "dict" = none:=by
    refine' PySem.W.mg_none_of KX G ?z
    (case z=>k_is)
   have c_NIGHTS:∃ t,mg "NIGHTS" = some (.int 400 t):=by
    refine' ⟨?t_NIGHTS,PySem.W.mg_of KX G ?z⟩
    (case z=>rfl)
   exact ⟨d_is_whole,d_all_whole,d_is_tuple_of,d_is_pair,d_is_whole_list,d_is_stretch,d_nights_of,d_holds,d_shared,d_meets,d_count_at,d_firsts,d_fuller,d_is_stay,d_check_stays,d_check_full,d_still_to_come,d_beginnings,d_first_free,d_filled,d_seated,d_has_fit_room,d_is_apart,d_is_plan,d__law_cell,d__law_part,d__law_whole,d__law_stay,d__law_guest,d__law_full,d__law_numbers,d__law_stays,d__law_stretch,d__law_good,d__law_due,d__law_odd,d__law_put,d__law_caught,d__law_told,d_law,e_seated,z_NoStay,z_Taken,z_TooFull,s_NoStay,s_Taken,s_TooFull,v_ValueError,⟨ju,b_range,b_abs,b_isinstance,b_int,b_bool,b_tuple,b_list,b_str,b_max,b_min,b_sorted,O7,b_reversed,b_enumerate,b_zip,b_set,b_any,Io,b_dict⟩,c_NIGHTS⟩
  obtain ⟨f,fd,F,b,m⟩:=T.d_law.ex
  have e0:=hmg.symm.trans m
  cases e0
  exact ⟨fd,b,fun base kb nb=>K32.TQ T F⟩
 case S=>exact fun K H a ns hl hO hS=>⟨a,ns,hO,rfl,hS,hl,fun _=>rfl⟩
 case C=>exact fun _ _ _ _ z=>z
