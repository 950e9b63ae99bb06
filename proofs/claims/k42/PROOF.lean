import PyProof.Rows.All
import Wide.All
import OpenK.AllK
import Wide.FinOn
import Lean
import PyProof.EqAt
import PyProof.EqKinds
import PyProof.TupleCall
import PyProof.EqLayable
import KE.KSortTup
import PyProof.AttrMissHeap
import KE.KDictOf
import KE.KDictSum
import PyProof.Rows.SortWalk
import PyProof.NeKinds
import PyProof.DictWalks
import KE.KMinBuiltin
import Wide.Seal
import KE.KDictLaws
import KE.KLam
import KE.KNestM
import PySem.Challenge.RW_nightbook_k42_or_may_not
set_option Elab.async false
set_option linter.all false
set_option maxRecDepth 100000
set_option maxHeartbeats 4000000
set_option exponentiation.threshold 40000
open List renaming length_map→aG,range→aH,mem_singleton→aK,mem_cons_self→aM,getElem?_eq_getElem→aN,mem_cons_of_mem→aO,getD_eq_getElem?_getD→aP,getElem?_map→aQ,mem_append_right→aU,mem_append→aX,mem_range→aY,getElem?_eq_none→bf,mem_append_left→bx,length_range→bB,getElem?_set_ne→bD,mem_cons→bF,replicate→bG,length_append→bH,size_toArray→bI,map_cons→bJ,length_cons→bQ,mem_filter→bR,nodup_cons→bU,getElem?_range→bZ,length_replicate→cA,append_nil→cH,map_append→cL,getElem?_append_right→cM,getElem?_eq_some_iff→cP,mem_map→cQ,length_filter_le→cW,filterMap_cons→cX,replicate_succ→cY,getElem?_append_left→dw,pairwise_iff_getElem→dB,getElem?_set_self→dD,length_set→dF,lookup_cons→dG,filter_cons_of_pos→dJ,filter_cons_of_neg→dM,map_map→dU,ext_getElem?→dY,mem_of_getElem?→eX,all_eq_true→eZ,mem_filterMap→fL,pairwise_cons→fM,getElem?_replicate→gB,flatten_cons→gC,find?_cons→gH,getElem_of_mem→gM,map_congr_left→gO,not_mem_nil→g_,filter_append→h_,nodup_append→iB,toArray→iD,length_take→iW,nodup_range→iY,length_nil→jo,append_assoc→jx,take_add_one→jy,getElem?_mapIdx→jC,getElem_mem→jJ,any_eq_true→jK,take_length→jL,pairwise_singleton→j9,map_nil→kJ,getElem?_set→kO,eraseIdx_eq_take_drop_succ→lE,all_cons→lN,any_cons→lO,pairwise_append→mj,nil_append→mK,getElem?_drop→nj,mem_of_find?_eq_some→nO,drop_eq_getElem_cons→nQ,getElem?_take_of_lt→oA,length_eq_zero_iff→oJ,mem_singleton_self→oK,drop_eq_nil_of_le→o7,find?_cons_of_pos→o8,find?_cons_of_neg→o9,of_mem_zip→pR,filter_map→pW,filter_nil→pX,range_succ→pY,length_singleton→p7,take_append_drop→p8,getElem?_of_mem→qb,mem_of_mem_take→qe,find?_eq_none→rK,pairwise_map→sE,find?_append→sI,lookup→um,foldl→uT
open Nat renaming reduceLeDiff→aj,reduceEqDiff→ao,reduceAdd→aq,reduceLT→au,le_refl→aZ,le_trans→bM,lt_of_lt_of_le→bN,ne_of_lt→bO,zero_le→eY,lt_irrefl→fU,le_of_lt→fV,lt_or_ge→fW,lt_trans→jH,zero_add→kY,le_succ→lZ,not_lt_zero→mL,lt_succ_self→oH,pow_le_pow_right→qd,lt_trichotomy→sH
open Int renaming reduceEq→aA,reduceLT→aB,reduceLE→aC,toNat_natCast→gD,le_refl→gY,emod_lt_of_pos→jg,emod_nonneg→jU,sub_zero→sy,lt_or_le→sG
open Option renaming bind_some→aJ,isSome_iff_exists→cR,some→cV,map_some→eN,isSome_map→kW
open Bool renaming and_eq_true→aL,not_true→bL,not_false→cC,false_ne_true→dN,false_and→f9,true_and→jr,eq_iff_iff→mO,eq_false_iff→nU,or_eq_true→pU
open Array renaming getD_eq_getD_getElem?→gQ,length_toList→mV,perm_iff_toList_perm→nq
theorem dTr {p:Prop} [Decidable p] (h:p):decide p=true:=decide_eq_true h
theorem dFa {p:Prop} [Decidable p] (h:¬ p):decide p=false:=decide_eq_false h
theorem lMp {α β:Type} {f:α→β} {l:List α}:(l.map f).length=l.length:=aG f

namespace L2
open PySem PySem.Spec PyProof.Rows
abbrev Key:=Sum Int Str
def oM:Key→Value→Bool
 | .inl k,v=>Value.isInt k v
 | .inr x,v=>Value.isStrOf x v
def U4 (w:World):Key→Int
 | .inl k=>hashInt k
 | .inr x=>hashStr w x
theorem dZ:∀ {k:Key} {v:Value},oM k v=true→(∃ i t,k=Sum.inl i∧v=Value.int i t)∨(∃ x t,k=Sum.inr x∧v=Value.str x t)
 | .inl i,v,h=>by
  obtain ⟨t,e⟩:=Value.isInt_shape (k:=i) (v:=v) h
  exact .inl ⟨i,t,rfl,e⟩
 | .inr x,v,h=>by
  obtain ⟨t,e⟩:=Value.isStrOf_shape (x:=x) (v:=v) h
  exact .inr ⟨x,t,rfl,e⟩
theorem Ge (i:Int) (t:Tok):oM (.inl i) (.int i t)=true:=by simp [oM,Value.isInt]
theorem Gf (x:Str) (t:Tok):oM (.inr x) (.str x t)=true:=by simp [oM,Value.isStrOf]
theorem QZ (a b:Int):decide ((Sum.inl a:Key)=Sum.inl b)=(a == b):=by
 by_cases e:a=b
 ·subst e;simp
 ·have h:¬ (Sum.inl a:Key)=Sum.inl b:=fun q=>e (Sum.inl.inj q)
  rw [dFa h]
  exact (beq_eq_false_iff_ne.mpr e).symm
theorem Q0 (a b:Str):decide ((Sum.inr a:Key)=Sum.inr b)=decide (a=b):=by
 by_cases e:a=b
 ·subst e;simp
 ·have h:¬ (Sum.inr a:Key)=Sum.inr b:=fun q=>e (Sum.inr.inj q)
  rw [dFa h,dFa e]
theorem Q5 (a:Int) (b:Str):decide ((Sum.inl a:Key)=Sum.inr b)=false:=dFa (fun q=>nomatch q)
theorem Q6 (a:Str) (b:Int):decide ((Sum.inr a:Key)=Sum.inl b)=false:=dFa (fun q=>nomatch q)
def fH (prog:Program) (w:World):PySem.KeyKind prog w Key where
 is:=oM
 hash:=U4 w
 inj:=fun v a b ha hb=>by
  rcases dZ ha with ⟨i,t,rfl,rfl⟩ | ⟨x,t,rfl,rfl⟩
  ·rcases dZ hb with ⟨j,u,rfl,e⟩ | ⟨y,u,rfl,e⟩
   ·injection e with e1 _;rw [e1]
   ·exact nomatch e
  ·rcases dZ hb with ⟨j,u,rfl,e⟩ | ⟨y,u,rfl,e⟩
   ·exact nomatch e
   ·injection e with e1 _;rw [e1]
 byValue:=fun k v h=>by
  rcases dZ h with ⟨i,t,rfl,rfl⟩ | ⟨x,t,rfl,rfl⟩ <;> rfl
 pyHash:=fun hv h=>by
  rcases dZ hv with ⟨i,t,rfl,rfl⟩ | ⟨x,t,rfl,rfl⟩
  ·exact wpAny_pyHash_int h
  ·exact wpAny_pyHash_str h
 eqBool:=fun hu hv h=>by
  rcases dZ hu with ⟨i,t,rfl,rfl⟩ | ⟨x,t,rfl,rfl⟩
  ·rcases dZ hv with ⟨j,u,rfl,rfl⟩ | ⟨y,u,rfl,rfl⟩
   ·rw [QZ] at h;exact wpAny_eqBool_int h
   ·rw [Q5] at h;exact SeqAt.EqAt.int_str i t y u _ _ _ _ h
  ·rcases dZ hv with ⟨j,u,rfl,rfl⟩ | ⟨y,u,rfl,rfl⟩
   ·rw [Q6] at h;exact SeqAt.EqAt.str_int x t j u _ _ _ _ h
   ·rw [Q0] at h;exact wpAny_eqBool_str h
 «strs»:=fun k x t v h=>by
  rcases dZ h with ⟨i,u,rfl,e⟩ | ⟨y,u,rfl,e⟩
  ·exact nomatch e
  ·injection e with e1 _
   subst e1
   cases v <;> rfl
theorem Cq (prog:Program) (w:World) (k:Key) (v:Value):(fH prog w).is k v=oM k v:=rfl
theorem Af (prog:Program) (w:World) (i:Int) (t:Tok):(fH prog w).is (.inl i) (.int i t)=true:=Ge i t
theorem Ag (prog:Program) (w:World) (x:Str) (t:Tok):(fH prog w).is (.inr x) (.str x t)=true:=Gf x t
end L2
namespace L2
open PySem PySem.Spec PyProof.Rows
inductive V where
 | non | bl (b:Bool) | int (i:Int) | str (x:Str) | byt (b:Array UInt8) | flt (b:UInt64) | ref (a:Addr) | ty (n:String)
 deriving DecidableEq
def RelV:V→Value→Prop
 | .non,u=>u=Value.none
 | .bl b,u=>u=Value.bool b
 | .int i,u=>∃ t,u=Value.int i t
 | .str x,u=>∃ t,u=Value.str x t
 | .byt b,u=>∃ t,u=Value.bytes b t
 | .flt b,u=>∃ t,u=Value.float b t
 | .ref a,u=>u=Value.ref a
 | .ty n,u=>u=Value.type n
abbrev Vals:List V→List Value→Prop:=Paired RelV
theorem Vals.length {xs:List V} {us:List Value} (r:Vals xs us):xs.length=us.length:=Paired.length r
theorem Vals.get:∀ {xs:List V} {us:List Value} {i:Nat} {x:V},Vals xs us→xs[i]? = some x→∃ u,us[i]? = some u∧RelV x u
 | _,_,_,_,.nil,e=>by simp at e
 | _,_,0,_,.cons r _,e=>by simp at e;subst e;exact ⟨_,rfl,r⟩
 | _,_,i + 1,x,.cons _ t,e=>by
  obtain ⟨u,h1,h2⟩:=Vals.get (i:=i) (x:=x) t (by simpa using e)
  exact ⟨u,by simpa using h1,h2⟩
theorem Vals.set {x:V} {u:Value} (r:RelV x u):∀ {xs:List V} {us:List Value} (i:Nat),Vals xs us→Vals (xs.set i x) (us.set i u)
 | _,_,_,.nil=>.nil
 | _,_,0,.cons _ t=>.cons r t
 | _,_,i + 1,.cons q t=>.cons q (Vals.set r i t)
theorem Vals.append:∀ {xs ys:List V} {us ws:List Value},Vals xs us→Vals ys ws→Vals (xs++ys) (us++ws)
 | _,_,_,_,.nil,s=>s
 | _,_,_,_,.cons r t,s=>.cons r (Vals.append t s)
theorem Vals.take:∀ {xs:List V} {us:List Value} (n:Nat),Vals xs us→Vals (xs.take n) (us.take n)
 | _,_,0,_=>.nil
 | _,_,_ + 1,.nil=>.nil
 | _,_,n + 1,.cons r t=>.cons r (Vals.take n t)
theorem Vals.drop:∀ {xs:List V} {us:List Value} (n:Nat),Vals xs us→Vals (xs.drop n) (us.drop n)
 | _,_,0,r=>r
 | _,_,_ + 1,.nil=>.nil
 | _,_,n + 1,.cons _ t=>Vals.drop n t
def tM:Option V→Option Value→Prop
 | some v,some u=>RelV v u
 | none,none=>True
 | _,_=>False
def KV {κ:Type}:List (κ × V)→List (κ × Value)→Prop:=Paired fun (p:κ × V) (q:κ × Value)=>p.1=q.1∧RelV p.2 q.2
def kV:Key→V
 | .inl i=>.int i
 | .inr x=>.str x
inductive HO where
 /-- a list -/
 | lst (xs:List V)
 /-- a tuple (never changes) -/
 | tup (xs:List V)
 /-- a dict whose keys are ints and texts;one whose keys are tuples of ints and texts (the empty one is both) -/
 | dK (kvs:List (Key × V)) | dT (kvs:List (List Key × V))
 /-- a set of ints: its members,its size -/
 | set (S:Int→Bool) (n:Nat)
 /-- an instance of the class at C,its dict at dx,its attributes -/
 | ins (C dx:Addr) (fs:List (Str × V))
 /-- the dict of the instance at x -/
 | own (x:Addr)
 /-- the dict of an exception -/
 | xd (fs:List (Str × V))
 /-- a bound method,f of x -/
 | met (f x:Addr)
 /-- a range object lo,lo + 1,.. below hi -/
 | rng (lo hi:Int)
 /-- a thing that is known to the object (the script;a dict while a loop walks it): read,never written while it is so -/
 | frz (o:Obj) (u:HO)
 /-- a code object's table -/
 | tbl (q:Str) (p:Pos)
 /-- any other thing,by what is true of its one object (a def of one's own: SetO a S n:=HO.ext fun h=>..) -/
 | ext (φ:Heap→Prop)
abbrev Hp:=Addr→Option HO
def upd (H:Hp) (a:Addr) (o:HO):Hp:=fun b=>if b=a then some o else H b
theorem dg {H:Hp} {a:Addr} {o:HO}:upd H a o a=some o:=by unfold upd;rw [if_pos rfl]
theorem cI {H:Hp} {a b:Addr} {o:HO} (h:b ≠ a):upd H a o b=H b:=by unfold upd;rw [if_neg h]
theorem Em {H:Hp} {a b:Addr} {o u:HO} (h:H a=some o) (h':H b=some u) (d:o ≠ u):a ≠ b:=by
 intro e;subst e;rw [h] at h';exact d (cV.inj h')
theorem jh {H:Hp} {a b:Addr} {o:HO} (h:H a=some o) (h':H b=none):a ≠ b:=by
 intro e;subst e;rw [h] at h';cases h'
section
variable (P:Program) (w:World)
def gZ (H:Hp) (h:Heap) (a:Addr):HO→Prop
 | .lst xs=>xs.length ≤ sizeLine∧∃ (its:List Value) (n:Nat),Vals xs its∧h.get? a=some { cls:=.type "list", data:=.seq its.toArray n }
 | .tup xs=>xs.length ≤ sizeLine∧∃ its:List Value,Vals xs its∧IsTup h a its.toArray
 | .dK kvs=>kvs.length ≤ sizeLine∧(a == sysModules)=false∧∃ vs,KV kvs vs∧h.DictOf (fH P w) a vs
 | .dT kvs=>kvs.length ≤ sizeLine∧(a == sysModules)=false∧∃ xs:List (List Key × Addr × Value),
  Paired (fun (p:List Key × V) (q:List Key × Addr × Value)=>p.1=q.1∧H q.2.1=some (.tup (p.1.map kV))∧RelV p.2 q.2.2) kvs xs ∧
  ∃ o es ep,h.get? a=some o∧o.ExactDict∧o.data = .dict es ep∧es.toList=xs.map (entryOfKey (tupleKind (fH P w)))∧(xs.map (·.1)).Nodup
 | .set S n=>h.SetOf (intKind P w) a S n
 | .ins C dx fs=>H dx=some (.own a)∧fs.length ≤ 1000∧dx ≠ a∧h.get? a=some (PySem.W.instObj C dx) ∧
  ∃ mA,h.Ns1 dx mA∧(∀ f,tM (fs.lookup f) (mA f))∧PySem.Within mA (fs.map (·.1))
 | .own _=>∃ o,h.get? a=some o
 | .xd fs=>∃ mA,h.Ns1 a mA∧∀ f,tM (fs.lookup f) (mA f)
 | .rng lo hi=>∃ t u v,h.get? a=some { cls:=.type "range", data:=.fields #[.int lo t,.int hi u,.int 1 v] }
 | .frz o u=>h.get? a=some o∧gZ H h a u
 | .tbl q p=>∃ ps,h.get? a=some { cls:=.none,data:=.fields ps }∧(ps = #[]∨∃ c',ps = #[rawInt p.line,rawInt p.col,.ref c']∧H c'=some (.own a)∧h.CodeRec (.ref c') q)
 | .met f x=>h.get? a=some (PySem.W.methodObj (.ref f) (.ref x))
 | .ext φ=>φ h∧(∃ o,h.get? a=some o)∧∀ h1 h2:Heap,φ h1→(∀ o,h1.get? a=some o→h2.get? a=some o)→φ h2
def HOk (H:Hp) (h:Heap):Prop:=∀ a o,H a=some o→gZ P w H h a o
end
section
variable {P:Program} {w:World} {H H':Hp} {h h':Heap} {a:Addr} {o:HO}
theorem gZ.lt (x:gZ P w H h a o):a < h.objs.size:=by
 cases o with
 | lst xs=>obtain ⟨_,_,_,_,e⟩:=x;exact Heap.lt_size e
 | tup xs=>obtain ⟨_,_,_,p⟩:=x;exact p.lt
 | dK kvs=>obtain ⟨_,_,_,_,o,_,_,e,_⟩:=x;exact Heap.lt_size e
 | dT kvs=>obtain ⟨_,_,_,_,o,_,_,e,_⟩:=x;exact Heap.lt_size e
 | set S n=>obtain ⟨o,_,_,_,e,_⟩:=x;exact Heap.lt_size e
 | ins C dx fs=>obtain ⟨_,_,_,e,_⟩:=x;exact Heap.lt_size e
 | own y=>obtain ⟨_,e⟩:=x;exact Heap.lt_size e
 | xd fs=>obtain ⟨_,⟨_,_,_,e,_⟩,_⟩:=x;exact Heap.lt_size e
 | rng lo hi=>obtain ⟨_,_,_,e⟩:=x;exact Heap.lt_size e
 | frz ob u=>obtain ⟨e,_⟩:=x;exact Heap.lt_size e
 | tbl q p=>obtain ⟨_,e,_⟩:=x;exact Heap.lt_size e
 | met f y=>exact Heap.lt_size (show h.get? a=some _ from x)
 | ext φ=>obtain ⟨_,⟨_,e⟩,_⟩:=x;exact Heap.lt_size e
theorem Paired.mapP {α β:Type} {F G:α→β→Prop}:∀ {l₁:List α} {l₂:List β},Paired F l₁ l₂→(∀ a b,F a b→G a b)→Paired G l₁ l₂
 | _,_,.nil,_=>.nil
 | _,_,.cons r t,f=>.cons (f _ _ r) (Paired.mapP t f)
theorem gZ.stay (x:gZ P w H h a o) (k:∀ b u,(b=a∨H b=some (.own a))→h.get? b=some u→h'.get? b=some u)
 (ho:∀ b,H b=some (.own a)→H' b=some (.own a)) (ht:∀ b xs,H b=some (.tup xs)→H' b=some (.tup xs)):gZ P w H' h' a o:=by
 induction o with
 | lst xs=>obtain ⟨z,its,n,r,e⟩:=x;exact ⟨z,its,n,r,k _ _ (.inl rfl) e⟩
 | tup xs=>obtain ⟨z,its,r,ob,e,c⟩:=x;exact ⟨z,its,r,ob,k _ _ (.inl rfl) e,c⟩
 | dK kvs=>obtain ⟨z,y,vs,r,ob,es,ep,e,c⟩:=x;exact ⟨z,y,vs,r,ob,es,ep,k _ _ (.inl rfl) e,c⟩
 | dT kvs =>
  obtain ⟨z,y,xs,r,ob,es,ep,e,c⟩:=x
  exact ⟨z,y,xs,Paired.mapP r fun p q z=>⟨z.1,ht _ _ z.2.1,z.2.2⟩,ob,es,ep,k _ _ (.inl rfl) e,c⟩
 | set S n=>obtain ⟨ob,es,ep,t,e,c⟩:=x;exact ⟨ob,es,ep,t,k _ _ (.inl rfl) e,c⟩
 | ins C dx fs =>
  obtain ⟨d,z,ne,e,mA,⟨od,es,ep,e2,c⟩,r⟩:=x
  exact ⟨ho _ d,z,ne,k _ _ (.inl rfl) e,mA,⟨od,es,ep,k _ _ (.inr d) e2,c⟩,r⟩
 | own y=>obtain ⟨ob,e⟩:=x;exact ⟨ob,k _ _ (.inl rfl) e⟩
 | xd fs=>obtain ⟨mA,⟨od,es,ep,e,c⟩,r⟩:=x;exact ⟨mA,⟨od,es,ep,k _ _ (.inl rfl) e,c⟩,r⟩
 | rng lo hi=>obtain ⟨t,u,v,e⟩:=x;exact ⟨t,u,v,k _ _ (.inl rfl) e⟩
 | frz ob u ih=>obtain ⟨e,q⟩:=x;exact ⟨k _ _ (.inl rfl) e,ih q⟩
 | tbl q p =>
  obtain ⟨ps,e,z⟩:=x
  refine ⟨ps,k a _ (.inl rfl) e,?_⟩
  rcases z with z | ⟨c',z1,z2,z3⟩
  ·exact .inl z
  ·obtain ⟨c,oc,vs,tq,hc,hoc,hdc,hq⟩:=z3
   have hc':c'=c:=by injection hc
   exact .inr ⟨c',z1,ho _ z2,c,oc,vs,tq,hc,k _ _ (.inr (hc' ▸ z2)) hoc,hdc,hq⟩
 | met f y =>
  have e:h.get? a=some (PySem.W.methodObj (.ref f) (.ref y)):=x
  show h'.get? a=some (PySem.W.methodObj (.ref f) (.ref y))
  exact k a _ (.inl rfl) e
 | ext φ=>obtain ⟨p,⟨o,e⟩,st⟩:=x;exact ⟨st _ _ p fun o q=>k _ _ (.inl rfl) q,⟨o,k _ _ (.inl rfl) e⟩,st⟩
theorem HOk.lt (x:HOk P w H h) (e:H a=some o):a < h.objs.size:=(x a o e).lt
theorem HOk.fresh (x:HOk P w H h) (e:h.objs.size ≤ a):H a=none:=by
 cases q:H a with
 | none=>rfl
 | some u=>exact absurd (bN (x.lt q) e) (fU _)
theorem HOk.kept (x:HOk P w H h) (k:∀ b u,h.get? b=some u→h'.get? b=some u):HOk P w H h':=fun a o e =>
 (x a o e).stay (fun b u _ q=>k b u q) (fun _ q=>q) fun _ _ q=>q
theorem HOk.laid (x:HOk P w H h) (k:∀ b u,h.get? b=some u→h'.get? b=some u) (hp:h.objs.size ≤ a) (new:gZ P w (upd H a o) h' a o):HOk P w (upd H a o) h':=fun b u e=>by
 have hn:=x.fresh hp
 by_cases hb:b=a
 ·subst hb;rw [dg] at e;cases e;exact new
 ·rw [cI hb] at e
  exact (x b u e).stay (fun c v _ q=>k c v q) (fun c q=>by rw [cI (jh q hn)];exact q) fun c xs q=>by rw [cI (jh q hn)];exact q
end
def Rd (H:Hp) (a:Addr) (u:HO):Prop:=H a=some u∨∃ o,H a=some (.frz o u)
theorem Rd.ok {P:Program} {w:World} {H:Hp} {h:Heap} {a:Addr} {u:HO} (r:Rd H a u) (x:HOk P w H h):gZ P w H h a u:=by
 rcases r with r | ⟨o,r⟩
 ·exact x a u r
 ·obtain ⟨_,q⟩:=x a _ r
  exact q
def Mut:Option HO→Prop
 | some (.lst _)=>True
 | some (.dK _)=>True
 | some (.dT _)=>True
 | some (.set _ _)=>True
 | some (.ins _ _ _)=>True
 | some (.ext _)=>True
 | _=>False
section
variable {P:Program} {w:World} {H:Hp} {h h':Heap} {x e:Addr} {o':HO}
theorem HOk.write (ok:HOk P w H h) (mu:Mut (H x)) (he:e=x∨H e=some (.own x)) (k:∀ b u,b ≠ e→h.get? b=some u→h'.get? b=some u) (heo:∃ u,h'.get? e=some u)
 (new:gZ P w (upd H x o') h' x o'):HOk P w (upd H x o') h':=fun b u q=>by
 have nown:∀ c y,H c=some (.own y)→c ≠ x:=fun c y r z=>by subst z;rw [r] at mu;exact mu
 have ntup:∀ c xs,H c=some (.tup xs)→c ≠ x:=fun c xs r z=>by subst z;rw [r] at mu;exact mu
 by_cases hb:b=x
 ·subst hb;rw [dg] at q;cases q;exact new
 ·rw [cI hb] at q
  by_cases hbe:b=e
  ·have q':H b=some (.own x):=by
    rcases he with z | z
    ·exact absurd (hbe.trans z) hb
    ·rw [hbe];exact z
   rw [q] at q';cases q'
   obtain ⟨v,hv⟩:=heo
   exact ⟨v,by rw [hbe];exact hv⟩
  ·refine (ok b u q).stay (fun c v hc r=>k c v ?_ r) (fun c r=>by rw [cI (nown c b r)];exact r) fun c xs r=>by rw [cI (ntup c xs r)];exact r
   rcases hc with rfl | hc
   ·exact hbe
   ·rintro rfl
    rcases he with z | z
    ·exact nown c b hc z
    ·rw [hc] at z;cases z;exact hb rfl
end
structure Un (fs ex:List Addr) (H H':Hp) (h h':Heap):Prop where
 keep:∀ b o,h.get? b=some o→H b=none→b ∉ fs→b ∉ ex→h'.get? b=some o
 slot:∀ b o,h.get? b=some o→H b=none→b ∈ fs→b ∉ ex→∃ sl,h'.get? b=some { o with slots:=sl }
 free:∀ b o,h.get? b=some o→H b=none→b ∉ ex→H' b=none
 there:∀ b o,h.get? b=some o→b ∉ ex→∃ o',h'.get? b=some o'
 tups:∀ b xs,H b=some (.tup xs)→H' b=some (.tup xs)
 frzs:∀ b o u,H b=some (.frz o u)→H' b=some (.frz o u)
 tbls:∀ b q p,H b=some (.tbl q p)→H' b=some (.tbl q p)
section
variable {fs fs' ex ex':List Addr} {H H1 H2:Hp} {h h1 h2 h':Heap} {a x e:Addr} {o:HO}
theorem Un.any (u:Un fs ex H H1 h h1) {b:Addr} {ob:Obj} (q:h.get? b=some ob) (n:H b=none) (hx:b ∉ ex):∃ sl,h1.get? b=some { ob with slots:=sl }:=by
 by_cases hb:b ∈ fs
 ·exact u.slot b ob q n hb hx
 ·exact ⟨ob.slots,u.keep b ob q n hb hx⟩
theorem Un.kept (k:∀ b u,h.get? b=some u→h'.get? b=some u):Un fs ex H H h h' :=
 ⟨fun b ob q _ _ _=>k b ob q,fun b ob q _ _ _=>⟨ob.slots,k b ob q⟩,fun _ _ _ n _=>n,fun b ob q _=>⟨ob,k b ob q⟩,fun _ _ q=>q,fun _ _ _ q=>q,fun _ _ _ q=>q⟩
theorem Un.refl:Un fs ex H H h h:=Un.kept fun _ _ q=>q
theorem Un.laid (k:∀ b u,h.get? b=some u→h'.get? b=some u) (hp:h.objs.size ≤ a) (hn:H a=none):Un fs ex H (upd H a o) h h' where
 keep:=fun b u q _ _ _=>k b u q
 slot:=fun b u q _ _ _=>⟨u.slots,k b u q⟩
 free:=fun b u q n _=>by rw [cI (bO (bN (Heap.lt_size q) hp))];exact n
 there:=fun b u q _=>⟨u,k b u q⟩
 tups:=fun b xs q=>by rw [cI (jh q hn)];exact q
 frzs:=fun b u xs q=>by rw [cI (jh q hn)];exact q
 tbls:=fun b q p e=>by rw [cI (jh e hn)];exact e
theorem Un.write (mu:Mut (H x)) (he:e=x∨H e=some (.own x)) (k:∀ b u,b ≠ e→h.get? b=some u→h'.get? b=some u) (heo:∃ u,h'.get? e=some u):Un fs ex H (upd H x o) h h':=by
 have hx:∀ b,H b=none→b ≠ x:=fun b n z=>by subst z;rw [n] at mu;exact mu
 have hb:∀ b,H b=none→b ≠ e:=fun b n z=>by
  subst z
  rcases he with r | r
  ·exact hx b n r
  ·rw [n] at r;cases r
 have hm:∀ b u,H b=some u→¬ Mut (some u)→b ≠ x:=fun b u q nm z=>by subst z;rw [q] at mu;exact nm mu
 refine ⟨fun b u q n _ _=>k b u (hb b n) q,fun b u q n _ _=>⟨u.slots,k b u (hb b n) q⟩,fun b u q n _=>by rw [cI (hx b n)];exact n,fun b u q _=>?_,
  fun b xs q=>by rw [cI (hm b _ q fun z=>z)];exact q,fun b u xs q=>by rw [cI (hm b _ q fun z=>z)];exact q,fun b q p e=>by rw [cI (hm b _ e fun z=>z)];exact e⟩
 by_cases hbe:b=e
 ·subst hbe;exact heo
 ·exact ⟨u,k b u hbe q⟩
end
def trk (h:Heap) (H:Hp):List Addr:=(aH h.objs.size).filter fun a=>(H a).isSome
def yM (h:Heap) (H:Hp):Heap:=PySem.W.hideAll h (trk h H)
theorem Gg (h:Heap) (H:Hp):(yM h H).objs.size=h.objs.size:=PySem.W.hideAll_size _ _
theorem HX {h:Heap} {H:Hp} {b:Addr} {o:Obj} (e:h.get? b=some o) (n:H b=none):(yM h H).get? b=some o :=
 PySem.W.hideAll_get _ e fun hm=>by
  have q:(H b).isSome=true:=(bR.mp hm).2
  rw [n] at q;simp at q
theorem Mg {h:Heap} {H:Hp} {b:Addr} {o:Obj} (e:(yM h H).get? b=some o):h.get? b=some o∧H b=none:=by
 have e':h.get? b=some o:=PySem.W.of_hideAll (trk h H) e
 refine ⟨e',?_⟩
 cases q:H b with
 | none=>rfl
 | some x =>
  have hm:b ∈ trk h H:=bR.mpr ⟨aY.mpr (Heap.lt_size e'),by simp [q]⟩
  have z:(yM h H).get? b=none:=PySem.W.hideAll_none (trk h H) hm
  rw [z] at e;cases e
def mW (g h:Heap) (L:Addr):List (Addr × Obj):=(aH h.objs.size).filterMap fun a=>if a=L∨(g.get? a).isSome=true then none else (h.get? a).map fun o=>(a,o)
theorem qg {g h:Heap} {L a:Addr} {o:Obj} (h1:a ≠ L) (h2:g.get? a=none) (h3:h.get? a=some o):(a,o) ∈ mW g h L :=
 fL.mpr ⟨a,aY.mpr (Heap.lt_size h3),by simp [h1,h2,h3]⟩
theorem uU {g h:Heap} {L:Addr} {p:Addr × Obj} (hp:p ∈ mW g h L):p.1 ≠ L∧g.get? p.1=none∧h.get? p.1=some p.2:=by
 obtain ⟨b,_,e⟩:=fL.mp hp
 split at e
 ·cases e
 ·rename_i hn
  cases q:h.get? b with
  | none=>rw [q] at e;simp at e
  | some u =>
   rw [q] at e
   simp only [eN,cV.injEq] at e
   subst e
   refine ⟨fun z=>hn (.inl z),?_,q⟩
   show g.get? b=none
   cases r:g.get? b with
   | none=>rfl
   | some v=>exact (hn (.inr (by simp [r]))).elim
theorem uV {g h:Heap} {L:Addr}:News g L h (mW g h L):=fun p hp=>let ⟨a,b,c⟩:=uU hp;⟨c,a,b⟩
end L2
namespace L2
open PySem PySem.Spec PyProof.Rows
structure Mod (K:PySem.W.Frag) (mg:Str→Option Value) (base:Heap):Prop where
 kin:K.In base
 glob:base.Ns mainGlobals mg
 blt:∃ mb,base.Ns builtinsNs mb∧∀ x:Str,x ≠ "__name__" → mb x=bootBuiltins x
 nolimit:base.NoLimit
 bm:∃ bm ob,mg "__builtins__" = some (.ref bm)∧bm ≠ builtinsNs∧base.get? bm=some ob∧ob.cls = .type "module" ∧ ob.dict=some builtinsNs∧ob.data = .plain
structure Cx where
 prog:Program
 w:World
 K:PySem.W.Frag
 mg:Str→Option Value
 base:Heap
 A:Around
 N:List Str
 s₀:Shared
 H₀:Hp
 env:Env
 outer:List Env
 stack:List Env
 ex:List Addr
 fn:Str→Bool
 calm:Bool
 pn:List (Addr × Obj)
 xe:Value→Shared→Prop
def frs (l:List Env):List Addr:=l.filterMap (·.frame)
abbrev Cx.fs (X:Cx):List Addr:=frs X.outer
def Vis (sc:Scope) (x:Str):Prop:=sc.names.lookup x=some .local∨sc.names.lookup x=some .cell∨sc.names.lookup x=some .free
def Loc (sc:Scope) (x:Str):Prop:=sc.names.lookup x=some .local∨sc.names.lookup x=some .cell
def Look (env:Env) (h:Heap) (m:Str→Option Value) (x:Str) (u:Value):Prop :=
 (env.kindOf x=some .local∧m x=some u)∨((env.kindOf x=some .cell∨env.kindOf x=some .free)∧∃ c,env.cells.lookup x=some c∧h.IsCell c (some u))
structure Cx.Ok (X:Cx):Prop where
 mod:Mod X.K X.mg X.base
 kind:X.env.scope.kind = .function
 glob:X.env.globals=mainGlobals
 blt:X.env.builtins=builtinsNs
 above:X.s₀.heap.objs.size ≤ X.env.locals
 inj:∀ x y c,X.env.cells.lookup x=some c→X.env.cells.lookup y=some c→x=y
 has:∀ x,(X.env.kindOf x=some .cell∨X.env.kindOf x=some .free)→∃ c,X.env.cells.lookup x=some c
 cab:∀ x c,X.fn x=true→X.env.cells.lookup x=some c→X.s₀.heap.objs.size ≤ c
 hd:X.calm=true→X.A.handled=none
 frames:X.A.frames=some X.stack
 stk:X.stack=X.outer∨(X.stack=X.env :: X.outer∧X.env.frame=some X.env.locals)
 exf:∀ b ∈ X.ex,b ≠ X.env.locals∧∀ x c,X.env.cells.lookup x=some c→c ≠ b
 bs:∀ b o,X.base.get? b=some o→X.s₀.heap.get? b=some o∧X.H₀ b=none
 bsz:X.base.objs.size ≤ X.s₀.heap.objs.size
 noex:∀ b o,X.base.get? b=some o→b ∉ X.ex
 exfs:∀ b ∈ X.ex,b ∉ X.fs
 funs:X.s₀.heap.FunFrames X.base X.outer
 frf:∀ b ∈ X.fs,X.H₀ b=none
structure Inv (X:Cx) (pins:List (Addr × Obj)) (σ:List (Option V)) (H:Hp) (s:Shared):Prop where
 ok:X.Ok
 os:s.os=X.s₀.os
 bare:AllBare s.gens
 base:Un X.fs X.ex X.H₀ H X.s₀.heap s.heap
 loc:∃ m,s.heap.Ns X.env.locals m∧∀ (i:Nat) (x:Str) (v:V),X.N[i]? = some x→σ[i]? = some (some v)→Vis X.env.scope x→∃ u,RelV v u∧Look X.env s.heap m x u
 cell:∀ x c,X.env.cells.lookup x=some c→∃ v,s.heap.IsCell c v
 free:H X.env.locals=none
 freeC:∀ x c,X.env.cells.lookup x=some c→H c=none
 pin:∀ p ∈ X.pn++pins,s.heap.get? p.1=some p.2∧H p.1=none∧p.1 ≠ X.env.locals∧p.1 ∉ X.fs∧∀ v,p.2.data ≠ .cell v
 hok:HOk X.prog X.w H s.heap
 len:σ.length=X.N.length
section
variable {X:Cx} {pins:List (Addr × Obj)} {σ:List (Option V)} {H H':Hp} {s:Shared} {h':Heap}
theorem Cx.Ok.nofr (ok:X.Ok) {b:Addr} {o:Obj} (e:X.base.get? b=some o):b ∉ X.fs:=fun hb=>by
 have:=(ok.funs.mem hb).1
 rw [e] at this;cases this
theorem Inv.bs (I:Inv X pins σ H s):∀ b o,X.base.get? b=some o→s.heap.get? b=some o∧H b=none:=fun b o e =>
 ⟨I.base.keep b o (I.ok.bs b o e).1 (I.ok.bs b o e).2 (I.ok.nofr e) (I.ok.noex b o e),I.base.free b o (I.ok.bs b o e).1 (I.ok.bs b o e).2 (I.ok.noex b o e)⟩
theorem Inv.bk (I:Inv X pins σ H s):∀ b o,X.base.get? b=some o→s.heap.get? b=some o:=fun b o e=>(I.bs b o e).1
theorem Inv.mod (I:Inv X pins σ H s):Mod X.K X.mg X.base:=I.ok.mod
theorem Inv.kIn (I:Inv X pins σ H s):X.K.In s.heap:=I.ok.mod.kin.keeps I.bk
theorem Inv.lt (I:Inv X pins σ H s):X.env.locals < s.heap.objs.size:=let ⟨_,hn,_⟩:=I.loc;hn.lt
theorem Inv.sz (I:Inv X pins σ H s):X.s₀.heap.objs.size ≤ s.heap.objs.size:=bM I.ok.above (fV I.lt)
theorem Inv.nofs (I:Inv X pins σ H s) {a:Addr} (h:s.heap.objs.size ≤ a):a ∉ X.fs:=fun hb=>by
 obtain ⟨_,o,ho,_⟩:=I.ok.funs.mem hb
 exact absurd (bN (Heap.lt_size ho) (bM I.sz h)) (fU _)
theorem Inv.cne (I:Inv X pins σ H s):∀ x c,X.env.cells.lookup x=some c→c ≠ X.env.locals:=fun x c e z=>by
 obtain ⟨v,o,ho,hd⟩:=I.cell x c e
 obtain ⟨m,⟨o',es,ep,ho',hd',_⟩,_⟩:=I.loc
 rw [z,ho'] at ho;cases ho;rw [hd'] at hd;cases hd
theorem Inv.funs (I:Inv X pins σ H s):s.heap.FunFrames X.base X.outer:=by
 have all:∀ (l:List Env),(∀ b ∈ frs l,b ∈ X.fs)→X.s₀.heap.FunFrames X.base l→s.heap.FunFrames X.base l:=by
  intro l
  induction l with
  | nil=>intro _ _;trivial
  | cons env r ih =>
   intro hs hl
   obtain ⟨hk,⟨L,o,hf,hn,ho,hd⟩,hr⟩:=hl
   have hL:L ∈ X.fs:=hs L (by unfold frs;rw [cX,hf];exact aM)
   obtain ⟨sl,e⟩:=I.base.slot L o ho (I.ok.frf L hL) hL fun z=>I.ok.exfs L z hL
   exact ⟨hk,⟨L,_,hf,hn,e,hd⟩,ih (fun b hb=>hs b (by unfold frs;rw [cX,hf];exact aO _ hb)) hr⟩
 exact all X.outer (fun _ hb=>hb) I.ok.funs
theorem Inv.stack (I:Inv X pins σ H s):s.heap.FunFrames X.base X.stack:=by
 rcases I.ok.stk with e | ⟨e,hf⟩
 ·rw [e];exact I.funs
 ·rw [e]
  obtain ⟨m,hn,_⟩:=I.loc
  refine .cons (by rw [I.ok.kind];decide) hf hn ?_ I.funs
  exact Heap.get?_none_of_le (bM I.ok.bsz I.ok.above)
theorem Inv.stkSub (I:Inv X pins σ H s):∀ b ∈ frs X.stack,b ∈ X.env.locals :: X.fs:=fun b hb=>by
 rcases I.ok.stk with e | ⟨e,hf⟩
 ·rw [e] at hb;exact aO _ hb
 ·rw [e] at hb
  unfold frs at hb
  rw [cX,hf] at hb
  exact hb
theorem Inv.stkFree (I:Inv X pins σ H s):∀ b ∈ frs X.stack,H b=none:=fun b hb=>by
 rcases bF.mp (I.stkSub b hb) with e | hb
 ·rw [e];exact I.free
 ·obtain ⟨_,o,ho,_⟩:=I.ok.funs.mem hb
  exact I.base.free b o ho (I.ok.frf b hb) fun z=>I.ok.exfs b z hb
theorem Inv.step {g':Array GenState} {t':Nat} {d':Drawn} {ch:List Addr} (I:Inv X pins σ H s)
 (hch:∀ b ∈ ch,(b ∈ X.ex∨X.s₀.heap.objs.size ≤ b)∧b ≠ X.env.locals∧(∀ x c,X.env.cells.lookup x=some c→c ≠ b)∧∀ p ∈ X.pn++pins,p.1 ≠ b)
 (keep:∀ b o,b ≠ X.env.locals→b ∉ X.fs→b ∉ ch→s.heap.get? b=some o→H b=none→h'.get? b=some o)
 (slot:∀ b o,b ≠ X.env.locals→b ∈ X.fs→b ∉ ch→s.heap.get? b=some o→H b=none→∃ sl,h'.get? b=some { o with slots:=sl }) (free:∀ b o,b ∉ ch→s.heap.get? b=some o→H b=none→H' b=none)
 (there:∀ b o,b ∉ ch→s.heap.get? b=some o→∃ o',h'.get? b=some o')
 (tups:∀ b xs,H b=some (.tup xs)→H' b=some (.tup xs)) (frzs:∀ b o u,H b=some (.frz o u)→H' b=some (.frz o u)) (tbls:∀ b q p,H b=some (.tbl q p)→H' b=some (.tbl q p))
 (ns:∀ m,s.heap.Ns X.env.locals m→h'.Ns X.env.locals m) (hok:HOk X.prog X.w H' h') (hg:AllBare g') :
 Inv X pins σ H' { s with heap:=h',gens:=g',drawn:=d',toks:=t' }:=by
 have neL:∀ b o,X.s₀.heap.get? b=some o→b ≠ X.env.locals:=fun b o e=>bO (bN (Heap.lt_size e) I.ok.above)
 have neC:∀ b o,X.s₀.heap.get? b=some o→b ∉ X.ex→b ∉ ch:=fun b o e hx hb=>by
  rcases (hch b hb).1 with z | z
  ·exact hx z
  ·exact absurd (bN (Heap.lt_size e) z) (fU _)
 have cellK:∀ x c,X.env.cells.lookup x=some c→∀ v,s.heap.IsCell c v→h'.IsCell c v:=fun x c e v ⟨o,ho,hd⟩=>by
  have nch:c ∉ ch:=fun z=>(hch c z).2.2.1 x c e rfl
  by_cases hc:c ∈ X.fs
  ·obtain ⟨sl,q⟩:=slot c o (I.cne x c e) hc nch ho (I.freeC x c e)
   exact ⟨_,q,hd⟩
  ·exact ⟨o,keep c o (I.cne x c e) hc nch ho (I.freeC x c e),hd⟩
 refine ⟨I.ok,I.os,hg,⟨fun b o e n hb hx=>?_,fun b o e n hb hx=>?_,fun b o e n hx=>?_,fun b o e hx=>?_,fun b xs e=>tups b xs (I.base.tups b xs e),fun b o xs e=>frzs b o xs (I.base.frzs b o xs e),fun b q p e=>tbls b q p (I.base.tbls b q p e)⟩,?_,fun x c e=>?_,?_,fun x c e=>?_,fun p hp=>?_,hok,I.len⟩
 ·exact keep b o (neL b o e) hb (neC b o e hx) (I.base.keep b o e n hb hx) (I.base.free b o e n hx)
 ·obtain ⟨sl,e1⟩:=I.base.slot b o e n hb hx
  obtain ⟨sl',e2⟩:=slot b _ (neL b o e) hb (neC b o e hx) e1 (I.base.free b o e n hx)
  exact ⟨sl',e2⟩
 ·obtain ⟨o',e1⟩:=I.base.there b o e hx
  exact free b o' (neC b o e hx) e1 (I.base.free b o e n hx)
 ·obtain ⟨o',e1⟩:=I.base.there b o e hx
  exact there b o' (neC b o e hx) e1
 ·obtain ⟨m,hn,hl⟩:=I.loc
  refine ⟨m,ns m hn,fun i x v e1 e2 e3=>?_⟩
  obtain ⟨u,r,l⟩:=hl i x v e1 e2 e3
  refine ⟨u,r,?_⟩
  rcases l with l | ⟨k,c,e,z⟩
  ·exact .inl l
  ·exact .inr ⟨k,c,e,cellK x c e _ z⟩
 ·obtain ⟨v,z⟩:=I.cell x c e
  exact ⟨v,cellK x c e v z⟩
 ·obtain ⟨m,⟨o,_,_,ho,_⟩,_⟩:=I.loc
  exact free _ o (fun z=>(hch _ z).2.1 rfl) ho I.free
 ·obtain ⟨v,o,ho,hd⟩:=I.cell x c e
  exact free c o (fun z=>(hch c z).2.2.1 x c e rfl) ho (I.freeC x c e)
 ·obtain ⟨e,n,ne,nf,d⟩:=I.pin p hp
  have nch:p.1 ∉ ch:=fun z=>(hch p.1 z).2.2.2 p hp rfl
  exact ⟨keep p.1 p.2 ne nf nch e n,free p.1 p.2 nch e n,ne,nf,d⟩
theorem Inv.un {t':Nat} (I:Inv X pins σ H s) (u:Un X.fs [] H H' s.heap h') (hok:HOk X.prog X.w H' h'):Inv X pins σ H' { s with heap:=h',toks:=t' }:=by
 obtain ⟨m,⟨o,es,ep,ho,r⟩,_⟩:=id I.loc
 obtain ⟨sl,hL⟩:=u.any ho I.free (by simp)
 exact I.step (g':=s.gens) (d':=s.drawn) (ch:=[]) (fun _ z=>nomatch z) (fun b o _ hb _ e n=>u.keep b o e n hb (by simp)) (fun b o _ hb _ e n=>u.slot b o e n hb (by simp)) (fun b o _ e n=>u.free b o e n (by simp)) (fun b o _ e=>u.there b o e (by simp)) u.tups u.frzs u.tbls (fun m' hm=>by
  obtain ⟨o',es',ep',ho',r'⟩:=hm
  rw [ho] at ho';cases ho'
  exact ⟨_,es',ep',hL,r'⟩) hok I.bare
theorem Inv.call {g':Array GenState} {t':Nat} {d':Drawn} {ch:List Addr} (I:Inv X pins σ H s) (u:Un (frs X.stack) ch H H' s.heap h') (hok:HOk X.prog X.w H' h') (hg:AllBare g')
 (hch:∀ b ∈ ch,(b ∈ X.ex∨X.s₀.heap.objs.size ≤ b)∧b ≠ X.env.locals∧(∀ x c,X.env.cells.lookup x=some c→c ≠ b)∧∀ p ∈ X.pn++pins,p.1 ≠ b) :
 Inv X pins σ H' { s with heap:=h',gens:=g',drawn:=d',toks:=t' }:=by
 obtain ⟨m,⟨o,es,ep,ho,r⟩,_⟩:=id I.loc
 obtain ⟨sl,hL⟩:=u.any ho I.free fun z=>(hch _ z).2.1 rfl
 exact I.step (ch:=ch) hch (fun b o hL hb hc e n=>u.keep b o e n (fun z=>(bF.mp (I.stkSub b z)).elim hL hb) hc) (fun b o _ _ hc e n=>u.any e n hc) (fun b o hc e n=>u.free b o e n hc) (fun b o hc e=>u.there b o e hc) u.tups u.frzs u.tbls (fun m' hm=>by
  obtain ⟨o',es',ep',ho',r'⟩:=hm
  rw [ho] at ho';cases ho'
  exact ⟨_,es',ep',hL,r'⟩) hok hg
theorem Inv.turned {t':Nat} {it:Addr} (I:Inv X pins σ H s) (k:∀ b o,b ≠ it→s.heap.get? b=some o→h'.get? b=some o) (hn:H it=none) (hL:it ≠ X.env.locals)
 (h1:it ∈ X.ex∨X.s₀.heap.objs.size ≤ it) (h2:∀ x c,X.env.cells.lookup x=some c→c ≠ it) (h3:∀ p ∈ X.pn++pins,p.1 ≠ it):Inv X pins σ H { s with heap:=h',toks:=t' }:=by
 have nit:∀ b u,H b=some u→b ≠ it:=fun b u e z=>by rw [z,hn] at e;cases e
 refine I.step (g':=s.gens) (d':=s.drawn) (ch:=[it]) (fun b hb=>?_) (fun b o _ _ hc e _=>k b o (fun z=>hc (by simp [z])) e) (fun b o _ _ hc e _=>⟨o.slots,k b o (fun z=>hc (by simp [z])) e⟩) (fun _ _ _ _ n=>n)
  (fun b o hc e=>⟨o,k b o (fun z=>hc (by simp [z])) e⟩) (fun _ _ e=>e) (fun _ _ _ e=>e) (fun _ _ _ e=>e) (fun m hm=>?_) (fun b u e=>?_) I.bare
 ·have e:b=it:=by simpa using hb
  subst e
  exact ⟨h1,hL,h2,h3⟩
 ·obtain ⟨o,es,ep,ho,r⟩:=hm
  exact ⟨o,es,ep,k _ o (Ne.symm hL) ho,r⟩
 ·refine (I.hok b u e).stay (fun c v hc q=>k c v ?_ q) (fun _ q=>q) fun _ _ q=>q
  rcases hc with z | z
  ·rw [z];exact nit b u e
  ·exact nit c _ z
theorem Inv.tok (I:Inv X pins σ H s) (t:Nat):Inv X pins σ H { s with toks:=t }:=I.un (h':=s.heap) (t':=t) Un.refl I.hok
theorem Inv.kept {t':Nat} (I:Inv X pins σ H s) (k:∀ b u,s.heap.get? b=some u→h'.get? b=some u):Inv X pins σ H { s with heap:=h',toks:=t' }:=I.un (Un.kept k) (I.hok.kept k)
theorem Inv.laid {a:Addr} {o:HO} {t':Nat} (I:Inv X pins σ H s) (k:∀ b u,s.heap.get? b=some u→h'.get? b=some u) (hp:s.heap.objs.size ≤ a) (new:gZ X.prog X.w (upd H a o) h' a o) :
 Inv X pins σ (upd H a o) { s with heap:=h',toks:=t' }:=I.un (Un.laid k hp (I.hok.fresh hp)) (I.hok.laid k hp new)
theorem Inv.write {x e:Addr} {o:HO} {t':Nat} (I:Inv X pins σ H s) (mu:Mut (H x)) (he:e=x∨H e=some (.own x)) (k:∀ b u,b ≠ e→s.heap.get? b=some u→h'.get? b=some u) (heo:∃ u,h'.get? e=some u)
 (new:gZ X.prog X.w (upd H x o) h' x o):Inv X pins σ (upd H x o) { s with heap:=h',toks:=t' }:=I.un (Un.write mu he k heo) (I.hok.write mu he k heo new)
theorem Inv.pins_of {pins':List (Addr × Obj)} (I:Inv X pins σ H s) (h:∀ p ∈ pins',s.heap.get? p.1=some p.2∧H p.1=none∧p.1 ≠ X.env.locals∧p.1 ∉ X.fs∧∀ v,p.2.data ≠ .cell v):Inv X pins' σ H s :=
 ⟨I.ok,I.os,I.bare,I.base,I.loc,I.cell,I.free,I.freeC,fun p hp=>(aX.mp hp).elim (fun z=>I.pin p (bx _ z)) (h p),I.hok,I.len⟩
theorem Ah {N:List Str} (hN:N.Nodup) {i j:Nat} {x:Str} (a:N[i]? = some x) (b:N[j]? = some x):i=j:=by
 obtain ⟨h1,e1⟩:=cP.mp a
 obtain ⟨h2,e2⟩:=cP.mp b
 exact (List.getElem_inj hN).mp (e1.trans e2.symm)
theorem xT {M:Model} {A:Around} {E:Value→Shared→Prop} {i:Nat} {x:Str} {v:V} {u:Value} {Q:Unit→Shared→Prop} (I:Inv X pins σ H s) (hN:X.N.Nodup) (hi:X.N[i]? = some x) (hx:Loc X.env.scope x) (r:RelV v u)
 (h:∀ s',Inv X pins (σ.set i (some v)) H s'→(∃ a,Heap.SameBut a s.heap s'.heap∧(a=X.env.locals∨X.env.cells.lookup x=some a))→Q () s') (hf:X.fn x=true∨X.env.scope.names.lookup x=some .local:=by first | exact .inl rfl | exact .inr rfl | assumption):wpAny M A (storeName X.env x u) Q E s:=by
 obtain ⟨m,hn,hl⟩:=id I.loc
 have hcls:(X.env.scope.kind == .class || (X.env.scope.kind == .module && X.env.locals != X.env.globals))=false:=by rw [I.ok.kind];rfl
 have hiσ:i < σ.length:=by rw [I.len];exact (cP.mp hi).1
 have cne:=I.cne
 have tracked:∀ {a:Addr} {h':Heap},(∃ o,s.heap.get? a=some o∧H a=none)→Heap.SameBut a s.heap h'→HOk X.prog X.w H h':=fun {a h'} ha hs b ob e=>by
  obtain ⟨_,_,hfree⟩:=ha
  refine (I.hok b ob e).stay (fun c w' hc q=>(hs.2 c ?_).trans q) (fun _ q=>q) fun _ _ q=>q
  rintro rfl
  rcases hc with rfl | hc
  ·rw [hfree] at e;cases e
  ·rw [hfree] at hc;cases hc
 rcases hx with hk | hk
 ·refine wpAny_storeName_local hk hn (fun h' hn' hs=>?_) hcls
  obtain ⟨oL,_,_,hoL,_⟩:=id hn
  refine h _ ⟨I.ok,I.os,I.bare,⟨fun b o e n hb hx=>?_,fun b o e n hb hx=>?_,I.base.free,fun b o e hx=>?_,I.base.tups,I.base.frzs,I.base.tbls⟩,⟨_,hn',fun j y v' e1 e2 e3=>?_⟩,fun y c e=>?_,I.free,I.freeC,fun p hp=>?_,tracked ⟨oL,hoL,I.free⟩ hs,by simpa using I.len⟩ ⟨_,hs,.inl rfl⟩
  ·exact (hs.2 b (bO (bN (Heap.lt_size e) I.ok.above))).trans (I.base.keep b o e n hb hx)
  ·obtain ⟨sl,e1⟩:=I.base.slot b o e n hb hx
   exact ⟨sl,(hs.2 b (bO (bN (Heap.lt_size e) I.ok.above))).trans e1⟩
  ·obtain ⟨o',e1⟩:=I.base.there b o e hx
   exact ⟨o',(hs.2 b (bO (bN (Heap.lt_size e) I.ok.above))).trans e1⟩
  ·by_cases hj:j=i
   ·subst hj
    rw [hi] at e1;cases e1
    rw [dD hiσ] at e2
    cases e2
    exact ⟨u,r,.inl ⟨hk,by simp⟩⟩
   ·rw [bD (Ne.symm hj)] at e2
    obtain ⟨u',r',q⟩:=hl j y v' e1 e2 e3
    refine ⟨u',r',?_⟩
    rcases q with ⟨k,e⟩ | ⟨k,c,e,z⟩
    ·refine .inl ⟨k,?_⟩
     have:y ≠ x:=fun e=>hj (Ah hN e1 (e ▸ hi))
     simp [this,e]
    ·exact .inr ⟨k,c,e,z.sameBut hs (cne y c e)⟩
  ·obtain ⟨w',z⟩:=I.cell y c e
   exact ⟨w',z.sameBut hs (cne y c e)⟩
  ·obtain ⟨e,n,ne,nf,d⟩:=I.pin p hp
   exact ⟨(hs.2 p.1 ne).trans e,n,ne,nf,d⟩
 ·have hfn:X.fn x=true:=by
   rcases hf with z | z
   ·exact z
   ·rw [z] at hk;cases hk
  obtain ⟨c,hc⟩:=I.ok.has x (.inl hk)
  obtain ⟨w',z⟩:=I.cell x c hc
  refine wpAny_storeName_cell I.ok.kind hk hc z (fun h' hc' hs=>?_)
  obtain ⟨oc,hoc,hocd⟩:=id z
  refine h { s with heap:=h' } ⟨I.ok,I.os,I.bare,⟨fun b o e n hb hx=>?_,fun b o e n hb hx=>?_,I.base.free,fun b o e hx=>?_,I.base.tups,I.base.frzs,I.base.tbls⟩,⟨m,hn.sameBut hs (Ne.symm (cne x c hc)),fun j y v' e1 e2 e3=>?_⟩,fun y c' e=>?_,I.free,I.freeC,fun p hp=>?_,tracked ⟨oc,hoc,I.freeC x c hc⟩ hs,by simpa using I.len⟩ ⟨c,hs,.inr hc⟩
  ·exact (hs.2 b (bO (bN (Heap.lt_size e) (I.ok.cab x c hfn hc)))).trans (I.base.keep b o e n hb hx)
  ·obtain ⟨sl,e1⟩:=I.base.slot b o e n hb hx
   exact ⟨sl,(hs.2 b (bO (bN (Heap.lt_size e) (I.ok.cab x c hfn hc)))).trans e1⟩
  ·obtain ⟨o',e1⟩:=I.base.there b o e hx
   exact ⟨o',(hs.2 b (bO (bN (Heap.lt_size e) (I.ok.cab x c hfn hc)))).trans e1⟩
  ·by_cases hj:j=i
   ·subst hj
    rw [hi] at e1;cases e1
    rw [dD hiσ] at e2
    cases e2
    exact ⟨u,r,.inr ⟨.inl hk,c,hc,hc'⟩⟩
   ·rw [bD (Ne.symm hj)] at e2
    obtain ⟨u',r',q⟩:=hl j y v' e1 e2 e3
    refine ⟨u',r',?_⟩
    rcases q with q | ⟨k,c',e,z'⟩
    ·exact .inl q
    ·refine .inr ⟨k,c',e,z'.sameBut hs ?_⟩
     rintro rfl
     exact hj (Ah hN e1 (I.ok.inj _ _ _ e hc ▸ hi))
  ·by_cases hcc:c'=c
   ·subst hcc;exact ⟨_,hc'⟩
   ·obtain ⟨w2,z2⟩:=I.cell y c' e
    exact ⟨w2,z2.sameBut hs hcc⟩
  ·obtain ⟨e,n,ne,nf,d⟩:=I.pin p hp
   refine ⟨(hs.2 p.1 ?_).trans e,n,ne,nf,d⟩
   intro q
   rw [q,hoc] at e
   have q':oc=p.2:=cV.inj e
   exact d w' (by rw [← q'];exact hocd)
theorem Ai {M:Model} {A:Around} {E:Value→Shared→Prop} {i:Nat} {x:Str} {v:V} {u:Value} {Q:Unit→Shared→Prop} (I:Inv X pins σ H s) (hN:X.N.Nodup) (hi:X.N[i]? = some x) (hx:Loc X.env.scope x) (r:RelV v u)
 (h:∀ s',Inv X pins (σ.set i (some v)) H s'→Q () s') (hf:X.fn x=true∨X.env.scope.names.lookup x=some .local:=by first | exact .inl rfl | exact .inr rfl | assumption):wpAny M A (storeName X.env x u) Q E s :=
 xT I hN hi hx r (fun s' I' _=>h s' I') hf
end
abbrev XK:=Value→Option Addr→Hp→Prop
abbrev St:=List (Option V)
abbrev VK:=V→Hp→Prop
abbrev TE:=St→Hp→VK→Prop
abbrev TT:=St→Hp→(Bool→Hp→Prop)→Prop
abbrev TA:=St→Hp→(List V→Hp→Prop)→Prop
structure Ends where
 nx:St→Hp→Prop
 rt:VK
 bk:St→Hp→Prop:=fun _ _=>False
 ct:St→Hp→Prop:=fun _ _=>False
abbrev TS:=Ends→St→Hp→Prop
def EP (X:Cx) (pins:List (Addr × Obj)) (σ:St) (Q:VK) (u:Value) (s':Shared):Prop:=∃ v H',Inv X pins σ H' s'∧RelV v u∧Q v H'
def TP (X:Cx) (pins:List (Addr × Obj)) (σ:St) (Q:Bool→Hp→Prop) (b:Bool) (s':Shared):Prop:=∃ H',Inv X pins σ H' s'∧Q b H'
def AP (X:Cx) (pins:List (Addr × Obj)) (σ:St) (Q:List V→Hp→Prop) (us:List Value) (s':Shared):Prop:=∃ vs H',Inv X pins σ H' s'∧Vals vs us∧Q vs H'
def SP (X:Cx) (pins:List (Addr × Obj)) (D:Ends) (f:Flow) (s':Shared):Prop :=
 match f with
 | .next=>∃ σ' H',Inv X pins σ' H' s'∧D.nx σ' H'
 | .brk=>∃ σ' H',Inv X pins σ' H' s'∧D.bk σ' H'
 | .cont=>∃ σ' H',Inv X pins σ' H' s'∧D.ct σ' H'
 | .ret u=>∃ v σ' H',Inv X pins σ' H' s'∧RelV v u∧D.rt v H'
def PE (X:Cx) (e:Expr) (t:TE):Prop :=
 ∀ (pins:List (Addr × Obj)) (s:Shared) (σ:St) (H:Hp) (Q:VK),Inv X pins σ H s→t σ H Q→wpAny (model X.prog X.w) X.A (eval e X.env) (EP X pins σ Q) X.xe s
def PT (X:Cx) (e:Expr) (t:TT):Prop :=
 ∀ (pins:List (Addr × Obj)) (s:Shared) (σ:St) (H:Hp) (Q:Bool→Hp→Prop),Inv X pins σ H s→t σ H Q→wpAny (model X.prog X.w) X.A (isTrue e X.env (eval e X.env)) (TP X pins σ Q) X.xe s
def PW (X:Cx) (e:Expr) (t:TT):Prop :=
 ∀ (whole:Sem Value) (pins:List (Addr × Obj)) (s:Shared) (σ:St) (H:Hp) (Q:Bool→Hp→Prop),Inv X pins σ H s→t σ H Q→wpAny (model X.prog X.w) X.A (isTrue e X.env whole) (TP X pins σ Q) X.xe s
theorem PW.pt {X:Cx} {e:Expr} {t:TT} (h:PW X e t):PT X e t:=h _
def PA (X:Cx) (es:List Expr) (t:TA):Prop :=
 ∀ (pos:Pos) (pins:List (Addr × Obj)) (s:Shared) (σ:St) (H:Hp) (Q:List V→Hp→Prop),Inv X pins σ H s→t σ H Q→wpAny (model X.prog X.w) X.A (spliced (backTo pos (starEach es X.env))) (AP X pins σ Q) X.xe s
def PS (X:Cx) (st:Stmt) (t:TS):Prop :=
 ∀ (pins:List (Addr × Obj)) (s:Shared) (σ:St) (H:Hp) (D:Ends),Inv X pins σ H s→t D σ H→wpAny (model X.prog X.w) X.A (exec st X.env) (SP X pins D) X.xe s
def PSs (X:Cx) (st:List Stmt) (t:TS):Prop :=
 ∀ (pins:List (Addr × Obj)) (s:Shared) (σ:St) (H:Hp) (D:Ends),Inv X pins σ H s→t D σ H→wpAny (model X.prog X.w) X.A (execs st X.env) (SP X pins D) X.xe s
theorem thn {α:Type} {t:Sem α} {Q Q':α→Shared→Prop} {M:Model} {A:Around} {E:Value→Shared→Prop} {s:Shared} (h:wpAny M A t Q E s) (hQ:∀ a s,Q a s→Q' a s):wpAny M A t Q' E s:=wpAny_mono h hQ fun _ _ x=>x
end L2
namespace L2
open PySem PySem.Spec PyProof.Rows
section
variable {X:Cx}
def Xi (i:Nat):TE:=fun σ H Q=>∃ v,σ[i]? = some (some v)∧Q v H
def tC (v:V):TE:=fun _ H Q=>Q v H
theorem mQ {i:Nat} {x:Str} {pos:Pos} (hN:X.N[i]? = some x) (hv:Vis X.env.scope x) (hd:(x == ("__debug__" : Str))=false:=by decide) (hcd:(x == ("__classdict__" : Str))=false:=by decide):PE X (.Name x pos) (Xi i):=by
 intro pins s σ H Q I h
 obtain ⟨v,e,h⟩:=h
 obtain ⟨m,hn,hl⟩:=I.loc
 obtain ⟨u,r,l⟩:=hl i x v hN e hv
 have fin:EP X pins σ Q u s:=⟨v,H,I,r,h⟩
 rcases l with ⟨hk,hm⟩ | ⟨hk,c,hc,hcell⟩
 ·exact wpAny_Name (wpAny_loadName_local I.ok.kind hk hn hm fin) hd
 ·rcases hk with hk | hk
  ·exact wpAny_Name (wpAny_loadName_cell I.ok.kind hk hc hcell fin) hd
  ·exact wpAny_Name (wpAny_loadName_free I.ok.kind hk hc hcell fin hcd) hd
theorem Q7 {i j pos}:PE X (.Constant (.int i) j pos) (tC (.int i)):=fun _ _ _ H _ I h=>wpAny_Constant_int ⟨.int i,H,I.tok _,⟨_,rfl⟩,h⟩
theorem Qy {b j pos}:PE X (.Constant (.bool b) j pos) (tC (.bl b)):=fun _ _ _ H _ I h=>Constant_bool ⟨.bl b,H,I,rfl,h⟩
theorem HY {j pos}:PE X (.Constant .none j pos) (tC .non):=fun _ _ _ H _ I h=>Constant_none ⟨.non,H,I,rfl,h⟩
theorem Q8 {x j pos}:PE X (.Constant (.str x) j pos) (tC (.str x)):=fun _ _ _ H _ I h=>Calls.Constant_str ⟨.str x,H,I.tok _,⟨_,rfl⟩,h⟩
def Gl (X:Cx) (x:Str):Prop:=X.env.kindOf x=some .globalImplicit
theorem En {E:Value→Shared→Prop} {pins:List (Addr × Obj)} {s:Shared} {σ:St} {H:Hp} {x:Str} {u:Value} {pos:Pos} {Q:Value→Shared→Prop} (I:Inv X pins σ H s) (hg:Gl X x) (hm:X.mg x=some u) (h:Q u s)
 (hd:(x == ("__debug__" : Str))=false:=by decide):wpAny (model X.prog X.w) X.A (eval (.Name x pos) X.env) Q E s :=
 Calls.Name_function_global I.ok.kind hg (Calls.loadGlobal_global (by rw [I.ok.glob];exact I.mod.glob.keeps I.bk) hm h) hd
theorem rN {E:Value→Shared→Prop} {pins:List (Addr × Obj)} {s:Shared} {σ:St} {H:Hp} {x:Str} {u:Value} {pos:Pos} {Q:Value→Shared→Prop} (I:Inv X pins σ H s) (hg:Gl X x) (hm:X.mg x=none) (hv:bootBuiltins x=some u) (h:Q u s)
 (hn:x ≠ "__name__" := by decide) (hd:(x == ("__debug__" : Str))=false:=by decide):wpAny (model X.prog X.w) X.A (eval (.Name x pos) X.env) Q E s:=by
 obtain ⟨mb,h1,h2⟩:=I.mod.blt
 exact Calls.Name_function_global I.ok.kind hg (Calls.loadGlobal_builtin (by rw [I.ok.glob];exact I.mod.glob.keeps I.bk) hm (by rw [I.ok.blt];exact h1.keeps I.bk) ((h2 x hn).trans hv) h) hd
theorem Mh {x:Str} {v:V} {u:Value} {pos:Pos} (hg:Gl X x) (hm:X.mg x=some u) (r:RelV v u) (hd:(x == ("__debug__" : Str))=false:=by decide):PE X (.Name x pos) (tC v) :=
 fun _ _ _ H _ I h=>En I hg hm ⟨v,H,I,r,h⟩ hd
theorem Mi {x:Str} {v:V} {u:Value} {pos:Pos} (hg:Gl X x) (hm:X.mg x=none) (hv:bootBuiltins x=some u) (r:RelV v u) (hn:x ≠ "__name__" := by decide) (hd:(x == ("__debug__" : Str))=false:=by decide):PE X (.Name x pos) (tC v) :=
 fun _ _ _ H _ I h=>rN I hg hm hv ⟨v,H,I,r,h⟩ hn hd
variable {a b:Expr} {ta tb:TE} {pos:Pos}
def PC (X:Cx) (op:CmpOp) (a b:Expr) (t:TE):Prop :=
 ∀ (pins:List (Addr × Obj)) (s:Shared) (σ:St) (H:Hp) (Q:VK),Inv X pins σ H s→t σ H Q →
  wpAny (model X.prog X.w) X.A (eval a X.env) (fun v s₁=>wpAny (model X.prog X.w) X.A (eval b X.env) (fun u s₂=>wpAny (model X.prog X.w) X.A (compareOp op v u) (EP X pins σ Q) X.xe s₂) X.xe s₁) X.xe s
theorem Aj (b:Expr) {op:CmpOp} (h:op ≠ .In) (h2:op ≠ .NotIn):behindInMarks op b=false:=by
 have e1:(op == CmpOp.In)=false:=by cases op <;> first | rfl | exact absurd rfl h
 have e2:(op == CmpOp.NotIn)=false:=by cases op <;> first | rfl | exact absurd rfl h2
 cases b <;> simp [behindInMarks,e1,e2]
def Xj (ta:TE):TE:=fun σ H Q=>ta σ H fun x H1=>Q (.bl (decide (x = .non))) H1
def U5 (ta:TE):TE:=fun σ H Q=>ta σ H fun x H1=>Q (.bl (!decide (x = .non))) H1
theorem RelV.none_iff {x:V} {v:Value} (r:RelV x v):(v == Value.none)=decide (x = .non):=by
 cases x with
 | non=>cases r;rfl
 | bl _=>cases r;rfl
 | int _=>obtain ⟨t,rfl⟩:=r;rfl
 | str _=>obtain ⟨t,rfl⟩:=r;rfl
 | byt _=>obtain ⟨t,rfl⟩:=r;rfl
 | flt _=>obtain ⟨t,rfl⟩:=r;rfl
 | ref _=>cases r;rfl
 | ty _=>cases r;rfl
theorem H_ {j pos'} (ha:PE X a ta):PC X .Is a (.Constant .none j pos') (Xj ta):=by
 intro pins s σ H Q I h
 refine thn (ha pins s σ H _ I h) fun v s1 ⟨x,H1,I1,r1,q1⟩=>?_
 exact Constant_none (is_none_gen ⟨.bl _,H1,I1,by rw [r1.none_iff];rfl,q1⟩)
theorem Mj {j pos'} (ha:PE X a ta):PC X .IsNot a (.Constant .none j pos') (U5 ta):=by
 intro pins s σ H Q I h
 refine thn (ha pins s σ H _ I h) fun v s1 ⟨x,H1,I1,r1,q1⟩=>?_
 exact Constant_none (isnot_none_gen ⟨.bl _,H1,I1,by rw [r1.none_iff];rfl,q1⟩)
def tB (t:TE):TT:=fun σ H Q=>t σ H fun x H1=>∃ c,x = .bl c∧Q c H1
theorem Q9 {op:CmpOp} {t:TE} (h:PC X op a b t) (h1:behindInMarks op b=false:=by first | exact Aj _ (by decide) (by decide) | rfl):PE X (.Compare a [op] [b] pos) t:=fun pins s σ H Q I hw=>wpAny_Compare1 (h pins s σ H Q I hw) h1
theorem Ia {op:CmpOp} {t:TE} (h:PC X op a b t) (h1:behindInMarks op b=false:=by first | exact Aj _ (by decide) (by decide) | rfl):PT X (.Compare a [op] [b] pos) (tB t):=by
 intro pins s σ H Q I hw
 refine wpAny_isTrue_Compare1 (thn (h pins s σ H _ I hw) fun v s1 h1=>thn h1 fun u s2 h2=>thn h2 fun c s3 ⟨x,H1,I1,r1,q1⟩=>?_) h1
 obtain ⟨d,rfl,q⟩:=q1
 cases r1
 exact wpAny_truthy_bool ⟨H1,I1,q⟩
theorem Q_ {e:Expr} {t:TE} (h:PE X e t) (he:∀ whole,isTrue e X.env whole=(do let v ← whole;standAt e.pos;holding [v] (truthy v)):=by intro _;rfl):PT X e (tB t):=by
 intro pins s σ H Q I hw
 refine isTrue_plain (thn (h pins s σ H _ I hw) fun v s1 ⟨x,H1,I1,r1,q1⟩=>?_) (he _)
 obtain ⟨d,rfl,q⟩:=q1
 cases r1
 exact wpAny_truthy_bool ⟨H1,I1,q⟩
variable {tA tB':TT} {rest:List Expr}
def iG (t u:TT):TT:=fun σ H Q=>t σ H fun c H1=>if c=true then u σ H1 Q else Q false H1
def tOr (t u:TT):TT:=fun σ H Q=>t σ H fun c H1=>if c=true then Q true H1 else u σ H1 Q
def jW (t:TT):TT:=fun σ H Q=>t σ H fun c H1=>Q (!c) H1
theorem Ml (ha:PT X a tA):PW X (.BoolOp .And [a] pos) tA:=by
 intro wh pins s σ H Q I h
 refine isTrue_and (thn (ha pins s σ H Q I h) fun c s1 e=>?_)
 cases c with
 | true=>exact isTrue_and_nil e
 | false=>exact e
theorem Ra (ha:PT X a tA):PW X (.BoolOp .Or [a] pos) tA:=by
 intro wh pins s σ H Q I h
 refine isTrue_or (thn (ha pins s σ H Q I h) fun c s1 e=>?_)
 cases c with
 | false=>exact isTrue_or_nil e
 | true=>exact e
theorem Rc (ha:PT X a tA) (hb:PW X (.BoolOp .And (b :: rest) pos) tB'):PW X (.BoolOp .And (a :: b :: rest) pos) (iG tA tB'):=by
 intro wh pins s σ H Q I h
 refine isTrue_and (thn (ha pins s σ H _ I h) fun c s1 ⟨H1,I1,q1⟩=>?_)
 cases c with
 | true=>exact hb wh pins s1 σ H1 Q I1 q1
 | false=>exact ⟨H1,I1,q1⟩
theorem U6 (ha:PT X a tA) (hb:PW X (.BoolOp .Or (b :: rest) pos) tB'):PW X (.BoolOp .Or (a :: b :: rest) pos) (tOr tA tB'):=by
 intro wh pins s σ H Q I h
 refine isTrue_or (thn (ha pins s σ H _ I h) fun c s1 ⟨H1,I1,q1⟩=>?_)
 cases c with
 | true=>exact ⟨H1,I1,q1⟩
 | false=>exact hb wh pins s1 σ H1 Q I1 q1
theorem Rf (ha:PT X a tA):PT X (.UnaryOp .Not a pos) (jW tA):=by
 intro pins s σ H Q I h
 exact isTrue_not (ha pins s σ H (fun c H1=>Q (!c) H1) I h)
def U7 (ta tb:TE):TE:=fun σ H Q=>ta σ H fun x H1=>∃ c,x = .bl c∧if c=true then tb σ H1 Q else Q (.bl false) H1
def U8 (ta:TE):TE:=fun σ H Q=>ta σ H fun x H1=>∃ c,x = .bl c∧Q (.bl (!c)) H1
theorem Rg {op} {t:TE} (h:PE X a t):PE X (.BoolOp op [a] pos) t:=fun pins s σ H Q I hw=>BoolOp_one (h pins s σ H Q I hw)
theorem Rh (ha:PE X a ta) (hb:PE X (.BoolOp .And (b :: rest) pos) tb):PE X (.BoolOp .And (a :: b :: rest) pos) (U7 ta tb):=by
 intro pins s σ H Q I h
 refine BoolOp_and (thn (ha pins s σ H _ I h) fun v s1 ⟨x,H1,I1,r1,q1⟩=>?_)
 obtain ⟨c,rfl,q1⟩:=q1
 cases r1
 refine wpAny_truthy_bool ?_
 cases c with
 | true=>exact hb pins s1 σ H1 Q I1 q1
 | false=>exact ⟨.bl false,H1,I1,rfl,q1⟩
theorem Ri (ha:PE X a ta):PE X (.UnaryOp .Not a pos) (U8 ta):=by
 intro pins s σ H Q I h
 refine UnaryOp_ (thn (ha pins s σ H _ I h) fun v s1 ⟨x,H1,I1,r1,q1⟩=>?_)
 obtain ⟨c,rfl,q1⟩:=q1
 cases r1
 exact not_of (wpAny_truthy_bool ⟨.bl (!c),H1,I1,rfl,q1⟩)
end
end L2
namespace L2
open PySem PySem.Spec PyProof.Rows
def SqL (K:PySem.W.Frag) (H:Hp) (a:Addr) (xs:List V):Prop :=
 Rd H a (.lst xs) ∨
  ∃ (o:Obj) (its:Array Value) (n:Nat),K.lookup a=some o∧o.cls = .type "list" ∧ o.dict=none∧o.data = .seq its n∧its.size ≤ sizeLine∧Vals xs its.toList
def SqT (K:PySem.W.Frag) (H:Hp) (a:Addr) (xs:List V):Prop :=
 Rd H a (.tup xs) ∨
  ∃ (o:Obj) (its:Array Value) (n:Nat),K.lookup a=some o∧o.cls = .type "tuple" ∧ o.data = .seq its n∧its.size ≤ sizeLine∧Vals xs its.toList
def Xk:Value→Option V
 | .none=>some .non
 | .bool b=>some (.bl b)
 | .int i _=>some (.int i)
 | .str x _=>some (.str x)
 | .bytes b _=>some (.byt b)
 | .float b _=>some (.flt b)
 | .ref a=>some (.ref a)
 | .type n=>some (.ty n)
 | _=>none
theorem RelV.abs {x:V} {u:Value} (r:RelV x u):Xk u=some x:=by
 cases x with
 | non=>cases r;rfl
 | bl _=>cases r;rfl
 | int _=>obtain ⟨t,rfl⟩:=r;rfl
 | str _=>obtain ⟨t,rfl⟩:=r;rfl
 | byt _=>obtain ⟨t,rfl⟩:=r;rfl
 | flt _=>obtain ⟨t,rfl⟩:=r;rfl
 | ref _=>cases r;rfl
 | ty _=>cases r;rfl
theorem RelV.inj {x y:V} {u:Value} (r:RelV x u) (q:RelV y u):x=y:=cV.inj (r.abs.symm.trans q.abs)
theorem Vals.inj:∀ {xs ys:List V} {us:List Value},Vals xs us→Vals ys us→xs=ys
 | _,_,_,.nil,.nil=>rfl
 | _,_,_,.cons r t,.cons r' t'=>by rw [r.inj r',Vals.inj t t']
section
variable {X:Cx} {pins:List (Addr × Obj)} {σ:St} {H:Hp} {s:Shared} {a:Addr} {xs ys:List V}
theorem SqL.of {K:PySem.W.Frag} (h:H a=some (.lst xs)):SqL K H a xs:=.inl (.inl h)
theorem Inv.list (I:Inv X pins σ H s) (h:SqL X.K H a xs):∃ its:List Value,Vals xs its∧PlainL s.heap a its.toArray∧xs.length ≤ sizeLine:=by
 rcases h with h | ⟨o,its,n,hk,hc,hd,hs,hz,r⟩
 ·obtain ⟨z,its,n,r,e⟩:=h.ok I.hok
  exact ⟨its,r,⟨_,n,e,rfl,rfl,rfl⟩,z⟩
 ·refine ⟨its.toList,r,⟨o,n,I.kIn a o hk,hc,hd,by simpa using hs⟩,?_⟩
  have e:=r.length
  simp only [mV] at e
  omega
theorem Inv.tuple (I:Inv X pins σ H s) (h:SqT X.K H a xs):∃ its:List Value,Vals xs its∧IsTup s.heap a its.toArray∧xs.length ≤ sizeLine:=by
 rcases h with h | ⟨o,its,n,hk,hc,hs,hz,r⟩
 ·obtain ⟨z,its,r,p⟩:=h.ok I.hok
  exact ⟨its,r,p,z⟩
 ·refine ⟨its.toList,r,⟨o,I.kIn a o hk,hc,n,by simpa using hs⟩,?_⟩
  have e:=r.length
  simp only [mV] at e
  omega
theorem Inv.list_inj (I:Inv X pins σ H s) (h:SqL X.K H a xs) (h':SqL X.K H a ys):xs=ys:=by
 obtain ⟨its,r,⟨o,n,e,_,_,d⟩,_⟩:=I.list h
 obtain ⟨its',r',⟨o',n',e',_,_,d'⟩,_⟩:=I.list h'
 rw [e] at e';cases e'
 rw [d] at d'
 injection d' with d1 _
 have:its=its':=by simpa using congrArg Array.toList d1
 subst this
 exact r.inj r'
theorem Inv.tuple_inj (I:Inv X pins σ H s) (h:SqT X.K H a xs) (h':SqT X.K H a ys):xs=ys:=by
 obtain ⟨its,r,⟨o,e,_,n,d⟩,_⟩:=I.tuple h
 obtain ⟨its',r',⟨o',e',_,n',d'⟩,_⟩:=I.tuple h'
 rw [e] at e';cases e'
 rw [d] at d'
 injection d' with d1 _
 have:its=its':=by simpa using congrArg Array.toList d1
 subst this
 exact r.inj r'
end
abbrev Cx.wish (X:Cx) (E:Value→Shared→Prop):Cx:={ X with xe:=E }
abbrev Cx.nox (X:Cx):Cx:=X.wish fun _ _=>False
theorem Cx.Ok.wish {X:Cx} (ok:X.Ok) (E:Value→Shared→Prop):(X.wish E).Ok :=
 ⟨ok.mod,ok.kind,ok.glob,ok.blt,ok.above,ok.inj,ok.has,ok.cab,ok.hd,ok.frames,ok.stk,ok.exf,ok.bs,ok.bsz,ok.noex,ok.exfs,ok.funs,ok.frf⟩
theorem Cx.Ok.unwish {X:Cx} {E:Value→Shared→Prop} (ok:(X.wish E).Ok):X.Ok :=
 ⟨ok.mod,ok.kind,ok.glob,ok.blt,ok.above,ok.inj,ok.has,ok.cab,ok.hd,ok.frames,ok.stk,ok.exf,ok.bs,ok.bsz,ok.noex,ok.exfs,ok.funs,ok.frf⟩
section
variable {X:Cx} {pins:List (Addr × Obj)} {σ:St} {H:Hp} {s:Shared} {E:Value→Shared→Prop}
theorem Inv.wish (I:Inv X pins σ H s) (E:Value→Shared→Prop):Inv (X.wish E) pins σ H s:=⟨I.ok.wish E,I.os,I.bare,I.base,I.loc,I.cell,I.free,I.freeC,I.pin,I.hok,I.len⟩
theorem Inv.unwish (I:Inv (X.wish E) pins σ H s):Inv X pins σ H s:=⟨I.ok.unwish,I.os,I.bare,I.base,I.loc,I.cell,I.free,I.freeC,I.pin,I.hok,I.len⟩
theorem SP.unwish {D:Ends} {f:Flow} {s':Shared} (h:SP (X.wish E) pins D f s'):SP X pins D f s':=by
 cases f with
 | next=>obtain ⟨σ',H',I,q⟩:=h;exact ⟨σ',H',I.unwish,q⟩
 | brk=>obtain ⟨σ',H',I,q⟩:=h;exact ⟨σ',H',I.unwish,q⟩
 | cont=>obtain ⟨σ',H',I,q⟩:=h;exact ⟨σ',H',I.unwish,q⟩
 | ret u=>obtain ⟨v,σ',H',I,r,q⟩:=h;exact ⟨v,σ',H',I.unwish,r,q⟩
theorem PSs.nox {st:List Stmt} {t:TS} (h:PSs X.nox st t):PSs X st t:=fun pins s σ H D I hw =>
 wpAny_mono (h pins s σ H D (I.wish _) hw) (fun _ _ q=>q.unwish) fun _ _ z=>False.elim z
end
section
variable {X:Cx} {st:Stmt} {rest:List Stmt} {t u:TS} {e:Expr} {te:TE} {pos:Pos}
def U9:TS:=fun D σ H=>D.nx σ H
def Xl (t u:TS):TS:=fun D σ H=>t { D with nx:=u D } σ H
theorem Mp:PSs X [] U9:=fun _ _ σ H _ I h=>wpAny_execs_nil ⟨σ,H,I,h⟩
theorem Ie (h1:PS X st t) (h2:PSs X rest u):PSs X (st :: rest) (Xl t u):=by
 intro pins s σ H D I h
 refine wpAny_execs_cons (thn (h1 pins s σ H { D with nx:=u D } I h) fun f s1 q=>?_)
 cases f with
 | next =>
  obtain ⟨σ',H',I',q⟩:=q
  exact h2 pins s1 σ' H' D I' q
 | ret v=>exact q
 | brk=>exact q
 | cont=>exact q
theorem Mq (h1:PS X st t):PSs X [st] t:=by
 intro pins s σ H D I h
 refine wpAny_execs_cons (thn (h1 pins s σ H D I h) fun f s1 q=>?_)
 cases f with
 | next=>exact wpAny_execs_nil q
 | ret v=>exact q
 | brk=>exact q
 | cont=>exact q
theorem Inv.quiet {pins:List (Addr × Obj)} {σ:St} {H:Hp} {s:Shared} (I:Inv X pins σ H s):interactive X.env=false:=by simp [interactive,I.ok.kind]
def U_ (te:TE):TS:=fun D σ H=>te σ H fun _ H1=>D.nx σ H1
theorem sJ (he:PE X e te) (hs:swapsWith e none pos.line X.env=pure false:=by rfl):PS X (.Expr e pos) (U_ te):=by
 intro pins s σ H D I h
 exact wpAny_Expr_any (thn (he pins s σ H _ I h) fun v s1 ⟨x,H1,I1,r1,q1⟩=>⟨σ,H1,I1,q1⟩) I.quiet hs
def Xm (te:TE):TS:=fun D σ H=>te σ H D.rt
theorem Ig (he:PE X e te):PS X (.Return (some e) pos) (Xm te):=by
 intro pins s σ H D I h
 exact wpAny_Return_some (thn (he pins s σ H _ I h) fun v s1 ⟨x,H1,I1,r1,q1⟩=>⟨x,σ,H1,I1,r1,q1⟩)
def Xn (c:TT) (t u:TS):TS:=fun D σ H=>c σ H fun b H1=>if b=true then t D σ H1 else u D σ H1
theorem Va {c:Expr} {a b:List Stmt} {tc:TT} (hc:PT X c tc) (ha:PSs X a t) (hb:PSs X b u):PS X (.If c a b pos) (Xn tc t u):=by
 intro pins s σ H D I h
 refine wpAny_If (thn (hc pins s σ H _ I h) fun d s1 ⟨H1,I1,q1⟩=>?_)
 cases d with
 | true=>exact ha pins s1 σ H1 D I1 q1
 | false=>exact hb pins s1 σ H1 D I1 q1
def Rj:TS:=fun _ _ _=>False
theorem Ih:PS X st Rj:=fun _ _ _ _ _ _ h=>h.elim
end
abbrev TG:=V→St→Hp→(St→Hp→Prop)→Prop
abbrev TGs:=List V→St→Hp→(St→Hp→Prop)→Prop
def PG (X:Cx) (target:Expr) (t:TG):Prop :=
 ∀ (pins:List (Addr × Obj)) (s:Shared) (σ:St) (H:Hp) (v:V) (u:Value) (Q:St→Hp→Prop),Inv X pins σ H s→RelV v u→t v σ H Q →
  wpAny (model X.prog X.w) X.A (assign target X.env u) (fun _ s'=>∃ σ' H',Inv X pins σ' H' s'∧Q σ' H') X.xe s
def PGs (X:Cx) (ts:List Expr) (t:TGs):Prop :=
 ∀ (pins:List (Addr × Obj)) (s:Shared) (σ:St) (H:Hp) (vs:List V) (us:List Value) (Q:St→Hp→Prop),Inv X pins σ H s→Vals vs us→t vs σ H Q →
  wpAny (model X.prog X.w) X.A (assignInOrder ((assignEach ts X.env).map (·.2)) us) (fun _ s'=>∃ σ' H',Inv X pins σ' H' s'∧Q σ' H') X.xe s
abbrev Rm:=V→V→V→Hp→(Hp→Prop)→Prop
def Rn (X:Cx) (t:Rm):Prop :=
 ∀ (pins:List (Addr × Obj)) (s:Shared) (σ:St) (H:Hp) (o i v:V) (ov iv u:Value) (Q:Hp→Prop),Inv X pins σ H s→RelV o ov→RelV i iv→RelV v u→t o i v H Q →
  wpAny (model X.prog X.w) X.A (setItem ov iv u) (fun _ s'=>∃ H',Inv X pins σ H' s'∧Q H') X.xe s
section
variable {X:Cx} {pos:Pos}
def Ii (i:Nat):TG:=fun v σ H Q=>Q (σ.set i (some v)) H
theorem Mr {i:Nat} {x:Str} (hN:X.N.Nodup) (hi:X.N[i]? = some x) (hx:Loc X.env.scope x) (hf:X.fn x=true∨X.env.scope.names.lookup x=some .local:=by first | exact .inl rfl | exact .inr rfl | assumption):PG X (.Name x pos) (Ii i):=by
 intro pins s σ H v u Q I r h
 exact wpAny_assign_Name (Ai I hN hi hx r (fun s' I'=>⟨_,H,I',h⟩) hf)
def Xo:TGs:=fun vs σ H Q=>vs=[]∧Q σ H
def Vb (t:TG) (u:TGs):TGs:=fun vs σ H Q=>∃ v r,vs=v :: r∧t v σ H fun σ' H'=>u r σ' H' Q
theorem Ms:PGs X [] Xo:=by
 intro pins s σ H vs us Q I r h
 obtain ⟨e,h⟩:=h
 subst e
 cases r
 exact assignInOrder_nil ⟨σ,H,I,h⟩
theorem Ij {e:Expr} {es:List Expr} {t:TG} {u:TGs} (h1:PG X e t) (h2:PGs X es u)
 (hs:(assignEach (e :: es) X.env).map (·.2)=assign e X.env :: (assignEach es X.env).map (·.2):=by rfl):PGs X (e :: es) (Vb t u):=by
 intro pins s σ H vs us Q I r h
 obtain ⟨v,vr,e1,h⟩:=h
 subst e1
 cases r with
 | cons r rr =>
  rw [hs]
  refine assignInOrder_cons (thn (h1 pins s σ H _ _ _ I r h) fun _ s1 ⟨σ1,H1,I1,q1⟩=>?_)
  exact h2 pins s1 σ1 H1 _ _ Q I1 rr q1
def Xp (K:PySem.W.Frag) (n:Nat) (t:TGs):TG:=fun v σ H Q=>∃ a xs,v = .ref a∧SqT K H a xs∧xs.length=n∧t xs σ H Q
theorem Ro {es:List Expr} {k:Nat} {t:TGs} {n:Nat} (hc:X.calm=true) (h:PGs X es t)
 (hn:(assignEach es X.env).length=n:=by rfl) (hst:(assignEach es X.env).findIdx? (·.1)=none:=by rfl):PG X (.Tuple es k pos) (Xp X.K n t):=by
 intro pins s σ H v u Q I r hw
 obtain ⟨a,xs,e1,hq,hl,hw⟩:=hw
 subst e1
 cases r
 obtain ⟨its,rv,ht,hz⟩:=I.tuple hq
 refine assign_Tuple_tuple (I.ok.hd hc) ht (by simp [hn,← hl,rv.length]) hst fun h' hx=>?_
 have I1:Inv X pins σ H { s with heap:=h' }:=I.kept (t':=s.toks) fun b o e=>hx b o (bO (Heap.lt_size e)) e
 exact h pins _ σ H xs _ Q I1 (by simpa using rv) hw
def Gi (to ti:TE) (t:Rm):TG:=fun v σ H Q=>to σ H fun o H1=>ti σ H1 fun i H2=>t o i v H2 fun H3=>Q σ H3
theorem Ik {o i:Expr} {to ti:TE} {t:Rm} (ho:PE X o to) (hi:PE X i ti) (hs:Rn X t)
 (ha:∀ v,assign (.Subscript o i pos) X.env v=(do
  let ov ← holding [v] (eval o X.env)
  let iv ← holding [v,ov] (eval i X.env)
  standAt pos
  holding [v,ov,iv] (setItem ov iv v)
  release [v,ov,iv] []):=by intro _;rfl):PG X (.Subscript o i pos) (Gi to ti t):=by
 intro pins s σ H v u Q I r h
 rw [ha]
 refine wpAny_bind (wpAny_holding (thn (ho pins s σ H _ I h) fun ov s1 ⟨x,H1,I1,r1,q1⟩=>?_))
 refine wpAny_bind (wpAny_holding (thn (hi pins s1 σ H1 _ I1 q1) fun iv s2 ⟨y,H2,I2,r2,q2⟩=>?_))
 refine wpAny_bind (wpAny_standAt (wpAny_bind (wpAny_holding (thn (hs pins s2 σ H2 x y v ov iv u _ I2 r1 r2 r q2) fun _ s3 ⟨H3,I3,q3⟩=>?_))))
 exact wpAny_release ⟨σ,H3,I3,q3⟩
def Rp (te:TE) (g:TG):TS:=fun D σ H=>te σ H fun x H1=>g x σ H1 D.nx
theorem Cr {tg e:Expr} {te:TE} {g:TG} (he:PE X e te) (hg:PG X tg g) (hs:swapsWithSole [tg] e pos.line X.env=pure false:=by rfl) (hw:swappedStores [tg] e X.env=pure none:=by rfl)
 (h1:(assignEach [tg] X.env).map (·.2)=[assign tg X.env]:=by rfl):PS X (.Assign [tg] e pos) (Rp te g):=by
 intro pins s σ H D I h
 refine wpAny_Assign_stores (thn (he pins s σ H _ I h) fun v s1 ⟨x,H1,I1,r1,q1⟩=>?_) hs hw
 rw [h1]
 exact thn (hg pins s1 σ H1 x v _ I1 r1 q1) fun _ s2 q=>q
theorem uW {i:Nat} {x:Str} {e:Expr} {te:TE} {pos':Pos} (hN:X.N.Nodup) (hi:X.N[i]? = some x) (hx:Loc X.env.scope x) (he:PE X e te) (hs:swapsWith e (some (.Name x pos')) pos.line X.env=pure false:=by rfl) (hf:X.fn x=true∨X.env.scope.names.lookup x=some .local:=by first | exact .inl rfl | exact .inr rfl | assumption) :
 PS X (.Assign [.Name x pos'] e pos) (Rp te (Ii i)):=by
 intro pins s σ H D I h
 refine wpAny_Assign_Name (thn (he pins s σ H _ I h) fun v s1 ⟨y,H1,I1,r1,q1⟩=>?_) hs
 exact Ai I1 hN hi hx r1 (fun s2 I2=>⟨_,H1,I2,q1⟩) hf
end
section
variable {X:Cx} {pos:Pos}
def Rq (c:TT) (tb:TS):TS:=fun D σ H=>∃ W:Nat→St→Hp→Prop,(∃ m,W m σ H)∧∀ m σ H,W m σ H →
 c σ H fun b H1=>if b=true then ∃ N:St→Hp→Prop,(∀ σ' H',N σ' H'→∃ m',m' < m∧W m' σ' H')∧tb { D with nx:=N,ct:=N,bk:=D.nx } σ H1 else D.nx σ H1
theorem Il {c:Expr} {body:List Stmt} {tc:TT} {tb:TS} (hp:PassesOwn (model X.prog X.w) X.A X.env X.xe) (hc:PT X c tc) (hb:PSs X body tb):PS X (.While c body [] pos) (Rq tc tb):=by
 intro pins s σ H D I h
 obtain ⟨W,⟨m0,w0⟩,turn⟩:=h
 refine wpAny_While (codeAny_whileLoop (fun n s'=>∃ σ' H',Inv X pins σ' H' s'∧W n σ' H') ?_ m0 ⟨σ,H,I,w0⟩)
 rintro n s1 ⟨σ1,H1,I1,w1⟩
 refine wpAny_passesOwn hp (thn (hc pins s1 σ1 H1 _ I1 (turn n σ1 H1 w1)) fun b s2 ⟨H2,I2,q2⟩=>?_)
 cases b with
 | true =>
  obtain ⟨N,hN,q2⟩:=q2
  rw [if_pos rfl]
  refine wpAny_passesOwn hp (thn (hb pins s2 σ1 H2 _ I2 q2) fun f s3 q3=>?_)
  cases f with
  | next =>
   obtain ⟨σ3,H3,I3,n3⟩:=q3
   obtain ⟨m',hm,w3⟩:=hN σ3 H3 n3
   exact ⟨m',hm,σ3,H3,I3,w3⟩
  | cont =>
   obtain ⟨σ3,H3,I3,n3⟩:=q3
   obtain ⟨m',hm,w3⟩:=hN σ3 H3 n3
   exact ⟨m',hm,σ3,H3,I3,w3⟩
  | brk=>exact q3
  | ret v=>exact q3
 | false =>
  rw [if_neg dN]
  exact wpAny_execs_nil ⟨σ1,H2,I2,q2⟩
end
structure It where
 go:Nat→Hp→Prop
 yld:Nat→Hp→V→Hp→Prop
 stop:Nat→Hp→Prop
def tO (X:Cx) (pins:List (Addr × Obj)) (H:Hp) (b:Addr):Prop :=
 H b=none∧b ≠ X.env.locals∧b ∉ X.fs∧(b ∈ X.ex∨X.s₀.heap.objs.size ≤ b)∧(∀ x c,X.env.cells.lookup x=some c→c ≠ b)∧∀ p ∈ X.pn++pins,p.1 ≠ b
theorem Inv.fpOk {X:Cx} {pins:List (Addr × Obj)} {σ:St} {H H':Hp} {s:Shared} {b:Addr} (I:Inv X pins σ H s) (hb:s.heap.objs.size ≤ b) (hn:H' b=none):tO X pins H' b:=by
 refine ⟨hn,Nat.ne_of_gt (bN I.lt hb),I.nofs hb,.inr (bM I.sz hb),fun x c e z=>?_,fun p hp z=>?_⟩
 ·obtain ⟨v,q⟩:=I.cell x c e
  exact absurd (bN q.lt (by rw [z];exact hb)) (fU _)
 ·exact absurd (bN (Heap.lt_size (I.pin p hp).1) (by rw [z];exact hb)) (fU _)
structure Turn (P:Program) (w:World) (K:PySem.W.Frag) (tg:Expr) (J:It) (fp:List Addr) (it:Addr) (tn:Nat→Heap→Prop):Prop where
 mem:it ∈ fp
 obj:∀ i h,tn i h→∀ b ∈ fp,∃ o,h.get? b=some o∧∀ v,o.data ≠ .cell v
 keep:∀ i h h',tn i h→(∀ b ∈ fp,∀ o,h.get? b=some o→h'.get? b=some o)→tn i h'
 item:∀ (X:Cx),X.prog=P→X.w=w→X.K=K→X.calm=true→∀ (i:Nat) (pins:List (Addr × Obj)) (s:Shared) (σ:St) (H:Hp) (E:Value→Shared→Prop),Inv X pins σ H s→(∀ b ∈ fp,tO X pins H b)→tn i s.heap→J.go i H →
  wpAny (model P w) X.A (pyNext (.ref it)) (fun r s1=>∃ u,r=some u ∧
   wpAny (model P w) X.A (letOwnedTupleGo tg (.ref it) u) (fun _ s2=>∃ x H',Inv X pins σ H' s2∧RelV x u∧J.yld i H x H'∧tn (i + 1) s2.heap∧∀ b ∈ fp,H' b=none) E s1) E s
 done:∀ (X:Cx),X.prog=P→X.w=w→X.K=K→X.calm=true→∀ (i:Nat) (pins:List (Addr × Obj)) (s:Shared) (σ:St) (H:Hp) (E:Value→Shared→Prop),Inv X pins σ H s→(∀ b ∈ fp,tO X pins H b)→tn i s.heap→J.stop i H →
  wpAny (model P w) X.A (pyNext (.ref it)) (fun r s1=>r=none∧Inv X pins σ H s1) E s
 self:∀ (A:Around) (i:Nat) (s:Shared) (Q:Value→Shared→Prop) (E:Value→Shared→Prop),tn i s.heap→Q (.ref it) s→wpAny (model P w) A (pyIter (.ref it)) Q E s
abbrev TI:=St→Hp→(It→Hp→Prop)→Prop
def PIE (X:Cx) (pins:List (Addr × Obj)) (σ:St) (tg:Expr) (R:It→Hp→Prop) (itv:Value) (s2:Shared):Prop :=
 ∃ (it:Addr) (fp:List Addr) (tn:Nat→Heap→Prop) (J:It) (H':Hp),itv = .ref it∧Inv X pins σ H' s2∧Turn X.prog X.w X.K tg J fp it tn∧tn 0 s2.heap∧(∀ b ∈ fp,tO X pins H' b)∧R J H'
def PI (X:Cx) (tg iter:Expr) (wi:TI):Prop :=
 ∀ (pins:List (Addr × Obj)) (s:Shared) (σ:St) (H:Hp) (R:It→Hp→Prop),Inv X pins σ H s→wi σ H R →
  wpAny (model X.prog X.w) X.A (eval iter X.env) (fun v s1=>wpAny (model X.prog X.w) X.A (pyIter v) (PIE X pins σ tg R) X.xe s1) X.xe s
theorem Im {M:Model} {A:Around} {E:Value→Shared→Prop} {s:Shared} {tg:Expr} {it:Addr} {u:Value} {o:Obj} {n:String} {vs:Array Value} {Q:Unit→Shared→Prop} (ho:s.heap.get? it=some o) (hc:o.cls = .type n) (hd:o.data = .fields vs)
 (hn:["enumerate", "zip", "dict_itemiterator", "dict_reverseitemiterator", "odict_iterator", "itertools.zip_longest", "itertools.pairwise"].contains n=false) (hQ:Q () s):wpAny M A (letOwnedTupleGo tg (.ref it) u) Q E s:=by
 unfold letOwnedTupleGo
 cases tg <;> first
  | exact wpAny_pure hQ
  | (cases u <;> first
   | exact wpAny_pure hQ
   | (refine wpAny_bind (wpAny_load ho ?_)
      rw [hc,hd]
      show wpAny M A (if (["enumerate", "zip", "dict_itemiterator", "dict_reverseitemiterator", "odict_iterator", "itertools.zip_longest", "itertools.pairwise"].contains n && vs[0]? == some (rawInt _))=true then _ else _) Q E s
      rw [if_neg (by intro h;rw [hn,f9] at h;cases h)]
      exact wpAny_pure hQ))
def Itl (K:PySem.W.Frag) (a:Addr):It :=
 ⟨fun i H=>∃ xs x,SqL K H a xs∧xs[i]? = some x,fun i H x H'=>H'=H∧∀ xs,SqL K H a xs→xs[i]? = some x,fun i H=>∃ xs,SqL K H a xs∧xs.length ≤ i⟩
def Itt (K:PySem.W.Frag) (a:Addr):It :=
 ⟨fun i H=>∃ xs x,SqT K H a xs∧xs[i]? = some x,fun i H x H'=>H'=H∧∀ xs,SqT K H a xs→xs[i]? = some x,fun i H=>∃ xs,SqT K H a xs∧xs.length ≤ i⟩
def Itr (lo:Int) (n:Nat):It:=⟨fun i _=>i < n,fun i H x H'=>H'=H∧x = .int (lo + i),fun i _=>n ≤ i⟩
theorem Gj {P:Program} {w:World} {K:PySem.W.Frag} {tg:Expr} (a it:Addr):Turn P w K tg (Itl K a) [it] it (fun i h=>h.IsListIter it a i) where
 mem:=by simp
 obj:=fun i h st b hb=>by
  have e:b=it:=by simpa using hb
  subst e
  obtain ⟨o,e,c,d⟩:=st
  exact ⟨o,e,fun v z=>by rw [d] at z;cases z⟩
 keep:=fun i h h' st k=>st.at fun o e=>k it (by simp) o e
 item:=by
  intro X hP hw hK hc i pins s σ H E I hf st hg
  subst hP hw hK
  obtain ⟨xs,x,hq,hx⟩:=hg
  obtain ⟨its,rv,p,hz⟩:=I.list hq
  obtain ⟨u,hu,ru⟩:=rv.get hx
  obtain ⟨f0,f1,f2,f3,f4,f5⟩:=hf it (by simp)
  refine wpAny_pyNext_list_item st p.isList (x:=u) (by simpa using hu) fun h' st' sb=>?_
  have I1:Inv X pins σ H { s with heap:=h' }:=I.turned (t':=s.toks) (fun b o hb e=>(sb.2 b hb).trans e) f0 f1 f3 f4 f5
  obtain ⟨o,e,c,d⟩:=id st'
  exact ⟨u,rfl,Im (s:={ s with heap:=h' }) e c d (by decide) ⟨x,H,I1,ru,⟨rfl,fun ys hy=>by rw [I.list_inj hy hq];exact hx⟩,st',fun b hb=>(hf b hb).1⟩⟩
 done:=by
  intro X hP hw hK hc i pins s σ H E I hf st hg
  subst hP hw hK
  obtain ⟨xs,hq,hx⟩:=hg
  obtain ⟨its,rv,p,hz⟩:=I.list hq
  obtain ⟨f0,f1,f2,f3,f4,f5⟩:=hf it (by simp)
  have hl:=rv.length
  exact wpAny_pyNext_list_end (I.ok.hd hc) st p.isList (by simp;omega) fun h' eb=>⟨rfl,I.turned (t':=s.toks) (fun b o hb e=>eb b o hb e) f0 f1 f3 f4 f5⟩
 self:=fun _ _ _ _ _ st h=>wpAny_pyIter_listiter st h
theorem Cu {P:Program} {w:World} {K:PySem.W.Frag} {tg:Expr} (a it:Addr):Turn P w K tg (Itt K a) [it] it (fun i h=>h.IsTupleIter it a i) where
 mem:=by simp
 obj:=fun i h st b hb=>by
  have e:b=it:=by simpa using hb
  subst e
  obtain ⟨o,e,c,d⟩:=st
  exact ⟨o,e,fun v z=>by rw [d] at z;cases z⟩
 keep:=fun i h h' st k=>st.at fun o e=>k it (by simp) o e
 item:=by
  intro X hP hw hK hc i pins s σ H E I hf st hg
  subst hP hw hK
  obtain ⟨xs,x,hq,hx⟩:=hg
  obtain ⟨its,rv,p,hz⟩:=I.tuple hq
  obtain ⟨u,hu,ru⟩:=rv.get hx
  obtain ⟨f0,f1,f2,f3,f4,f5⟩:=hf it (by simp)
  refine wpAny_pyNext_tuple_item st (show s.heap.IsTuple a its.toArray from p) (x:=u) (by simpa using hu) fun h' st' sb=>?_
  have I1:Inv X pins σ H { s with heap:=h' }:=I.turned (t':=s.toks) (fun b o hb e=>(sb.2 b hb).trans e) f0 f1 f3 f4 f5
  obtain ⟨o,e,c,d⟩:=id st'
  exact ⟨u,rfl,Im (s:={ s with heap:=h' }) e c d (by decide) ⟨x,H,I1,ru,⟨rfl,fun ys hy=>by rw [I.tuple_inj hy hq];exact hx⟩,st',fun b hb=>(hf b hb).1⟩⟩
 done:=by
  intro X hP hw hK hc i pins s σ H E I hf st hg
  subst hP hw hK
  obtain ⟨xs,hq,hx⟩:=hg
  obtain ⟨its,rv,p,hz⟩:=I.tuple hq
  obtain ⟨f0,f1,f2,f3,f4,f5⟩:=hf it (by simp)
  have hl:=rv.length
  exact wpAny_pyNext_tuple_end (I.ok.hd hc) st (show s.heap.IsTuple a its.toArray from p) (by simp;omega) fun h' eb=>⟨rfl,I.turned (t':=s.toks) (fun b o hb e=>eb b o hb e) f0 f1 f3 f4 f5⟩
 self:=fun _ _ _ _ _ st h=>wpAny_pyIter_tupleiter st h
theorem Cv {P:Program} {w:World} {K:PySem.W.Frag} {tg:Expr} (it:Addr) (lo:Int) (n:Nat):Turn P w K tg (Itr lo n) [it] it (fun i h=>IsRangeIter h it (lo + (i:Nat) * 1) ((n:Int) - (i:Nat)) 1) where
 mem:=by simp
 obj:=fun i h st b hb=>by
  have e:b=it:=by simpa using hb
  subst e
  exact ⟨_,st,fun v z=>by
   have z':Data.fields _=Data.cell v:=z
   cases z'⟩
 keep:=fun i h h' st k=>k it (by simp) _ st
 item:=by
  intro X hP hw hK hc i pins s σ H E I hf st hg
  subst hP hw hK
  obtain ⟨f0,f1,f2,f3,f4,f5⟩:=hf it (by simp)
  have W:=Walks.range (prog:=X.prog) (w:=X.w) (I.ok.hd hc) it lo 1 n
  refine W.item i s _ _ hg st fun v h' tk hv st' kk=>?_
  obtain ⟨t,rfl⟩:=hv
  have I1:Inv X pins σ H { s with heap:=h',toks:=tk }:=I.turned (fun b o hb e=>kk b o (by simpa using hb) e) f0 f1 f3 f4 f5
  refine ⟨_,rfl,Im (s:={ s with heap:=h',toks:=tk }) (n := "range_iterator") st' rfl rfl (by decide) ⟨.int (lo + i),H,I1,⟨t,?_⟩,⟨rfl,rfl⟩,st',fun b hb=>(hf b hb).1⟩⟩
  rw [Int.mul_one]
 done:=by
  intro X hP hw hK hc i pins s σ H E I hf st hg
  subst hP hw hK
  obtain ⟨f0,f1,f2,f3,f4,f5⟩:=hf it (by simp)
  exact wpAny_pyNext_range_end (I.ok.hd hc) st (by have:n ≤ i:=hg;omega) fun h' eb=>⟨rfl,I.turned (t':=s.toks) (fun b o hb e=>eb b o hb e) f0 f1 f3 f4 f5⟩
 self:=fun _ _ _ _ _ st h=>wpAny_pyIter_rangeiter st h
end L2
namespace L2
open PySem PySem.Spec PyProof.Rows
section
variable {X:Cx} {tg:Expr}
def Vc (K:PySem.W.Frag) (tl:TE):TI:=fun σ H R=>tl σ H fun x H1=>∃ a,x = .ref a∧(∃ xs,SqL K H1 a xs)∧R (Itl K a) H1
def Xq (K:PySem.W.Frag) (tl:TE):TI:=fun σ H R=>tl σ H fun x H1=>∃ a,x = .ref a∧(∃ xs,SqT K H1 a xs)∧R (Itt K a) H1
theorem Eo {l:Expr} {tl:TE} (hl:PE X l tl):PI X tg l (Vc X.K tl):=by
 intro pins s σ H R I h
 refine thn (hl pins s σ H _ I h) fun v s1 ⟨x,H1,I1,r1,q1⟩=>?_
 obtain ⟨a,e,⟨xs,hq⟩,q⟩:=q1
 subst e
 cases r1
 obtain ⟨its,rv,p,hz⟩:=I1.list hq
 refine wpAny_pyIter_list p.isList ?_
 refine ⟨s1.heap.objs.size,[s1.heap.objs.size],_,_,H1,rfl,I1.kept (t':=s1.toks) fun b o e=>Heap.get?_push_of_some _ e,Gj a _,⟨_,Heap.get?_push_size _ rfl,rfl,rfl⟩,fun b hb=>?_,q⟩
 have e:b=s1.heap.objs.size:=by simpa using hb
 subst e
 exact I1.fpOk (aZ _) (I1.hok.fresh (aZ _))
theorem Rr {l:Expr} {tl:TE} (hl:PE X l tl):PI X tg l (Xq X.K tl):=by
 intro pins s σ H R I h
 refine thn (hl pins s σ H _ I h) fun v s1 ⟨x,H1,I1,r1,q1⟩=>?_
 obtain ⟨a,e,⟨xs,hq⟩,q⟩:=q1
 subst e
 cases r1
 obtain ⟨its,rv,p,hz⟩:=I1.tuple hq
 refine wpAny_pyIter_tuple (show s1.heap.IsTuple a its.toArray from p) ?_
 refine ⟨s1.heap.objs.size,[s1.heap.objs.size],_,_,H1,rfl,I1.kept (t':=s1.toks) fun b o e=>Heap.get?_push_of_some _ e,Cu a _,⟨_,Heap.get?_push_size _ rfl,rfl,rfl⟩,fun b hb=>?_,q⟩
 have e:b=s1.heap.objs.size:=by simpa using hb
 subst e
 exact I1.fpOk (aZ _) (I1.hok.fresh (aZ _))
theorem Ak {pins:List (Addr × Obj)} {σ:St} {H:Hp} {s:Shared} {R:It→Hp→Prop} {E:Value→Shared→Prop} {lo hi:Int} {t u v:Tok} {tk:Nat} (I:Inv X pins σ H s) (h1 : -(2 ^ 62) ≤ lo) (h2:lo < 2 ^ 62) (h3 : -(2 ^ 62) ≤ hi) (h4:hi < 2 ^ 62)
 (q:R (Itr lo (hi - lo).toNat) H):wpAny (model X.prog X.w) X.A (pyIter (.ref s.heap.objs.size)) (PIE X pins σ tg R) E { s with heap:=s.heap.push { cls:=.type "range", data:=.fields #[.int lo t,.int hi u,.int 1 v] },toks:=tk }:=by
 refine wpAny_pyIter_range (IsRange.new ..) (small_one h1 h2 h3 h4) ?_
 have I1:Inv X pins σ H { s with heap:=s.heap.push { cls:=.type "range", data:=.fields #[.int lo t,.int hi u,.int 1 v] },toks:=tk }:=I.kept fun b o e=>Heap.get?_push_of_some _ e
 refine ⟨(s.heap.push { cls:=.type "range", data:=.fields #[.int lo t,.int hi u,.int 1 v] }).objs.size,[(s.heap.push { cls:=.type "range", data:=.fields #[.int lo t,.int hi u,.int 1 v] }).objs.size],_,_,H,rfl,
  I1.kept (t':=tk) fun b o e=>Heap.get?_push_of_some _ e,Cv _ lo (hi - lo).toNat,?_,fun b hb=>?_,q⟩
 ·have e1:lo + ((0:Nat):Int) * 1=lo:=by simp
  have e2:(((hi - lo).toNat:Nat):Int) - ((0:Nat):Int)=Builtin.Range.rangeSize lo hi 1:=by rw [rangeSize_one];split <;> omega
  show IsRangeIter _ _ (lo + ((0:Nat):Int) * 1) ((((hi - lo).toNat:Nat):Int) - ((0:Nat):Int)) 1
  rw [e1,e2]
  exact Heap.get?_push_size _ rfl
 ·have e:b=(s.heap.push { cls:=.type "range", data:=.fields #[.int lo t,.int hi u,.int 1 v] }).objs.size:=by simpa using hb
  subst e
  exact I1.fpOk (aZ _) (I1.hok.fresh (aZ _))
def Vd (ta:TA):TI:=fun σ H R=>ta σ H fun vs H1=>∃ j:Int,vs=[.int j]∧-(2 ^ 62) ≤ j∧j < 2 ^ 62∧R (Itr 0 j.toNat) H1
def Ve (ta:TA):TI:=fun σ H R=>ta σ H fun vs H1=>∃ i j:Int,vs=[.int i,.int j]∧(-(2 ^ 62) ≤ i∧i < 2 ^ 62∧-(2 ^ 62) ≤ j∧j < 2 ^ 62)∧R (Itr i (j - i).toNat) H1
theorem Gm {a:Expr} {ta:TA} {p pos:Pos} (hg:Gl X "range") (hm:X.mg "range" = none) (ha:PA X [a] ta) (hs:starEach [a] X.env=[(false,eval a X.env)]:=by rfl):PI X tg (.Call (.Name "range" p) [a] [] pos) (Vd ta):=by
 intro pins s σ H R I h
 refine Call_ (rN I hg hm boot_range (PyProof.Rows.callWith_type1 (thn (ha pos pins s σ H _ I h) fun us s1 ⟨vs,H1,I1,r1,q1⟩=>?_) hs rfl))
 obtain ⟨j,e,q1,q2,q⟩:=q1
 subst e
 cases r1 with
 | cons r rr =>
  cases rr
  obtain ⟨t,rfl⟩:=r
  exact call_range_1 (Ak I1 (by omega) (by omega) q1 q2 (by simpa using q))
theorem Gn {a b:Expr} {ta:TA} {p pos:Pos} (hg:Gl X "range") (hm:X.mg "range" = none) (ha:PA X [a,b] ta) (hs:starEach [a,b] X.env=[(false,eval a X.env),(false,eval b X.env)]:=by rfl) (hs2:starEach [b] X.env=[(false,eval b X.env)]:=by rfl) :
 PI X tg (.Call (.Name "range" p) [a,b] [] pos) (Ve ta):=by
 intro pins s σ H R I h
 refine Call_ (rN I hg hm boot_range (PyProof.Rows.callWith_type1 (thn (ha pos pins s σ H _ I h) fun us s1 ⟨vs,H1,I1,r1,q1⟩=>?_) (by rw [hs,hs2]) (by rw [hs2];rfl)))
 obtain ⟨i,j,e,⟨q1,q2,q3,q4⟩,q⟩:=q1
 subst e
 cases r1 with
 | cons r rr =>
  cases rr with
  | cons r' rr =>
   cases rr
   obtain ⟨t,rfl⟩:=r
   obtain ⟨t',rfl⟩:=r'
   exact call_range_2 (Ak I1 q1 q2 q3 q4 q)
def Xr (wi:TI) (g:TG) (tb:TS):TS:=fun D σ H=>wi σ H fun J H1=>∃ W:Nat→Nat→St→Hp→Prop,(∃ m,W 0 m σ H1)∧∀ i m σ H,W i m σ H →
 (J.stop i H∧D.nx σ H)∨(J.go i H∧∃ N:St→Hp→Prop,(∀ σ' H',N σ' H'→∃ m',m' < m∧W (i + 1) m' σ' H')∧∀ x H',J.yld i H x H'→g x σ H' fun σ2 H2=>tb { D with nx:=N,ct:=N,bk:=D.nx } σ2 H2)
def uX (fp:List Addr) (h:Heap):List (Addr × Obj):=fp.filterMap fun b=>(h.get? b).map fun o=>(b,o)
theorem o_ {fp:List Addr} {h:Heap} {b:Addr} {o:Obj} (hb:b ∈ fp) (e:h.get? b=some o):(b,o) ∈ uX fp h:=fL.mpr ⟨b,hb,by rw [e];rfl⟩
theorem Gp {fp:List Addr} {h:Heap} {p:Addr × Obj} (hp:p ∈ uX fp h):p.1 ∈ fp∧h.get? p.1=some p.2:=by
 obtain ⟨b,hb,e⟩:=fL.mp hp
 cases q:h.get? b with
 | none=>rw [q] at e;cases e
 | some o =>
  rw [q] at e
  have e':(b,o)=p:=cV.inj e
  subst e'
  exact ⟨hb,q⟩
theorem Inv.pinned {pins:List (Addr × Obj)} {σ:St} {H:Hp} {s:Shared} {fp:List Addr} (I:Inv X pins σ H s) (hf:∀ b ∈ fp,tO X pins H b) (ho:∀ b ∈ fp,∃ o,s.heap.get? b=some o∧∀ v,o.data ≠ .cell v):Inv X (pins++uX fp s.heap) σ H s :=
 I.pins_of fun p hp=>(aX.mp hp).elim (fun z=>I.pin p (aU _ z)) fun z=>by
  obtain ⟨hb,e⟩:=Gp z
  obtain ⟨f0,f1,f2,_⟩:=hf p.1 hb
  obtain ⟨o,e',d⟩:=ho p.1 hb
  rw [e] at e';cases e'
  exact ⟨e,f0,f1,f2,d⟩
theorem Inv.unpinned {pins pl:List (Addr × Obj)} {σ:St} {H:Hp} {s:Shared} (I:Inv X (pins++pl) σ H s):Inv X pins σ H s:=I.pins_of fun p hp=>I.pin p (aU _ (bx _ hp))
theorem Rt {iter:Expr} {body:List Stmt} {wi:TI} {g:TG} {tb:TS} {pos:Pos} (hp:PassesOwn (model X.prog X.w) X.A X.env X.xe) (hc:X.calm=true) (hi:PI X tg iter wi) (hg:PG X tg g) (hb:PSs X body tb)
 (hs:∀ x,foldedSetIterable iter X.env x=pure x:=by intro _;rfl):PS X (.For tg iter body [] pos) (Xr wi g tb):=by
 intro pins s σ H D I h
 refine wpAny_For (thn (hi pins s σ H _ I h) fun v s1 h1=>thn h1 fun itv s2 h2=>?_) hs
 obtain ⟨it,fp,tn,J,H2,e,I2,T,st2,f2,W,⟨m0,w0⟩,turn⟩:=h2
 subst e
 have stat:∀ {H':Hp},(∀ b ∈ fp,H' b=none)→∀ b ∈ fp,tO X pins H' b:=fun hn b hb=>⟨hn b hb,(f2 b hb).2⟩
 refine codeAny_forLoop_any (fun n s'=>∃ i σ' H',Inv X pins σ' H' s'∧tn i s'.heap∧(∀ b ∈ fp,H' b=none)∧W i n σ' H') ?_ m0 ⟨0,σ,H2,I2,st2,fun b hb=>(f2 b hb).1,w0⟩
 rintro n s3 ⟨i,σ3,H3,I3,st3,fr3,w3⟩
 rcases turn i n σ3 H3 w3 with ⟨stop,qn⟩ | ⟨go,N,hN,step⟩
 ·refine wpAny_passesOwn hp (thn (T.done X rfl rfl rfl hc i pins s3 σ3 H3 X.xe I3 (stat fr3) st3 stop) fun r s4 ⟨hr,I4⟩=>?_)
  subst hr
  exact wpAny_execs_nil ⟨σ3,H3,I4,qn⟩
 ·refine wpAny_passesOwn hp (thn (T.item X rfl rfl rfl hc i pins s3 σ3 H3 X.xe I3 (stat fr3) st3 go) fun r s4 ⟨u,hr,h4⟩=>?_)
  subst hr
  refine wpAny_passesOwn hp (thn h4 fun _ s5 ⟨x,H5,I5,r5,y5,st5,fr5⟩=>?_)
  have I5':=I5.pinned (stat fr5) (T.obj _ _ st5)
  refine wpAny_passesOwn hp (thn (hg _ s5 σ3 H5 x u _ I5' r5 (step x H5 y5)) fun _ s6 ⟨σ6,H6,I6,q6⟩=>?_)
  refine wpAny_passesOwn hp (thn (hb _ s6 σ6 H6 _ I6 q6) fun f s7 q7=>?_)
  have again:∀ {σ7:St} {H7:Hp},Inv X (pins++uX fp s5.heap) σ7 H7 s7→N σ7 H7→∃ m,m < n∧∃ i σ' H',Inv X pins σ' H' s7∧tn i s7.heap∧(∀ b ∈ fp,H' b=none)∧W i m σ' H':=fun {σ7 H7} I7 n7=>by
   obtain ⟨m',hm,w7⟩:=hN σ7 H7 n7
   refine ⟨m',hm,i + 1,σ7,H7,I7.unpinned,T.keep _ _ _ st5 fun b hb o e=>(I7.pin (b,o) (aU _ (aU _ (o_ hb e)))).1,fun b hb=>?_,w7⟩
   obtain ⟨o,e,d⟩:=T.obj _ _ st5 b hb
   exact (I7.pin (b,o) (aU _ (aU _ (o_ hb e)))).2.1
  cases f with
  | next=>obtain ⟨σ7,H7,I7,n7⟩:=q7;exact again I7 n7
  | cont=>obtain ⟨σ7,H7,I7,n7⟩:=q7;exact again I7 n7
  | brk=>obtain ⟨σ7,H7,I7,q7⟩:=q7;exact ⟨σ7,H7,I7.unpinned,q7⟩
  | ret v=>obtain ⟨x7,σ7,H7,I7,r7,q7⟩:=q7;exact ⟨x7,σ7,H7,I7.unpinned,r7,q7⟩
end
end L2
namespace L2
open PySem PySem.Spec PyProof.Rows
abbrev R2:=V→V→Hp→VK→Prop
def OpR (X:Cx) (f:Value→Value→Sem Value) (r:R2):Prop :=
 ∀ (pins:List (Addr × Obj)) (s:Shared) (σ:St) (H:Hp) (x y:V) (v u:Value) (Q:VK),Inv X pins σ H s→RelV x v→RelV y u→r x y H Q →
  wpAny (model X.prog X.w) X.A (f v u) (EP X pins σ Q) X.xe s
def UnR (X:Cx) (f:Value→Sem Value) (r:V→Hp→VK→Prop):Prop :=
 ∀ (pins:List (Addr × Obj)) (s:Shared) (σ:St) (H:Hp) (x:V) (v:Value) (Q:VK),Inv X pins σ H s→RelV x v→r x H Q →
  wpAny (model X.prog X.w) X.A (f v) (EP X pins σ Q) X.xe s
def nu (X:Cx) (f:Value) (r:List V→Hp→VK→Prop):Prop :=
 ∀ (pins:List (Addr × Obj)) (s:Shared) (σ:St) (H:Hp) (xs:List V) (us:List Value) (Q:VK),Inv X pins σ H s→Vals xs us→r xs H Q →
  wpAny (model X.prog X.w) X.A (call f us) (EP X pins σ Q) X.xe s
def tOp (r:R2) (ta tb:TE):TE:=fun σ H Q=>ta σ H fun x H1=>tb σ H1 fun y H2=>r x y H2 Q
def tUn (r:V→Hp→VK→Prop) (ta:TE):TE:=fun σ H Q=>ta σ H fun x H1=>r x H1 Q
def rI (C:Int→Int→Prop) (g:Int→Int→V):R2:=fun x y H Q=>∃ i j,x = .int i∧y = .int j∧C i j∧Q (g i j) H
def rI0 (g:Int→Int→V):R2:=fun x y H Q=>∃ i j,x = .int i∧y = .int j∧Q (g i j) H
def rU (g:Int→V):V→Hp→VK→Prop:=fun x H Q=>∃ i,x = .int i∧Q (g i) H
section
variable {X:Cx} {a b c:Expr} {ta tb tc:TE} {pos:Pos}
theorem Ru (ha:PE X a ta) (hb:PE X b tb) {pins:List (Addr × Obj)} {s:Shared} {σ:St} {H:Hp} {R:V→V→Hp→Prop} (I:Inv X pins σ H s)
 (h:ta σ H fun x H1=>tb σ H1 fun y H2=>R x y H2) {Q:Value→Shared→Prop} {f:Value→Value→Sem Value}
 (hf:∀ v u s2 x y H2,Inv X pins σ H2 s2→RelV x v→RelV y u→R x y H2→wpAny (model X.prog X.w) X.A (f v u) Q X.xe s2) :
 wpAny (model X.prog X.w) X.A (eval a X.env) (fun v s₁=>wpAny (model X.prog X.w) X.A (eval b X.env) (fun u s₂=>wpAny (model X.prog X.w) X.A (f v u) Q X.xe s₂) X.xe s₁) X.xe s:=by
 refine thn (ha pins s σ H _ I h) fun v s1 ⟨x,H1,I1,r1,q1⟩=>?_
 refine thn (hb pins s1 σ H1 _ I1 q1) fun u s2 ⟨y,H2,I2,r2,q2⟩=>?_
 exact hf v u s2 x y H2 I2 r1 r2 q2
theorem Io {op:Operator} {r:R2} (ho:OpR X (binaryOp op) r) (ha:PE X a ta) (hb:PE X b tb):PE X (.BinOp a op b pos) (tOp r ta tb):=by
 intro pins s σ H Q I h
 exact wpAny_BinOp (Ru ha hb I h fun v u s2 x y H2 I2 rx ry q=>ho pins s2 σ H2 x y v u Q I2 rx ry q)
theorem Vf {op:UnaryOp} {r:V→Hp→VK→Prop} (ho:UnR X (unaryOp op) r) (ha:PE X a ta):PE X (.UnaryOp op a pos) (tUn r ta):=by
 intro pins s σ H Q I h
 exact UnaryOp_ (thn (ha pins s σ H _ I h) fun v s1 ⟨x,H1,I1,r1,q1⟩=>ho pins s1 σ H1 x v Q I1 r1 q1)
theorem opI {f:Value→Value→Sem Value} {C:Int→Int→Prop} {g:Int→Int→Int}
 (rule:∀ (i j:Int) (t u:Tok) (s:Shared) (Q:Value→Shared→Prop) (E:Value→Shared→Prop),C i j→Q (.int (g i j) s.toks) { s with toks:=s.toks + 1 }→wpAny (model X.prog X.w) X.A (f (.int i t) (.int j u)) Q E s) :
 OpR X f (rI C fun i j=>.int (g i j)):=by
 intro pins s σ H x y v u Q I rx ry h
 obtain ⟨i,j,rfl,rfl,hc,q⟩:=h
 obtain ⟨t,rfl⟩:=rx
 obtain ⟨t',rfl⟩:=ry
 exact rule i j t t' s _ _ hc ⟨.int (g i j),H,I.tok _,⟨_,rfl⟩,q⟩
theorem Vg {f:Value→Value→Sem Value} {g:Int→Int→Int}
 (rule:∀ (i j:Int) (t u:Tok) (s:Shared) (Q:Value→Shared→Prop) (E:Value→Shared→Prop),Q (.int (g i j) s.toks) { s with toks:=s.toks + 1 }→wpAny (model X.prog X.w) X.A (f (.int i t) (.int j u)) Q E s) :
 OpR X f (rI0 fun i j=>.int (g i j)):=by
 intro pins s σ H x y v u Q I rx ry h
 obtain ⟨i,j,rfl,rfl,q⟩:=h
 obtain ⟨t,rfl⟩:=rx
 obtain ⟨t',rfl⟩:=ry
 exact rule i j t t' s _ _ ⟨.int (g i j),H,I.tok _,⟨_,rfl⟩,q⟩
theorem Mt {f:Value→Value→Sem Value} {g:Int→Int→Bool}
 (rule:∀ (i j:Int) (t u:Tok) (s:Shared) (Q:Value→Shared→Prop) (E:Value→Shared→Prop),Q (.bool (g i j)) s→wpAny (model X.prog X.w) X.A (f (.int i t) (.int j u)) Q E s) :
 OpR X f (rI0 fun i j=>.bl (g i j)):=by
 intro pins s σ H x y v u Q I rx ry h
 obtain ⟨i,j,rfl,rfl,q⟩:=h
 obtain ⟨t,rfl⟩:=rx
 obtain ⟨t',rfl⟩:=ry
 exact rule i j t t' s _ _ ⟨.bl (g i j),H,I,rfl,q⟩
def Rv (i j:Int):Prop:=0 ≤ j∧j ≤ 1000000∧i.natAbs < 2 ^ 64
theorem gR:OpR X (binaryOp .Add) (rI0 fun i j=>.int (i + j)):=Vg fun _ _ _ _ _ _ _ q=>add_int q
theorem Ip:OpR X (binaryOp .Sub) (rI0 fun i j=>.int (i - j)):=Vg fun _ _ _ _ _ _ _ q=>sub_int q
theorem mX:OpR X (binaryOp .Mod) (rI (fun _ j=>j ≠ 0) fun i j=>.int (i.fmod j)):=opI fun _ _ _ _ _ _ _ hc q=>mod_int' hc q
theorem Rw:OpR X (binaryOp .Pow) (rI Rv fun i j=>.int (i ^ j.toNat)):=opI fun _ _ _ _ _ _ _ hc q=>pow_int_small hc.1 hc.2.1 hc.2.2 q
theorem unI {f:Value→Sem Value} {g:Int→Int}
 (rule:∀ (i:Int) (t:Tok) (s:Shared) (Q:Value→Shared→Prop) (E:Value→Shared→Prop),Q (.int (g i) s.toks) { s with toks:=s.toks + 1 }→wpAny (model X.prog X.w) X.A (f (.int i t)) Q E s) :
 UnR X f (rU fun i=>.int (g i)):=by
 intro pins s σ H x v Q I rx h
 obtain ⟨i,rfl,q⟩:=h
 obtain ⟨t,rfl⟩:=rx
 exact rule i t s _ _ ⟨.int (g i),H,I.tok _,⟨_,rfl⟩,q⟩
theorem Rx:UnR X (unaryOp .USub) (rU fun i=>.int (-i)):=unI fun _ _ _ _ _ q=>neg_int q
end
section
variable {X:Cx} {a b c:Expr} {ta tb tc:TE} {pos:Pos}
theorem j_:OpR X (compareOp .Lt) (rI0 fun i j=>.bl (decide (i < j))):=Mt fun _ _ _ _ _ _ _ q=>lt_int q
theorem qj:OpR X (compareOp .LtE) (rI0 fun i j=>.bl (decide (i ≤ j))):=Mt fun _ _ _ _ _ _ _ q=>le_int q
theorem uY:OpR X (compareOp .Gt) (rI0 fun i j=>.bl (decide (j < i))):=Mt fun _ _ _ _ _ _ _ q=>gt_int q
theorem Ir:OpR X (compareOp .GtE) (rI0 fun i j=>.bl (decide (j ≤ i))):=Mt fun _ _ _ _ _ _ _ q=>ge_int q
theorem cG (b:Expr) {op:CmpOp} (h:op ≠ .In:=by decide) (h2:op ≠ .NotIn:=by decide):behindInMarks op b=false:=by
 have e1:(op == CmpOp.In)=false:=by cases op <;> first | rfl | exact absurd rfl h
 have e2:(op == CmpOp.NotIn)=false:=by cases op <;> first | rfl | exact absurd rfl h2
 cases b <;> simp [behindInMarks,e1,e2]
theorem Mu {op:CmpOp} {r:R2} (ho:OpR X (compareOp op) r) (ha:PE X a ta) (hb:PE X b tb) (hm:behindInMarks op b=false):PE X (.Compare a [op] [b] pos) (tOp r ta tb):=by
 intro pins s σ H Q I h
 exact wpAny_Compare1 (Ru ha hb I h fun v u s2 x y H2 I2 rx ry q=>ho pins s2 σ H2 x y v u Q I2 rx ry q) hm
def Qz (t:TE):TT:=fun σ H Q=>t σ H fun x H'=>∃ k,x = .bl k∧Q k H'
theorem Mv {op:CmpOp} {r:R2} (ho:OpR X (compareOp op) r) (ha:PE X a ta) (hb:PE X b tb) (hm:behindInMarks op b=false):PT X (.Compare a [op] [b] pos) (Qz (tOp r ta tb)):=by
 intro pins s σ H Q I h
 refine wpAny_isTrue_Compare1 (thn (ha pins s σ H _ I h) fun v s1 ⟨x,H1,I1,r1,q1⟩=>thn (hb pins s1 σ H1 _ I1 q1) fun u s2 ⟨y,H2,I2,r2,q2⟩ =>
  thn (ho pins s2 σ H2 x y v u _ I2 r1 r2 q2) fun c s3 ⟨z,H3,I3,r3,k,e,q3⟩=>?_) hm
 subst e
 cases r3
 exact wpAny_truthy_bool ⟨H3,I3,q3⟩
def Iu (r r':R2) (ta tb tc:TE):TE:=fun σ H Q=>ta σ H fun x H1=>tb σ H1 fun y H2=>r x y H2 fun z H3=>∃ k,z = .bl k ∧
 (if k=true then tc σ H3 fun w' H4=>r' y w' H4 Q else Q (.bl false) H3)
theorem Iv {op op':CmpOp} {r r':R2} (ho:OpR X (compareOp op) r) (ho':OpR X (compareOp op') r') (ha:PE X a ta) (hb:PE X b tb) (hc:PE X c tc)
 (hm:lastMarks [op,op'] [b,c]=false:=by with_unfolding_all rfl):PE X (.Compare a [op,op'] [b,c] pos) (Iu r r' ta tb tc):=by
 intro pins s σ H Q I h
 refine Compare_chain (thn (ha pins s σ H _ I h) fun v s1 ⟨x,H1,I1,r1,q1⟩=>chain_link (thn (hb pins s1 σ H1 _ I1 q1) fun u s2 ⟨y,H2,I2,r2,q2⟩ =>
  thn (ho pins s2 σ H2 x y v u _ I2 r1 r2 q2) fun d s3 ⟨z,H3,I3,r3,k,e,q3⟩=>?_)) hm
 subst e
 cases r3
 refine wpAny_truthy_bool ?_
 cases k with
 | false=>exact ite_ff ⟨.bl false,H3,I3,rfl,q3⟩
 | true=>exact ite_tt (chain_last (thn (hc pins s3 σ H3 _ I3 q3) fun w' s4 ⟨z',H4,I4,r4,q4⟩=>ho' pins s4 σ H4 y z' u w' Q I4 r2 r4 q4))
theorem Iw {op op':CmpOp} {r r':R2} (ho:OpR X (compareOp op) r) (ho':OpR X (compareOp op') r') (ha:PE X a ta) (hb:PE X b tb) (hc:PE X c tc)
 (hm:lastMarks [op,op'] [b,c]=false:=by with_unfolding_all rfl):PT X (.Compare a [op,op'] [b,c] pos) (Qz (Iu r r' ta tb tc)):=by
 intro pins s σ H Q I h
 refine isTrue_chain (thn (ha pins s σ H _ I h) fun v s1 ⟨x,H1,I1,r1,q1⟩=>test_link (thn (hb pins s1 σ H1 _ I1 q1) fun u s2 ⟨y,H2,I2,r2,q2⟩ =>
  thn (ho pins s2 σ H2 x y v u _ I2 r1 r2 q2) fun d s3 ⟨z,H3,I3,r3,k,e,q3⟩=>?_)) hm
 subst e
 cases r3
 refine wpAny_truthy_bool ?_
 cases k with
 | false =>
  obtain ⟨k',e',q'⟩:=q3
  cases e'
  exact ite_ff ⟨H3,I3,q'⟩
 | true =>
  refine ite_tt (test_last (thn (hc pins s3 σ H3 _ I3 q3) fun w' s4 ⟨z',H4,I4,r4,q4⟩=>thn (ho' pins s4 σ H4 y z' u w' _ I4 r2 r4 q4) fun d' s5 ⟨z2,H5,I5,r5,k2,e2,q5⟩=>?_))
  subst e2
  cases r5
  exact wpAny_truthy_bool ⟨H5,I5,q5⟩
theorem tQ:(sizeLine:Nat) < 2 ^ 63:=by rw [sizeLine_eq];decide
theorem vals1 {x:V} {us:List Value} (r:Vals [x] us):∃ u,us=[u]∧RelV x u:=by
 cases r with
 | cons r1 r2=>cases r2;exact ⟨_,rfl,r1⟩
theorem vals2 {x y:V} {us:List Value} (r:Vals [x,y] us):∃ u w',us=[u,w']∧RelV x u∧RelV y w':=by
 cases r with
 | cons r1 r2 =>
  cases r2 with
  | cons r3 r4=>cases r4;exact ⟨_,_,rfl,r1,r3⟩
theorem xU (hc:X.calm=true):nu X (.builtin "max") (fun xs H Q=>∃ i j,xs=[.int i,.int j]∧Q (.int (if j > i then j else i)) H):=by
 intro pins s σ H xs us Q I r h
 obtain ⟨i,j,rfl,q⟩:=h
 obtain ⟨u,w',rfl,⟨t,rfl⟩,⟨t',rfl⟩⟩:=vals2 r
 refine max_two_ints (I.ok.hd hc) fun h' tk k=>⟨_,H,I.kept k,?_,q⟩
 by_cases hj:j > i
 ·rw [if_pos hj,if_pos hj];exact ⟨_,rfl⟩
 ·rw [if_neg hj,if_neg hj];exact ⟨_,rfl⟩
theorem tR (hc:X.calm=true):nu X (.builtin "min") (fun xs H Q=>∃ i j,xs=[.int i,.int j]∧Q (.int (if j < i then j else i)) H):=by
 intro pins s σ H xs us Q I r h
 obtain ⟨i,j,rfl,q⟩:=h
 obtain ⟨u,w',rfl,⟨t,rfl⟩,⟨t',rfl⟩⟩:=vals2 r
 refine min_two_ints (I.ok.hd hc) fun h' tk k=>⟨_,H,I.kept k,?_,q⟩
 by_cases hj:j < i
 ·rw [if_pos hj,if_pos hj];exact ⟨_,rfl⟩
 ·rw [if_neg hj,if_neg hj];exact ⟨_,rfl⟩
theorem Gq:nu X (.type "int") (fun xs H Q=>(∃ i,xs=[.int i]∧Q (.int i) H)∨∃ k,xs=[.bl k]∧Q (.int (if k then 1 else 0)) H):=by
 intro pins s σ H xs us Q I r h
 rcases h with ⟨i,rfl,q⟩ | ⟨k,rfl,q⟩
 ·obtain ⟨u,rfl,t,rfl⟩:=vals1 r
  exact call_int_int ⟨.int i,H,I,⟨_,rfl⟩,q⟩
 ·obtain ⟨u,rfl,r1⟩:=vals1 r
  cases r1
  exact call_int_bool ⟨.int (if k then 1 else 0),H,I.tok _,⟨_,rfl⟩,q⟩
end
end L2
namespace L2
open PySem PySem.Spec PyProof.Rows
structure ObjM (h:Heap) (x dx C:Addr) (mA:Str→Option Value):Prop where
 obj:h.get? x=some (PySem.W.instObj C dx)
 ns:h.Ns1 dx mA
 ne:dx ≠ x
theorem Gs {h:Heap} {dx:Addr} {mA:Str→Option Value} (n:h.Ns1 dx mA):∃ od,h.get? dx=some od∧∀ name,PySem.W.lookIn name od=some (mA name):=by
 obtain ⟨o,es,ep,ho,hd,hk,_,hm⟩:=n
 refine ⟨o,ho,fun name=>?_⟩
 have e:=hm name
 unfold nsFind findBy at e
 rw [← Array.find?_toList] at e
 unfold PySem.W.lookIn
 rw [hd]
 dsimp only
 split
 ·rename_i y q
  rw [q] at e
  exact congrArg some e
 ·rename_i q
  rw [q] at e
  have a:es.toList.any (·.refKey)=false:=by
   rw [List.any_eq_false]
   intro y hy
   obtain ⟨z,t,hkey⟩:=hk y (Array.mem_toList_iff.mp hy)
   simp [DictEntry.refKey,hkey]
  have a':¬ es.toList.any (·.refKey)=true:=by rw [a];exact dN
  rw [if_neg a']
  exact congrArg some e
theorem ObjM.look {h:Heap} {x dx C:Addr} {mA:Str→Option Value} (I:ObjM h x dx C mA):∃ od,PySem.W.InstAt h x (PySem.W.instObj C dx) C (some od)∧∀ name,PySem.W.lookIn name od=some (mA name) :=
 let ⟨od,ho,hl⟩:=Gs I.ns
 ⟨od,⟨I.obj,rfl,rfl,ho⟩,hl⟩
section
variable {prog:Program} {w:World} {A:Around} {E:Value→Shared→Prop} {s:Shared} {K:PySem.W.Frag} {x dx C f:Addr} {mA:Str→Option Value} {name:Str} {v:Value}
end
theorem tM.some_of {v:V} {o:Option Value} (r:tM (some v) o):∃ u,o=some u∧RelV v u:=by
 cases o with
 | none=>exact (show False from r).elim
 | some u=>exact ⟨u,rfl,r⟩
section
variable {P:Program} {w:World} {H H':Hp} {h h':Heap} {a C dx:Addr} {fs fs':List (Str × V)}
theorem Mw (hok:HOk P w H h) (e:H a=some (.ins C dx fs)):∃ mA,ObjM h a dx C mA∧(∀ f,tM (fs.lookup f) (mA f))∧PySem.Within mA (fs.map (·.1))∧fs.length ≤ 1000∧H dx=some (.own a):=by
 obtain ⟨d,z,ne,ob,mA,n,r,q⟩:=(show gZ P w H h a (.ins C dx fs) from hok a _ e)
 exact ⟨mA,⟨ob,n,ne⟩,r,q,z,d⟩
end
structure Cls (K:PySem.W.Frag) (C:Addr):Prop where
 pg:PySem.W.plainGet K C Str.empty=true
 hd:PySem.W.hasDictIn K C=true
 po:PySem.W.plainOver K C=true
 sa:PySem.W.findIn K (.ref C) "__setattr__" = some (some (.builtin "object.__setattr__"))
theorem Cls.get {K:PySem.W.Frag} {C:Addr} (c:Cls K C) (f:Str):PySem.W.plainGet K C f=true:=c.pg
structure Con (K:PySem.W.Frag) (C:Addr) (f:Str) (v:V) (u:Value):Prop where
 at_:PySem.W.findIn K (.ref C) f=some (some u)
 rel:RelV v u
 get:PySem.W.specialIn K u "__get__" = some none
 cp:PySem.W.copiedNames.contains f=false
structure Meth (K:PySem.W.Frag) (C:Addr) (m:Str) (f:Addr):Prop where
 at_:PySem.W.findIn K (.ref C) m=some (some (.ref f))
 fn:PySem.W.isFn K (.ref f)=true
 kp:PySem.W.keepIn K (.ref f)=true
section
variable {X:Cx} {pins:List (Addr × Obj)} {σ:St} {H:Hp} {s:Shared} {a C dx:Addr} {fs:List (Str × V)} {f:Str} {v:V} {A:Around} {E:Value→Shared→Prop}
end
section
variable {X:Cx} {o e value:Expr} {f:Str} {pos pos' tpos:Pos} {ta tv:TE}
end
section
variable {X:Cx} {pins:List (Addr × Obj)} {σ:St} {H:Hp} {s:Shared} {A:Around} {E:Value→Shared→Prop} {Q:Value→Shared→Prop} {c:Value} {b:Bool}
inductive TyOf (K:PySem.W.Frag) (H:Hp):V→Value→Prop where
 | non:TyOf K H .non (.type "NoneType")
 | bl (x:Bool):TyOf K H (.bl x) (.type "bool")
 | int (i:Int):TyOf K H (.int i) (.type "int")
 | str (x:Str):TyOf K H (.str x) (.type "str")
 | flt (x:UInt64):TyOf K H (.flt x) (.type "float")
 | lst {a:Addr} {xs:List V} (e:H a=some (.lst xs)):TyOf K H (.ref a) (.type "list")
 | frz {a:Addr} {o:Obj} {xs:List V} (e:H a=some (.frz o (.lst xs))):TyOf K H (.ref a) (.type "list")
 | tup {a:Addr} {xs:List V} (e:H a=some (.tup xs)):TyOf K H (.ref a) (.type "tuple")
 | dK {a:Addr} {kvs:List (Key × V)} (e:H a=some (.dK kvs)):TyOf K H (.ref a) (.type "dict")
 | dT {a:Addr} {kvs:List (List Key × V)} (e:H a=some (.dT kvs)):TyOf K H (.ref a) (.type "dict")
 | ins {a C dx:Addr} {fs:List (Str × V)} (e:H a=some (.ins C dx fs)) (cl:Cls K C) (ha:PySem.W.findIn K (.ref C) "__class__" = some (some (.builtin "object.__class__")))
  (hn:PySem.W.specialIn K (.builtin "object.__class__") "__get__" = some (some (.builtin "getset_descriptor.__get__"))) (htk:PySem.W.takesIn K (.builtin "object.__class__")=some true)
  (hm:PySem.W.mroIn K C (.type "object")=some true):TyOf K H (.ref a) (.ref C)
theorem xV {x:V} {u t:Value} (I:Inv X pins σ H s) (rx:RelV x u) (ty:TyOf X.K H x t) (e:PySem.W.kitOne X.K t c=some b) (h:∀ tk,Q (.bool b) { s with toks:=tk }) :
 wpAny (model X.prog X.w) A (call (.builtin "isinstance") [u,c]) Q E s:=by
 cases ty with
 | non=>cases (show u=Value.none from rx);exact PySem.W.kia_one PySem.W.kitx_none I.kIn True.intro e (fun z=>nomatch z) h
 | bl y=>cases (show u=Value.bool y from rx);exact PySem.W.kia_one PySem.W.kitx_bool I.kIn True.intro e (fun z=>nomatch z) h
 | int i=>obtain ⟨t,q⟩:=(show ∃ t,u=Value.int i t from rx);cases q;exact PySem.W.kia_one PySem.W.kitx_int I.kIn True.intro e (fun z=>nomatch z) h
 | str y=>obtain ⟨t,q⟩:=(show ∃ t,u=Value.str y t from rx);cases q;exact PySem.W.kia_one PySem.W.kitx_str I.kIn True.intro e (fun z=>nomatch z) h
 | flt y=>obtain ⟨t,q⟩:=(show ∃ t,u=Value.float y t from rx);cases q;exact PySem.W.kia_one PySem.W.kitx_float I.kIn True.intro e (fun z=>nomatch z) h
 | @lst a xs ea =>
  cases (show u=Value.ref a from rx)
  obtain ⟨_,_,n,_,h1⟩:=(show gZ X.prog X.w H s.heap a (.lst xs) from I.hok a _ ea)
  exact PySem.W.kia_one PySem.W.kitx_list I.kIn ⟨_,h1,rfl⟩ e (fun z=>nomatch z) h
 | @frz a ob xs ea =>
  cases (show u=Value.ref a from rx)
  obtain ⟨_,_,_,n,_,h1⟩:=(show gZ X.prog X.w H s.heap a (.frz ob (.lst xs)) from I.hok a _ ea)
  exact PySem.W.kia_one PySem.W.kitx_list I.kIn ⟨_,h1,rfl⟩ e (fun z=>nomatch z) h
 | @tup a xs ea =>
  cases (show u=Value.ref a from rx)
  obtain ⟨_,_,_,p⟩:=(show gZ X.prog X.w H s.heap a (.tup xs) from I.hok a _ ea)
  obtain ⟨o,h1,h2,_⟩:=p
  exact PySem.W.kia_one PySem.W.kitx_tuple I.kIn ⟨o,h1,h2⟩ e (fun z=>nomatch z) h
 | @dK a kvs ea =>
  cases (show u=Value.ref a from rx)
  obtain ⟨_,_,vs,_,p⟩:=(show gZ X.prog X.w H s.heap a (.dK kvs) from I.hok a _ ea)
  obtain ⟨o,es,ep,h1,h2,_⟩:=p
  exact PySem.W.kia_one PySem.W.kitx_dict I.kIn ⟨o,h1,h2.1⟩ e (fun z=>nomatch z) h
 | @dT a kvs ea =>
  cases (show u=Value.ref a from rx)
  obtain ⟨_,_,xs,_,o,es,ep,h1,h2,_⟩:=(show gZ X.prog X.w H s.heap a (.dT kvs) from I.hok a _ ea)
  exact PySem.W.kia_one PySem.W.kitx_dict I.kIn ⟨o,h1,h2.1⟩ e (fun z=>nomatch z) h
 | @ins a C dx fs ea cl ha hn htk hm =>
  cases (show u=Value.ref a from rx)
  obtain ⟨mA,O,_⟩:=Mw I.hok ea
  obtain ⟨od,J,_⟩:=O.look
  exact PySem.W.kia_one (PySem.W.kitx_own (cl.get _) cl.hd ha hn htk hm) I.kIn J e (fun z=>nomatch z) h
end
end L2
namespace L2
open PySem PySem.Spec PyProof.Rows
structure Room (k:Nat) (A:Around):Prop where
 hd:A.handled=none
 dp:A.depth + 3 * k + 5 < recursionLimit
 un:A.units + 16 * k + 200 < cLine
theorem Room.mono {j k:Nat} {A:Around} (r:Room k A) (h:j ≤ k):Room j A:=⟨r.hd,by have:=r.dp;omega,by have:=r.un;omega⟩
theorem Room.deeper {k:Nat} {A:Around} (r:Room (k + 1) A) (env:Env):Room k (A.deeper env) :=
 ⟨r.hd,by have:=r.dp;show A.depth + 1 + 3 * k + 5 < _;omega,by have:=r.un;show A.units + 3 + 16 * k + 200 < _;omega⟩
theorem Room.depth {k:Nat} {A:Around} (r:Room k A):A.depth < recursionLimit:=by have:=r.dp;omega
theorem Room.units {k:Nat} {A:Around} (r:Room k A):A.units + 64 < cLine:=by have:=r.un;omega
def Xu:TA:=fun _ H Q=>Q [] H
def Vh (ta:TE) (tr:TA):TA:=fun σ H Q=>ta σ H fun x H1=>tr σ H1 fun xs H2=>Q (x :: xs) H2
section
variable {X:Cx} {e:Expr} {es:List Expr} {te:TE} {t:TA} {pos:Pos}
theorem tU:PA X [] Xu:=fun _ _ _ _ H Q I h=>Calls.spliced_nil ⟨[],H,I,.nil,h⟩
theorem nW (ha:PE X e te) (hr:PA X es t) (hs:starEach (e :: es) X.env=(false,eval e X.env) :: starEach es X.env:=by rfl):PA X (e :: es) (Vh te t):=by
 intro pos pins s σ H Q I h
 rw [hs]
 show wpAny _ _ (spliced ((false,eval e X.env) :: backTo pos (starEach es X.env))) _ _ s
 refine Calls.spliced_cons (thn (ha pins s σ H _ I h) fun u s1 ⟨x,H1,I1,r1,q1⟩=>?_)
 exact thn (hr pos pins s1 σ H1 _ I1 q1) fun us s2 ⟨xs,H2,I2,r2,q2⟩=>⟨x :: xs,H2,I2,.cons r1 r2,q2⟩
def Xv (t:TA):TE:=fun σ H Q=>t σ H fun xs H1=>xs.length ≤ sizeLine∧∀ p,H1 p=none→Q (.ref p) (upd H1 p (.tup xs))
def Xw (t:TA):TE:=fun σ H Q=>t σ H fun xs H1=>xs.length ≤ sizeLine∧∀ p,H1 p=none→Q (.ref p) (upd H1 p (.lst xs))
theorem Ry {x1} (h:PA X es t):PE X (.Tuple es x1 pos) (Xv t):=by
 intro pins s σ H Q I hq
 refine wpAny_Tuple_spliced (thn (h pos pins s σ H _ I hq) fun us s1 ⟨xs,H1,I1,r,z,q⟩=>⟨by rw [← r.length];exact z,?_⟩)
 have hf:H1 s1.heap.objs.size=none:=I1.hok.fresh (aZ _)
 refine ⟨.ref s1.heap.objs.size,upd H1 s1.heap.objs.size (.tup xs),I1.laid (t':=s1.toks) (fun b u e=>Heap.get?_push_of_some _ e) (aZ _) ?_,rfl,q _ hf⟩
 exact ⟨z,us,r,⟨_,Heap.get?_push_size _ rfl,rfl,_,rfl⟩⟩
theorem Iz (h:PA X es t):PE X (.List es pos) (Xw t):=by
 intro pins s σ H Q I hq
 refine wpAny_List_spliced (thn (h pos pins s σ H _ I hq) fun us s1 ⟨xs,H1,I1,r,z,q⟩=>⟨by rw [← r.length];exact z,?_⟩)
 have hf:H1 s1.heap.objs.size=none:=I1.hok.fresh (aZ _)
 refine ⟨.ref s1.heap.objs.size,upd H1 s1.heap.objs.size (.lst xs),I1.laid (t':=s1.toks) (fun b u e=>Heap.get?_push_of_some _ e) (aZ _) ?_,rfl,q _ hf⟩
 exact ⟨z,us,0,r,Heap.get?_push_size _ rfl⟩
end
abbrev Sp:=List V→Hp→VK→XK→Prop
abbrev CXT:=List Env→Hp→Shared→XK→Value→Shared→Prop
structure Env0 (P:Program) (w:World) (K:PySem.W.Frag) (mg:Str→Option Value) (base:Heap) (A:Around) (outer:List Env) (s:Shared) (H:Hp):Prop where
 frames:A.frames=some outer
 mod:Mod K mg base
 bs:∀ b o,base.get? b=some o→s.heap.get? b=some o∧H b=none
 bsz:base.objs.size ≤ s.heap.objs.size
 funs:s.heap.FunFrames base outer
 frf:∀ b ∈ frs outer,H b=none
 hok:HOk P w H s.heap
 bare:AllBare s.gens
def CE (outer:List Env) (P:Program) (w:World) (H:Hp) (s:Shared) (Q:VK) (u:Value) (s':Shared):Prop :=
 ∃ v H',s'.os=s.os∧AllBare s'.gens∧Un (frs outer) [] H H' s.heap s'.heap∧HOk P w H' s'.heap∧RelV v u∧Q v H'
def CR (CX:CXT) (outer:List Env) (P:Program) (w:World) (H:Hp) (s:Shared) (Q:VK) (E:XK) (r:Result) (s':Shared):Prop :=
 match r with
 | .ok (.ret u)=>CE outer P w H s Q u s'
 | .ok _=>False
 | .error e=>CX outer H s E e s'
structure FnOk (P:Program) (w:World) (K:PySem.W.Frag) (mg:Str→Option Value) (base:Heap) (CX:CXT) (k:Nat) (f:Addr) (fd:FuncData) (ps:List Str) (sp:Sp):Prop where
 len:∀ vs H Q E,sp vs H Q E→vs.length=ps.length
 run:∀ (A:Around) (outer:List Env) (s:Shared) (H:Hp) (args:Args) (us:List Value) (vs:List V) (Q:VK) (E:XK),Room k A→Env0 P w K mg base A outer s H→BindsTo s fd args (ps.zip us)→Vals vs us→sp vs H Q E →
  codeAny (model P w) A (.call (.ref f) args) (CR CX outer P w H s Q E) s
theorem FnOk.mono {P:Program} {w:World} {K:PySem.W.Frag} {mg:Str→Option Value} {base:Heap} {CX:CXT} {j k:Nat} {f:Addr} {fd:FuncData} {ps:List Str} {sp:Sp} (F:FnOk P w K mg base CX j f fd ps sp) (h:j ≤ k) :
 FnOk P w K mg base CX k f fd ps sp:=⟨F.len,fun A outer s H args us vs Q E hr=>F.run A outer s H args us vs Q E (hr.mono h)⟩
theorem FnOk.imp {P:Program} {w:World} {K:PySem.W.Frag} {mg:Str→Option Value} {base:Heap} {CX:CXT} {k:Nat} {f:Addr} {fd:FuncData} {ps:List Str} {sp sp':Sp} (F:FnOk P w K mg base CX k f fd ps sp)
 (h:∀ vs H Q E,sp' vs H Q E→sp vs H Q E):FnOk P w K mg base CX k f fd ps sp' :=
 ⟨fun vs H Q E q=>F.len vs H Q E (h _ _ _ _ q),fun A outer s H args us vs Q E hr he hb hv hs=>F.run A outer s H args us vs Q E hr he hb hv (h _ _ _ _ hs)⟩
section
variable {X:Cx} {pins:List (Addr × Obj)} {σ:St} {H:Hp} {s s':Shared}
theorem Inv.env0 (I:Inv X pins σ H s):Env0 X.prog X.w X.K X.mg X.base X.A X.stack s H :=
 ⟨I.ok.frames,I.ok.mod,I.bs,bM I.ok.bsz I.sz,I.stack,I.stkFree,I.hok,I.bare⟩
theorem Inv.after {Q:VK} {u:Value} (I:Inv X pins σ H s) (h:CE X.stack X.prog X.w H s Q u s'):EP X pins σ Q u s':=by
 obtain ⟨v,H',os,bare,un,hok,r,q⟩:=h
 obtain ⟨hh,g,d,t,os'⟩:=s'
 obtain rfl:os'=s.os:=os
 exact ⟨v,H',I.call (h':=hh) (g':=g) (d':=d) (t':=t) (ch:=[]) un hok bare (fun b z=>absurd z (by simp)),r,q⟩
end
def QB (sp:Sp) (dvs:List V) (E:XK) (t:TA):TE:=fun σ H Q=>t σ H fun vs H1=>sp (vs++dvs) H1 Q E
def Binds (K:PySem.W.Frag) (fd:FuncData) (ps:List Str) (ds:List Value):Prop :=
 ∀ (s:Shared) (us:List Value),K.In s.heap→(us++ds).length=ps.length→BindsTo s fd ⟨us,[]⟩ (ps.zip (us++ds))
theorem Binds.all {K:PySem.W.Frag} {fd:FuncData} {ps:List Str} (h:∀ us:List Value,us.length=ps.length→bindArgs fd ⟨us,[]⟩=pure (ps.zip us)):Binds K fd ps []:=fun s us _ hl=>by
 rw [cH] at hl ⊢
 exact .of_eq (h us hl)
def Passes (CX:CXT) (X:Cx) (E:XK):Prop:=∀ (pins:List (Addr × Obj)) (σ:St) (H:Hp) (s:Shared) (e:Value) (s':Shared),Inv X pins σ H s→CX X.stack H s E e s'→X.xe e s'
section
variable {X:Cx} {CX:CXT} {k:Nat} {f C:Addr} {fd:FuncData} {ps:List Str} {sp:Sp} {dvs:List V} {ds:List Value} {E:XK} {x m:Str} {p pos apos:Pos} {e o:Expr} {es:List Expr} {ta:TE} {t:TA}
theorem Rz {pins:List (Addr × Obj)} {σ:St} {H:Hp} {s:Shared} {Q:VK} {us:List Value} {vs:List V} (F:FnOk X.prog X.w X.K X.mg X.base CX k f fd ps sp) (hr:Room k X.A) (hb:Binds X.K fd ps ds) (hd:Vals dvs ds) (hx:Passes CX X E)
 (I:Inv X pins σ H s) (r:Vals vs us) (h:sp (vs++dvs) H Q E):wpAny (model X.prog X.w) X.A (call (.ref f) us) (EP X pins σ Q) X.xe s:=by
 have r2:Vals (vs++dvs) (us++ds):=r.append hd
 have hl:(us++ds).length=ps.length:=by rw [← r2.length];exact F.len _ _ _ _ h
 refine wpAny_call (codeAny_mono (F.run X.A X.stack s H ⟨us,[]⟩ (us++ds) (vs++dvs) Q E hr I.env0 (hb s us I.kIn hl) r2 h) fun r s' hq=>?_)
 cases r with
 | error e=>exact hx pins σ H s e s' I hq
 | ok fl =>
  cases fl with
  | ret u=>exact I.after hq
  | next=>exact False.elim hq
  | brk=>exact False.elim hq
  | cont=>exact False.elim hq
theorem Mx (F:FnOk X.prog X.w X.K X.mg X.base CX k f fd ps sp) (hr:Room k X.A) (hg:Gl X x) (hm:X.mg x=some (.ref f)) (hk:PySem.W.keepIn X.K (.ref f)=true) (hb:Binds X.K fd ps ds) (hd:Vals dvs ds) (hx:Passes CX X E)
 (ha:PA X (e :: es) t) (hdb:(x == ("__debug__" : Str))=false:=by decide) (he:starEach (e :: es) X.env=(false,eval e X.env) :: starEach es X.env:=by rfl) (hpl:(backTo pos (starEach es X.env)).any (·.1)=false:=by rfl) :
 PE X (.Call (.Name x p) (e :: es) [] pos) (QB sp dvs E t):=by
 intro pins s σ H Q I h
 refine wpAny_Call_Name_kw (En I hg hm ?_ hdb)
 refine PySem.W.callWith_K (h₀:=X.base) I.ok.mod.kin hk (thn (ha pos pins s σ H _ I h) fun us s1 ⟨vs,H1,I1,r,q⟩=>⟨I1.kIn,?_⟩) he hpl
 exact Rz F hr hb hd hx I1 r q
structure Mk (K:PySem.W.Frag) (C f:Addr):Prop where
 makes:PySem.W.makesIn K C=true
 init:PySem.W.findIn K (.ref C) "__init__" = some (some (.ref f))
 fn:PySem.W.isFn K (.ref f)=true
 kp:PySem.W.keepIn K (.ref C)=true
end
section
variable {X:Cx} {CX:CXT} {k:Nat} {f C:Addr} {fd:FuncData} {ps ks:List Str} {sp:Sp} {E:XK} {x m:Str} {p pos apos kpos:Pos} {e o:Expr} {es:List Expr} {kws:List Keyword} {te ta:TE} {t tk:TA} {nm:Option Str}
structure KBinds (K:PySem.W.Frag) (fd:FuncData) (ps ks:List Str) (g:List Value→List Value→List Value) (gV:List V→List V→List V):Prop where
 to:∀ (s:Shared) (us ws:List Value),K.In s.heap→(g us ws).length=ps.length→BindsTo s fd ⟨us,ks.zip ws⟩ (ps.zip (g us ws))
 rel:∀ {vs:List V} {us:List Value} {zs:List V} {ws:List Value},Vals vs us→Vals zs ws→Vals (gV vs zs) (g us ws)
variable {g:List Value→List Value→List Value} {gV:List V→List V→List V}
end
structure FnScope (N P:List Str) (sc:Scope):Prop where
 kind:sc.kind = .function
 co:sc.isCoroutine=false
 gen:sc.isGenerator=false
 nd:N.Nodup
 pre:N.take P.length=P
 par:∀ x ∈ P,sc.names.lookup x=some .local∨sc.names.lookup x=some .cell
 nofree:∀ y ∈ sc.names,y.2 ≠ .free
theorem xW {kindOf:Str→Option NameKind} {x:Str}:∀ {binds:List (Str × Value)} {m:Str→Option Value},(∀ v,(x,v) ∉ binds)→bindL kindOf binds m x=m x
 | [],_,_=>rfl
 | (n,v) :: r,m,h=>by
  unfold bindL
  rw [xW fun w hw=>h w (aO _ hw)]
  split
  ·have:x ≠ n:=by rintro rfl;exact h v aM
   simp [this]
  ·rfl
theorem xX {kindOf:Str→Option NameKind} {x:Str}:∀ {binds:List (Str × Value)} {m:Str→Option Value},(∀ v,(x,v) ∉ binds)→bindC kindOf binds m x=m x
 | [],_,_=>rfl
 | (n,v) :: r,m,h=>by
  unfold bindC
  rw [xX fun w hw=>h w (aO _ hw)]
  split
  ·rfl
  ·have:x ≠ n:=by rintro rfl;exact h v aM
   simp [this]
theorem xY {kindOf:Str→Option NameKind} {x:Str} {v:Value}:∀ {P:List Str} {vs:List Value} {i:Nat} {m:Str→Option Value},P.Nodup→P[i]? = some x→vs[i]? = some v→kindOf x=some .local →
 bindL kindOf (P.zip vs) m x=some v
 | [],_,_,_,_,h,_,_=>by simp at h
 | _ :: _,[],_,_,_,_,h,_=>by simp at h
 | p :: P,w :: vs,0,m,nd,h1,h2,hk=>by
  simp at h1 h2;subst h1;subst h2
  show bindL kindOf ((p,w) :: P.zip vs) m p=_
  unfold bindL
  rw [xW fun v hv=>(bU.mp nd).1 (pR hv).1,if_pos hk]
  simp
 | p :: P,w :: vs,i + 1,m,nd,h1,h2,hk=>by
  show bindL kindOf ((p,w) :: P.zip vs) m x=_
  unfold bindL
  exact xY (i:=i) (bU.mp nd).2 (by simpa using h1) (by simpa using h2) hk
theorem xZ {kindOf:Str→Option NameKind} {x:Str} {v:Value}:∀ {P:List Str} {vs:List Value} {i:Nat} {m:Str→Option Value},P.Nodup→P[i]? = some x→vs[i]? = some v→kindOf x ≠ some .local →
 bindC kindOf (P.zip vs) m x=some v
 | [],_,_,_,_,h,_,_=>by simp at h
 | _ :: _,[],_,_,_,_,h,_=>by simp at h
 | p :: P,w :: vs,0,m,nd,h1,h2,hk=>by
  simp at h1 h2;subst h1;subst h2
  show bindC kindOf ((p,w) :: P.zip vs) m p=_
  unfold bindC
  rw [xX fun v hv=>(bU.mp nd).1 (pR hv).1,if_neg hk]
  simp
 | p :: P,w :: vs,i + 1,m,nd,h1,h2,hk=>by
  show bindC kindOf ((p,w) :: P.zip vs) m x=_
  unfold bindC
  exact xZ (i:=i) (bU.mp nd).2 (by simpa using h1) (by simpa using h2) hk
def start (N:List Str) (vs:List V):St:=vs.map some++bG (N.length - vs.length) none
def Al (CX:CXT) (P:Program) (w:World) (K:PySem.W.Frag) (mg:Str→Option Value) (base:Heap) (N:List Str) (qual:Str) (scope:Scope) (f:Addr) (cd:Value) (A:Around) (outer:List Env) (s:Shared) (H:Hp) (E:XK):Cx where
 prog:=P
 w:=w
 K:=K
 mg:=mg
 base:=base
 A:=A.deeper (envOfC qual scope s.heap.objs.size f cd)
 N:=N
 s₀:=s
 H₀:=H
 env:=envOfC qual scope s.heap.objs.size f cd
 outer:=outer
 stack:=envOfC qual scope s.heap.objs.size f cd :: outer
 ex:=[]
 calm:=true
 fn:=fun _=>true
 pn:=[]
 xe:=fun e s'=>wpAny (model P w) (A.deeper (envOfC qual scope s.heap.objs.size f cd)) (leaving (envOfC qual scope s.heap.objs.size f cd) e) (fun _ s''=>CX outer H s E e s'') (fun e' s''=>CX outer H s E e' s'') s'
theorem Am {sc:Scope} {n:Nat} {x:Str} (h:sc.names.lookup x=some .cell):∃ c,(cellsFrom n sc.names []).lookup x=some c:=by
 have q:=PySem.W.cellsFrom_some sc.names n [] (.inl h)
 exact cR.mp q
theorem Gu {CX:CXT} {P:Program} {w:World} {K:PySem.W.Frag} {mg:Str→Option Value} {base:Heap} {N ps:List Str} {qual:Str} {scope:Scope} {f:Addr} {cd:Value} {A:Around} {outer:List Env} {s s1:Shared} {H:Hp} {E:XK} {us:List Value} {vs:List V}
 (S:FnScope N ps scope) (hd:A.handled=none) (e0:Env0 P w K mg base A outer s H) (hl:vs.length=ps.length) (r:Vals vs us)
 (x:InCallC s s.heap.objs.size (bindL (envOfC qual scope s.heap.objs.size f cd).kindOf (ps.zip us) fun _=>none) (cellsFrom (s.heap.objs.size + 1) scope.names []) (bindC (envOfC qual scope s.heap.objs.size f cd).kindOf (ps.zip us) fun _=>none) s1) :
 Inv (Al CX P w K mg base N qual scope f cd A outer s H E) [] (start N vs) H s1:=by
 have hpl:ps.length ≤ N.length:=by have:=congrArg List.length S.pre;rw [iW] at this;omega
 obtain ⟨h1,tk,rfl,hk⟩:=x.done
 have noA:∀ b:Addr,b ∉ (Al CX P w K mg base N qual scope f cd A outer s H E).ex:=fun b z=>absurd (show b ∈ ([]:List Addr) from z) (by simp)
 refine ⟨⟨e0.mod,S.kind,rfl,rfl,aZ _,fun y z c h1 h2=>?_,fun y hy=>?_,fun y c _ h=>?_,fun _=>hd,Around.frames_deeper e0.frames,.inr ⟨rfl,rfl⟩,fun b z=>absurd z (noA b),e0.bs,e0.bsz,fun b _ _=>noA b,fun b z=>absurd z (noA b),e0.funs,e0.frf⟩,
  rfl,e0.bare,Un.kept hk,⟨_,x.toInCall.ns,fun i y v h1 h2 h3=>?_⟩,fun y c h=>⟨_,x.cell y c h⟩,e0.hok.fresh (aZ _),fun y c h=>?_,fun p hp=>absurd (show p ∈ ([]:List (Addr × Obj)) from hp) (by simp),e0.hok.kept hk,?_⟩
 ·exact name_of_addr x.apart (PySem.mem_of_lookup h1) (PySem.mem_of_lookup h2)
 ·have hy:scope.names.lookup y=some .cell∨scope.names.lookup y=some .free:=hy
  rcases hy with hy | hy
  ·exact Am hy
  ·exact absurd rfl (S.nofree _ (PySem.mem_of_lookup hy))
 ·exact fV (x.above y c (PySem.mem_of_lookup h))
 ·have hi:i < vs.length:=by
   unfold start at h2
   by_cases hi:i < vs.length
   ·exact hi
   ·rw [cM (by simpa using hi)] at h2
    rw [gB] at h2
    split at h2 <;> cases h2
  have ha:vs[i]? = some v:=by
   unfold start at h2
   rw [dw (by simpa using hi),aQ] at h2
   cases e:vs[i]? with
   | none=>rw [e] at h2;cases h2
   | some a=>rw [e] at h2;cases h2;rfl
  obtain ⟨u,hu,rv⟩:=r.get ha
  have hp:ps[i]? = some y:=by
   rw [← S.pre,oA (by omega)];exact h1
  have ndP:ps.Nodup:=by rw [← S.pre];exact S.nd.sublist (List.take_sublist _ _)
  refine ⟨u,rv,?_⟩
  rcases S.par y (eX hp) with k | k
  ·exact .inl ⟨k,xY ndP hp hu k⟩
  ·obtain ⟨c,e⟩:=Am (n:=s.heap.objs.size + 1) k
   refine .inr ⟨.inl k,c,e,?_⟩
   have q:=x.cell y c e
   rw [xZ ndP hp hu (by show scope.names.lookup y ≠ _;rw [k];decide)] at q
   exact q
 ·exact e0.hok.fresh (fV (x.above y c (PySem.mem_of_lookup h)))
 ·unfold start
  show _=N.length
  rw [bH,aG,cA]
  omega
theorem QC {CX:CXT} {P:Program} {w:World} {K:PySem.W.Frag} {mg:Str→Option Value} {base:Heap} {k:Nat} {f:Addr} {name qual:Str} {params:Arguments} {body:List Stmt} {scope:Scope} {dV kV doc pm cdv ct oc:Value} {an od:Option Addr}
 {osl:Array (Option Value)} {N ps:List Str} {sp:Sp} (lk:K.lookup f=some ⟨oc,od,.func (PySem.W.fnOf name qual params body scope dV kV doc pm an cdv ct),osl⟩) (hcd:PySem.W.codeIn K cdv qual=true) (S:FnScope N ps scope)
 (len:∀ vs H Q E,sp vs H Q E→vs.length=ps.length)
 (hbody:∀ (A:Around) (outer:List Env) (s:Shared) (H:Hp) (vs:List V) (Q:VK) (E:XK),Room k (A.deeper (envOfC qual scope s.heap.objs.size f cdv))→sp vs H Q E →
  ∃ t,PSs (Al CX P w K mg base N qual scope f cdv A outer s H E) body t∧t { nx:=fun _ H'=>Q .non H',rt:=Q } (start N vs) H) :
 FnOk P w K mg base CX (k + 1) f (PySem.W.fnOf name qual params body scope dV kV doc pm an cdv ct) ps sp:=by
 refine ⟨len,fun A outer s H args us vs Q E hr e0 hb r hsp=>?_⟩
 have hl:=len _ _ _ _ hsp
 have KX:K.In s.heap:=e0.mod.kin.keeps fun b o e=>(e0.bs b o e).1
 have lim:s.heap.NoLimit:=e0.mod.nolimit.keeps fun b o e=>(e0.bs b o e).1
 have hkind:∀ y ∈ ps.zip us,scope.names.lookup y.1=some .local∨(scope.names.lookup y.1=some .cell∧((cellsFrom (s.heap.objs.size + 1) scope.names []).lookup y.1).isSome=true):=fun ⟨n,v⟩ hy=>by
  rcases S.par n (pR hy).1 with q | q
  ·exact .inl q
  ·exact .inr ⟨q,PySem.W.cellsFrom_some _ _ _ (.inl q)⟩
 refine codeAny_call_function hr.depth (KX _ _ lk) rfl S.co S.gen rfl (PySem.W.codeRec_of KX hcd) (hb _ _ _ _ ?_)
 refine wpAny_newFunctionEnv_cells S.kind hkind fun env he s1 x=>?_
 subst he
 refine ⟨lim.keeps x.toInCall.keep,codeAny_func ?_⟩
 obtain ⟨t,ht,hq⟩:=hbody A outer s H vs Q E (hr.deeper _) hsp
 have I:Inv (Al CX P w K mg base N qual scope f cdv A outer s H E) [] (start N vs) H s1:=Gu S hr.hd e0 hl r x
 refine wpAny_mono (ht [] s1 (start N vs) H _ I hq) (fun fl s' hs=>?_) fun e s' hs=>hs
 have fin:∀ {σ':St} {H':Hp} {v:V} {u:Value},Inv (Al CX P w K mg base N qual scope f cdv A outer s H E) [] σ' H' s'→RelV v u→Q v H'→CE outer P w H s Q u s' :=
  fun {σ' H' v u} J rv q=>⟨v,H',J.os,J.bare,J.base,J.hok,rv,q⟩
 cases fl with
 | ret u =>
  obtain ⟨v,σ',H',J,rv,q⟩:=hs
  exact fin J rv q
 | next =>
  obtain ⟨σ',H',J,q⟩:=hs
  exact fin (v:=V.non) (u:=Value.none) J rfl q
 | brk =>
  obtain ⟨_,_,_,q⟩:=hs
  exact False.elim q
 | cont =>
  obtain ⟨_,_,_,q⟩:=hs
  exact False.elim q
end L2
namespace L2
open PySem PySem.Spec PyProof.Rows
section
variable {X:Cx} {x:Str} {p pos:Pos} {e:Expr} {es:List Expr} {t:TA} {id T:String} {r:List V→Hp→VK→Prop}
def tCB (r:List V→Hp→VK→Prop) (t:TA):TE:=fun σ H Q=>t σ H fun vs H1=>r vs H1 Q
theorem oN (hc:nu X (.builtin id) r) (hg:Gl X x) (hm:X.mg x=none) (hv:bootBuiltins x=some (.builtin id)) (ha:PA X (e :: es) t) (hn:x ≠ "__name__" := by decide) (hdb:(x == ("__debug__" : Str))=false:=by decide)
 (he:starEach (e :: es) X.env=(false,eval e X.env) :: starEach es X.env:=by rfl) (hpl:(backTo pos (starEach es X.env)).any (·.1)=false:=by rfl):PE X (.Call (.Name x p) (e :: es) [] pos) (tCB r t):=by
 intro pins s σ H Q I h
 refine wpAny_Call_Name_kw (rN I hg hm hv ?_ hn hdb)
 exact PyProof.Rows.callWith_builtin1 (thn (ha pos pins s σ H _ I h) fun us s1 ⟨vs,H1,I1,r1,q1⟩=>hc pins s1 σ H1 vs us Q I1 r1 q1) he hpl
theorem yc (hc:nu X (.type T) r) (hg:Gl X x) (hm:X.mg x=none) (hv:bootBuiltins x=some (.type T)) (ha:PA X (e :: es) t) (hn:x ≠ "__name__" := by decide) (hdb:(x == ("__debug__" : Str))=false:=by decide)
 (he:starEach (e :: es) X.env=(false,eval e X.env) :: starEach es X.env:=by rfl) (hpl:(backTo pos (starEach es X.env)).any (·.1)=false:=by rfl):PE X (.Call (.Name x p) (e :: es) [] pos) (tCB r t):=by
 intro pins s σ H Q I h
 refine wpAny_Call_Name_kw (rN I hg hm hv ?_ hn hdb)
 exact PyProof.Rows.callWith_type1 (thn (ha pos pins s σ H _ I h) fun us s1 ⟨vs,H1,I1,r1,q1⟩=>hc pins s1 σ H1 vs us Q I1 r1 q1) he hpl
end
end L2
namespace HT
open PySem PyProof.Rows
section
open PySem.SeqAt
open PySem.AutoSeq1 (wpAny_loadPart')
open PySem.MeetsSeq PySem.MeetsSeq2 PySem.MeetsSeq3
end
section
variable {prog:Program} {w:World} {A:Around} {E:Value→Shared→Prop} {s:Shared}
def sIx (n d:Nat):Option Int→Nat
 | none=>d
 | some v=>if v < 0 then (v + (n:Int)).toNat else min v.toNat n
end
end HT
namespace L2
open PySem PySem.Spec PyProof.Rows
abbrev TO:=St→Hp→(Option Int→Hp→Prop)→Prop
def PO (X:Cx) (e:Option Expr) (t:TO):Prop :=
 ∀ (pins:List (Addr × Obj)) (s:Shared) (σ:St) (H:Hp) (Q:Option Int→Hp→Prop),Inv X pins σ H s→t σ H Q →
  wpAny (model X.prog X.w) X.A (evalPart e X.env) (fun u s'=>∃ o H',Inv X pins σ H' s'∧IsPart u o∧Q o H') X.xe s
def Mz:TO:=fun _ H Q=>Q none H
def Vi (t:TE):TO:=fun σ H Q=>t σ H fun x H1=>∃ i,x = .int i∧Q (some i) H1
section
variable {X:Cx} {e:Expr} {te:TE} {lo hi:Option Expr} {tl th:TO} {pos p2:Pos}
theorem MF:PO X none Mz:=by
 intro pins s σ H Q I h
 rw [evalPart_none]
 exact wpAny_pure ⟨none,H,I,.none,h⟩
theorem MJ (h:PE X e te):PO X (some e) (Vi te):=by
 intro pins s σ H Q I hw
 rw [evalPart_some]
 refine thn (h pins s σ H _ I hw) fun u s1 ⟨x,H1,I1,r1,q1⟩=>?_
 obtain ⟨i,rfl,q⟩:=q1
 obtain ⟨t,rfl⟩:=r1
 exact ⟨some i,H1,I1,.int i t,q⟩
def SlR (X:Cx) (r:V→Option Int→Option Int→Hp→VK→Prop):Prop :=
 ∀ (pins:List (Addr × Obj)) (s:Shared) (σ:St) (H:Hp) (x:V) (v vl vu:Value) (lo hi:Option Int) (sl:Addr) (Q:VK),Inv X pins σ H s→RelV x v→s.heap.IsSliceOf sl vl vu .none→IsPart vl lo→IsPart vu hi→r x lo hi H Q →
  ∃ T id,typeLookup (.type T) "__getitem__" = pure (some (.builtin id))∧s.TypeIs v T∧wpAny (model X.prog X.w) X.A (getItem v (.ref sl)) (EP X pins σ Q) X.xe s
def tSl (r:V→Option Int→Option Int→Hp→VK→Prop) (te:TE) (tl th:TO):TE:=fun σ H Q=>te σ H fun x H1=>tl σ H1 fun l H2=>th σ H2 fun u H3=>r x l u H3 Q
theorem IK {r:V→Option Int→Option Int→Hp→VK→Prop} (hr:SlR X r) (he:PE X e te) (hl:PO X lo tl) (hu:PO X hi th):PE X (.Subscript e (.Slice lo hi none p2) pos) (tSl r te tl th):=by
 intro pins s σ H Q I h
 refine Subscript_ (thn (he pins s σ H _ I h) fun v s1 ⟨x,H1,I1,r1,q1⟩=>?_)
 refine wpAny_Slice (thn (hl pins s1 σ H1 _ I1 q1) fun vl s2 ⟨l,H2,I2,pl,q2⟩=>thn (hu pins s2 σ H2 _ I2 q2) fun vu s3 ⟨u,H3,I3,pu,q3⟩=>?_)
 rw [evalPart_none]
 refine wpAny_pure ?_
 have I4:Inv X pins σ H3 { s3 with heap:=s3.heap.push { cls:=.type "slice", data:=.fields #[vl,vu,.none] } }:=I3.kept (t':=s3.toks) fun b ob q=>Heap.get?_push_of_some _ q
 obtain ⟨T,id,hT,ht,hg⟩:=hr pins { s3 with heap:=s3.heap.push { cls:=.type "slice", data:=.fields #[vl,vu,.none] } } σ H3 x v vl vu l u s3.heap.objs.size Q I4 r1 (Heap.IsSliceOf.new ..) pl pu q3
 show wpAny (model X.prog X.w) X.A (subscriptTail e (.Slice lo hi none p2) v (.ref s3.heap.objs.size)) (EP X pins σ Q) X.xe { s3 with heap:=s3.heap.push { cls:=.type "slice", data:=.fields #[vl,vu,.none] } }
 exact tail_any (ops:=[.ref s3.heap.objs.size,v]) ht hT hg (by with_unfolding_all rfl)
def Gv (xs:List V) (lo hi:Option Int):List V:=(xs.drop (HT.sIx xs.length 0 lo)).take (HT.sIx xs.length xs.length hi - HT.sIx xs.length 0 lo)
theorem Ao (xs:List V) (lo hi:Option Int):(Gv xs lo hi).length ≤ xs.length:=by
 unfold Gv
 rw [iW,List.length_drop]
 omega
end
end L2
namespace L2
open PySem PySem.Spec PyProof.Rows
def ixN (n:Nat) (i:Int):Option Nat:=if 0 ≤ i then (if i < n then some i.toNat else none) else if -(n:Int) ≤ i then some (i + n).toNat else none
def atI {α:Type} (xs:List α) (i:Int):Option α:=(ixN xs.length i).bind fun j=>xs[j]?
theorem Ep {n:Nat} {i:Int} {j:Nat} (h:ixN n i=some j):seqIndex? i n=some j∧j < n∧-(n:Int) ≤ i∧i < n:=by
 unfold ixN at h
 by_cases h0:0 ≤ i
 ·rw [if_pos h0] at h
  by_cases h1:i < n
  ·rw [if_pos h1] at h
   have e:i.toNat=j:=cV.inj h
   exact ⟨by rw [seqIndex_of h0 h1,e],by omega,by omega,h1⟩
  ·rw [if_neg h1] at h;cases h
 ·rw [if_neg h0] at h
  by_cases h1 : -(n:Int) ≤ i
  ·rw [if_pos h1] at h
   have e:(i + n).toNat=j:=cV.inj h
   exact ⟨by rw [seqIndex_neg (by omega) h1,e],by omega,h1,by omega⟩
  ·rw [if_neg h1] at h;cases h
theorem uH {α:Type} {xs:List α} {i:Int} {v:α} (h:atI xs i=some v):∃ j,seqIndex? i xs.length=some j∧xs[j]? = some v∧j < xs.length∧-(xs.length:Int) ≤ i∧i < xs.length:=by
 unfold atI at h
 cases e:ixN xs.length i with
 | none=>rw [e] at h;cases h
 | some j =>
  rw [e] at h
  obtain ⟨h1,h2,h3,h4⟩:=Ep e
  exact ⟨j,h1,h,h2,h3,h4⟩
def uI (b:Expr):Prop:=∀ o i,subscripted b false o i=operate [o,i] (getItem o i)
def IxR (X:Cx) (r:R2):Prop :=
 ∀ (value slice:Expr) (pins:List (Addr × Obj)) (s:Shared) (σ:St) (H:Hp) (x y:V) (v u:Value) (Q:VK),Inv X pins σ H s→RelV x v→RelV y u→r x y H Q →
  subscripted slice false v u=operate [v,u] (getItem v u)→wpAny (model X.prog X.w) X.A (subscriptTail value slice v u) (EP X pins σ Q) X.xe s
def MtR (X:Cx) (id:String) (r:V→List V→Hp→VK→Prop):Prop :=
 ∀ (pins:List (Addr × Obj)) (s:Shared) (σ:St) (H:Hp) (x:V) (xs:List V) (v:Value) (us:List Value) (Q:VK),Inv X pins σ H s→RelV x v→Vals xs us→r x xs H Q →
  wpAny (model X.prog X.w) X.A (call (.builtin id) (v :: us)) (EP X pins σ Q) X.xe s
section
variable {X:Cx} {a b:Expr} {ta tb:TE} {pos:Pos}
theorem IxR.or {r r':R2} (h:IxR X r) (h':IxR X r'):IxR X (fun x y H Q=>r x y H Q∨r' x y H Q):=by
 intro value slice pins s σ H x y v u Q I rx ry q hs
 rcases q with q | q
 ·exact h value slice pins s σ H x y v u Q I rx ry q hs
 ·exact h' value slice pins s σ H x y v u Q I rx ry q hs
theorem QD {r:R2} (hr:IxR X r) (ha:PE X a ta) (hb:PE X b tb) (hs:uI b):PE X (.Subscript a b pos) (tOp r ta tb):=by
 intro pins s σ H Q I h
 exact Subscript_ (Ru ha hb I h fun v u s2 x y H2 I2 rx ry q=>hr a b pins s2 σ H2 x y v u Q I2 rx ry q (hs _ _))
def Vj (K:PySem.W.Frag):R2:=fun x y H Q=>∃ p xs i v,x = .ref p∧y = .int i∧SqL K H p xs∧atI xs i=some v∧Q v H
def Vk (K:PySem.W.Frag):R2:=fun x y H Q=>∃ p xs i v,x = .ref p∧y = .int i∧SqT K H p xs∧atI xs i=some v∧Q v H
def Vl:R2:=fun x y H Q=>∃ z i c,x = .str z∧y = .int i∧z.length ≤ sizeLine∧atI z.cps.toList i=some c∧Q (.str ⟨#[c]⟩) H
theorem MK:IxR X (Vj X.K):=by
 intro value slice pins s σ H x y v u Q I rx ry h hs
 obtain ⟨p,xs,i,z,rfl,rfl,hq,he,q⟩:=h
 cases rx
 obtain ⟨t,rfl⟩:=ry
 obtain ⟨its,r,pl,hz⟩:=I.list hq
 obtain ⟨j,h1,h2,h3,h4,h5⟩:=uH he
 obtain ⟨w,ew,rw'⟩:=r.get h2
 have hl:=r.length
 have hn:=tQ
 have fin:EP X pins σ Q w s:=⟨z,H,I,rw',q⟩
 by_cases h0:0 ≤ i
 ·have hj:i.toNat=j:=by
   rw [seqIndex_of h0 h5] at h1
   exact cV.inj h1
  exact item_listR pl.isList h0 (by omega) (by rw [hj];simpa using ew) fin hs
 ·have hj:(i + (its.toArray.size:Int)).toNat=j:=by
   rw [seqIndex_neg (by omega) h4] at h1
   rw [bI,← hl]
   exact cV.inj h1
  exact subscriptTail_builtinR (x:=w) pl.isList.typeIs slot_list_getitem.lookup
   (wpAny_getItem_list_neg (Q:=fun r s'=>r=w∧EP X pins σ Q r s') pl.isList (by omega) (by rw [bI] <;> omega) (by omega) (by rw [hj];simpa using ew) ⟨rfl,fin⟩) hs
theorem RB:IxR X (Vk X.K):=by
 intro value slice pins s σ H x y v u Q I rx ry h hs
 obtain ⟨p,xs,i,z,rfl,rfl,hq,he,q⟩:=h
 cases rx
 obtain ⟨t,rfl⟩:=ry
 obtain ⟨its,r,pl,hz⟩:=I.tuple hq
 obtain ⟨j,h1,h2,h3,h4,h5⟩:=uH he
 obtain ⟨w,ew,rw'⟩:=r.get h2
 have hl:=r.length
 have hn:=tQ
 have fin:EP X pins σ Q w s:=⟨z,H,I,rw',q⟩
 exact subscriptTail_builtinR (x:=w) pl.typeIs slot_tuple_getitem.lookup
  (getItem_tuple (j:=j) (Q:=fun r s'=>r=w∧EP X pins σ Q r s') pl (by omega) (by omega) (by rw [bI,← hl];exact h1) (by simpa using ew) ⟨rfl,fin⟩) hs
theorem RD:IxR X Vl:=by
 intro value slice pins s σ H x y v u Q I rx ry h hs
 obtain ⟨z,i,c,rfl,rfl,hz,he,q⟩:=h
 obtain ⟨t,rfl⟩:=rx
 obtain ⟨t',rfl⟩:=ry
 obtain ⟨j,h1,h2,h3,h4,h5⟩:=uH he
 have hl:z.cps.toList.length=z.length:=by simp [Str.length]
 rw [hl] at h1 h4 h5
 have hn:=tQ
 exact tail_any (typeIs_str s z t) slot_str_getitem.lookup (getItem_str (c:=c) (by
  have e1:decide (i < -(2 ^ 63:Int))=false:=dFa (by omega)
  have e2:decide (i ≥ 2 ^ 63)=false:=dFa (by omega)
  rw [e1,e2,Bool.or_false]) (by rw [h1];simpa using h2) ⟨.str ⟨#[c]⟩,H,I.tok _,⟨_,rfl⟩,q⟩) hs
def rIx (K:PySem.W.Frag):R2:=fun x y H Q=>Vj K x y H Q∨Vk K x y H Q∨Vl x y H Q
theorem IV:IxR X (rIx X.K):=MK.or (RB.or RD)
theorem Cw (its:List Value) (n j:Nat) (u:Value):Obj.mapSeq (·.setIfInBounds j u) { cls:=.type "list", data:=.seq its.toArray n } = { cls:=.type "list", data:=.seq (its.set j u).toArray n }:=by
 simp [Obj.mapSeq]
theorem Inv.lst {pins:List (Addr × Obj)} {σ:St} {H:Hp} {s:Shared} {p:Addr} {xs:List V} (I:Inv X pins σ H s) (h:H p=some (.lst xs)) :
 ∃ (its:List Value) (n:Nat),Vals xs its∧s.heap.get? p=some { cls:=.type "list", data:=.seq its.toArray n }∧xs.length ≤ sizeLine:=by
 obtain ⟨z,its,n,r,e⟩:=I.hok p _ h
 exact ⟨its,n,r,e,z⟩
theorem Inv.lstUpd {pins:List (Addr × Obj)} {σ:St} {H:Hp} {s:Shared} {p:Addr} {xs ys:List V} {its its':List Value} {n n':Nat} {f:Obj→Obj} (I:Inv X pins σ H s) (h:H p=some (.lst xs))
 (ho:s.heap.get? p=some { cls:=.type "list", data:=.seq its.toArray n }) (hf:f { cls:=.type "list", data:=.seq its.toArray n } = { cls:=.type "list", data:=.seq its'.toArray n' }) (r:Vals ys its') (hz:ys.length ≤ sizeLine) (t:Nat) :
 Inv X pins σ (upd H p (.lst ys)) { s with heap:=s.heap.update p f,toks:=t }:=by
 have e:(s.heap.update p f).get? p=some { cls:=.type "list", data:=.seq its'.toArray n' }:=by
  rw [Heap.get?_update_self f ho (by rw [hf] <;> rfl),hf]
 refine I.write (x:=p) (e:=p) (by rw [h];trivial) (.inl rfl) (fun b u hb q=>(Heap.get?_update_other _ _ (Ne.symm hb)).trans q) ⟨_,e⟩ ?_
 exact ⟨hz,its',n',r,e⟩
def Vm:V→V→V→Hp→(Hp→Prop)→Prop:=fun o i v H Q=>∃ p xs k j,o = .ref p∧i = .int k∧H p=some (.lst xs)∧ixN xs.length k=some j∧Q (upd H p (.lst (xs.set j v)))
theorem set_list:Rn X Vm:=by
 intro pins s σ H o i v ov iv u Q I ro ri rv h
 obtain ⟨p,xs,k,j,rfl,rfl,hp,hj,q⟩:=h
 cases ro
 obtain ⟨t,rfl⟩:=ri
 obtain ⟨its,n,r,ho,hz⟩:=I.lst hp
 obtain ⟨h1,h2,h3,h4⟩:=Ep hj
 have hl:=r.length
 have hn:=tQ
 have I':Inv X pins σ (upd H p (.lst (xs.set j v))) { s with heap:=s.heap.update p (Obj.mapSeq (·.setIfInBounds j u)) } :=
  I.lstUpd hp ho (Cw its n j u) (r.set rv j) (by rw [dF];exact hz) s.toks
 by_cases h0:0 ≤ k
 ·have hk:k.toNat=j:=by
   rw [seqIndex_of h0 h4] at h1
   exact cV.inj h1
  exact PySem.W.ki_setAt ho h0 (by omega) (by rw [bI,← hl];exact h4) (by rw [hk];exact ⟨_,I',q⟩)
 ·have hk:(k + (its.toArray.size:Int)).toNat=j:=by
   rw [seqIndex_neg (by omega) h3] at h1
   rw [bI,← hl]
   exact cV.inj h1
  exact PySem.W.ki_setBack ho (by omega) (by rw [bI,← hl];exact h3) (by omega) (by rw [hk];exact ⟨_,I',q⟩)
theorem yN (lo hi:Option Int) (n:Nat):(sliceBounds lo hi none n).1=((HT.sIx n 0 lo:Nat):Int)∧(sliceBounds lo hi none n).2.1=((HT.sIx n n hi:Nat):Int)∧(sliceBounds lo hi none n).2.2=1:=by
 refine ⟨?_,?_,rfl⟩
 ·cases lo with
  | none=>simp [sliceBounds,HT.sIx]
  | some i =>
   simp only [sliceBounds,HT.sIx,Option.getD_none,show (1:Int) > 0 by decide,if_true]
   by_cases h:i < 0
   ·simp only [h,if_true] <;> omega
   ·simp only [h,if_false] <;> omega
 ·cases hi with
  | none=>simp [sliceBounds,HT.sIx]
  | some i =>
   simp only [sliceBounds,HT.sIx,Option.getD_none,show (1:Int) > 0 by decide,if_true]
   by_cases h:i < 0
   ·simp only [h,if_true] <;> omega
   ·simp only [h,if_false] <;> omega
theorem wO (its:List Value) (lo hi:Option Int):slicePick its.toArray lo hi none=((its.drop (HT.sIx its.length 0 lo)).take (HT.sIx its.length its.length hi - HT.sIx its.length 0 lo)).toArray:=by
 obtain ⟨h1,h2,h3⟩:=yN lo hi its.toArray.size
 unfold slicePick
 rw [h1,h2,h3]
 simp only [sliceRange_one,pick_run,bI] <;> rfl
def Xx (K:PySem.W.Frag):V→Option Int→Option Int→Hp→VK→Prop:=fun x lo hi H Q=>∃ a xs,x = .ref a∧SqL K H a xs∧∀ p,H p=none→Q (.ref p) (upd H p (.lst (Gv xs lo hi)))
theorem MN:SlR X (Xx X.K):=by
 intro pins s σ H x v vl vu lo hi sl Q I rx hs pl pu h
 obtain ⟨a,xs,rfl,hx,q⟩:=h
 cases rx
 obtain ⟨its,r,ht,hz⟩:=I.list hx
 have hlen:=r.length
 refine ⟨"list", _,slot_list_getitem.lookup,ht.isList.typeIs,?_⟩
 refine wpAny_getItem_list_slice ht.isList hs pl pu .none (by simp) ?_ (by rw [bI] <;> omega)
 rw [wO,← hlen]
 refine ⟨.ref s.heap.objs.size,_,I.laid (t':=s.toks) (o:=.lst (Gv xs lo hi)) (fun b ob q=>Heap.get?_push_of_some _ q) (aZ _) ?_,rfl,q _ (I.hok.fresh (aZ _))⟩
 exact ⟨bM (Ao xs lo hi) hz,_,0,(r.drop (HT.sIx xs.length 0 lo)).take (HT.sIx xs.length xs.length hi - HT.sIx xs.length 0 lo),Heap.get?_push_size _ rfl⟩
theorem bV:nu X (.builtin "len") (fun xs H Q=>∃ p ys,xs=[.ref p]∧(SqL X.K H p ys∨SqT X.K H p ys)∧Q (.int ys.length) H):=by
 intro pins s σ H xs us Q I r h
 obtain ⟨p,ys,rfl,hq,q⟩:=h
 obtain ⟨u,rfl,rx⟩:=vals1 r
 cases rx
 have hn:=tQ
 rcases hq with hq | hq
 ·obtain ⟨its,r',pl,hz⟩:=I.list hq
  have hlen:=r'.length
  exact Calls.call_len_list pl.isList (by simp only [bI] <;> omega) ⟨.int ys.length,H,I.tok _,⟨s.toks + 1,by rw [bI,hlen]⟩,q⟩
 ·obtain ⟨its,r',pl,hz⟩:=I.tuple hq
  have hlen:=r'.length
  exact len_tuple pl (by simp only [bI] <;> omega) ⟨.int ys.length,H,I.tok _,⟨s.toks + 1,by rw [bI,hlen]⟩,q⟩
theorem yO:nu X (.type "list") (fun xs H Q=>∃ p ys,xs=[.ref p]∧(SqL X.K H p ys∨SqT X.K H p ys)∧∀ l,H l=none→Q (.ref l) (upd H l (.lst ys))):=by
 intro pins s σ H xs us Q I r h
 obtain ⟨p,ys,rfl,hq,q⟩:=h
 obtain ⟨u,rfl,rx⟩:=vals1 r
 cases rx
 have fin:∀ (its:List Value),Vals ys its→ys.length ≤ sizeLine→∀ (h':Heap) (c':Nat),(∀ b o',s.heap.get? b=some o'→h'.get? b=some o') →
  h'.get? s.heap.objs.size=some { cls:=.type "list", dict:=none,data:=.seq its.toArray c',slots:=#[] }→EP X pins σ Q (.ref s.heap.objs.size) { s with heap:=h' }:=fun its r' hz h' c' kp e =>
  ⟨.ref s.heap.objs.size,_,I.laid (t':=s.toks) kp (aZ _) (show gZ X.prog X.w _ h' _ (.lst ys) from ⟨hz,its,c',r',e⟩),rfl,q _ (I.hok.fresh (aZ _))⟩
 rcases hq with hq | hq
 ·obtain ⟨its,r',pl,hz⟩:=I.list hq
  have hlen:=r'.length
  obtain ⟨o,ho,hc,n,hd⟩:=pl.isList
  exact call_list_seq p (.inl rfl) ho hc hd (fun h' c' kp e=>fin its r' hz h' c' kp e) (by simp only [bI] <;> omega)
 ·obtain ⟨its,r',pl,hz⟩:=I.tuple hq
  have hlen:=r'.length
  obtain ⟨o,ho,hc,n,hd⟩:=pl
  exact call_list_seq p (.inr rfl) ho hc hd (fun h' c' kp e=>fin its r' hz h' c' kp e) (by simp only [bI] <;> omega)
def tyV (K:PySem.W.Frag) (T:String) (x:V) (H:Hp):Prop:=match x with
 | .str _=>T = "str"
 | .int _=>T = "int"
 | .ref p=>(T = "list" ∧ ∃ xs,SqL K H p xs)∨(T = "tuple" ∧ ∃ o,K.lookup p=some o∧o.cls = .type "tuple" ∧ o.dict=none) ∨
  (T = "dict" ∧ ((∃ kvs,H p=some (.dK kvs))∨∃ kvs,H p=some (.dT kvs)))∨(T = "set" ∧ ∃ S n,H p=some (.set S n))
 | _=>False
theorem IW {pins:List (Addr × Obj)} {σ:St} {H:Hp} {s:Shared} {T:String} {x:V} {v:Value} (I:Inv X pins σ H s) (r:RelV x v) (ty:tyV X.K T x H) :
 s.TypeIs v T∧∀ a,v = .ref a→∃ ob,s.heap.get? a=some ob∧ob.dict=none:=by
 cases x with
 | str z =>
  obtain ⟨t,rfl⟩:=r
  cases (show T = "str" from ty)
  exact ⟨typeIs_str s z t,fun _ e=>nomatch e⟩
 | int i =>
  obtain ⟨t,rfl⟩:=r
  cases (show T = "int" from ty)
  exact ⟨typeIs_int s i t,fun _ e=>nomatch e⟩
 | ref p =>
  cases r
  rcases ty with ⟨rfl,xs,hq⟩ | ⟨rfl,o,hk,hc,hd⟩ | ⟨rfl,hk⟩ | ⟨rfl,S,n,hk⟩
  ·obtain ⟨its,_,pl,_⟩:=I.list hq
   refine ⟨pl.isList.typeIs,fun a e=>?_⟩
   cases e
   obtain ⟨o,n,e,c,hd,_⟩:=pl
   exact ⟨o,e,hd⟩
  ·refine ⟨⟨o,I.kIn p o hk,hc⟩,fun a e=>?_⟩
   cases e
   exact ⟨o,I.kIn _ o hk,hd⟩
  ·have z:∃ o,s.heap.get? p=some o∧o.ExactDict:=by
    rcases hk with ⟨kvs,hk⟩ | ⟨kvs,hk⟩
    ·obtain ⟨_,_,_,_,o,_,_,e,ex,_⟩:=I.hok p _ hk
     exact ⟨o,e,ex⟩
    ·obtain ⟨_,_,_,_,o,_,_,e,ex,_⟩:=I.hok p _ hk
     exact ⟨o,e,ex⟩
   obtain ⟨o,e,ex⟩:=z
   refine ⟨⟨o,e,ex.1⟩,fun a e2=>?_⟩
   cases e2
   exact ⟨o,e,ex.2.1⟩
  ·obtain ⟨o,_,_,_,e,ex,_⟩:=I.hok p _ hk
   refine ⟨⟨o,e,ex.1⟩,fun a e2=>?_⟩
   cases e2
   exact ⟨o,e,ex.2.1⟩
 | _=>exact False.elim ty
def Xy (K:PySem.W.Frag) (T:String) (r:V→List V→Hp→VK→Prop) (to:TE):TE:=fun σ H Q=>to σ H fun x H1=>tyV K T x H1∧r x [] H1 Q
def tBM (K:PySem.W.Frag) (T:String) (r:V→List V→Hp→VK→Prop) (to:TE) (t:TA):TE:=fun σ H Q=>to σ H fun x H1=>tyV K T x H1∧t σ H1 fun xs H2=>r x xs H2 Q
variable {o e:Expr} {es:List Expr} {to:TE} {t:TA} {name:Str} {apos cpos:Pos} {T id:String} {r:V→List V→Hp→VK→Prop}
theorem RG (pa:PlainAttrs T) (slot:Slot T name id) (hty:typeOf (.builtin id)=pure (.type "method_descriptor")) (hm:MtR X id r) (ho:PE X o to)
 (hbase:attributeBase o name X.env (eval o X.env)=eval o X.env:=by rfl) (hline:(apos.endLine == cpos.line)=true:=by rfl):PE X (.Call (.Attribute o name apos) [] [] cpos) (Xy X.K T r to):=by
 intro pins s σ H Q I h
 refine wpAny_Call_method0_late hbase hline (thn (ho pins s σ H _ I h) fun v s1 ⟨x,H1,I1,r1,ty,q1⟩=>?_)
 obtain ⟨h1,h2⟩:=IW I1 r1 ty
 exact ⟨T,id,pa,slot,hty,h1,h2,Calls.callWith_builtin rfl (PySem.evalArgs_none (hm pins s1 σ H1 x [] v [] Q I1 r1 .nil q1))⟩
theorem QF (pa:PlainAttrs T) (slot:Slot T name id) (hty:typeOf (.builtin id)=pure (.type "method_descriptor")) (hm:MtR X id r) (ho:PE X o to) (ha:PA X (e :: es) t)
 (hbase:attributeBase o name X.env (eval o X.env)=eval o X.env:=by rfl)
 (hfew:((backTo cpos (starEach (e :: es) X.env)).all (fun x=>!x.1) && (backToKw cpos (keywordEach [] X.env)).all (fun x=>x.1.isSome)
  && decide ((e :: es).length + ([]:List Keyword).length + (if ([]:List Keyword).isEmpty then 0 else 1) < 30))=true:=by rfl)
 (hline:(apos.endLine == cpos.line)=true:=by rfl) (hs:starEach (e :: es) X.env=(false,eval e X.env) :: starEach es X.env:=by rfl) (hplain:(backTo cpos (starEach es X.env)).any (·.1)=false:=by rfl) :
 PE X (.Call (.Attribute o name apos) (e :: es) [] cpos) (tBM X.K T r to t):=by
 intro pins s σ H Q I h
 refine wpAny_Call_method_late hbase hfew hline rfl (thn (ho pins s σ H _ I h) fun v s1 ⟨x,H1,I1,r1,ty,q1⟩=>?_)
 obtain ⟨h1,h2⟩:=IW I1 r1 ty
 refine ⟨T,id,pa,slot,hty,h1,h2,?_⟩
 have hA:=ha cpos pins s1 σ H1 _ I1 q1
 rw [hs] at hA ⊢
 refine Calls.callWith_builtin (by show (false || (backTo cpos (starEach es X.env)).any (·.1))=false;rw [hplain] <;> rfl) (Calls.evalArgs_plain ?_)
 exact thn hA fun us s2 ⟨vs,H2,I2,r2,q2⟩=>hm pins s2 σ H2 x vs v us Q I2 r1 r2 q2
/- xs.append(e),list.index on a module's tuple .. are MtR facts of 06m -/
end
end L2
namespace L2
open PySem PySem.Spec PyProof.Rows
def MtM (X:Cx) (id:String) (r:V→List V→Hp→VK→Prop):Prop :=
 ∀ (pins:List (Addr × Obj)) (s:Shared) (σ:St) (H:Hp) (x:V) (xs:List V) (v:Value) (us:List Value) (Q:VK),Inv X pins σ H s→RelV x v→Vals xs us→r x xs H Q →
  wpAny (model X.prog X.w) X.A (call (.builtin id) (v :: us)) (EP X pins σ Q) X.xe s
theorem Vals.one:∀ {x:V} {us:List Value},Vals [x] us→∃ u,us=[u]∧RelV x u
 | _,_,.cons r .nil=>⟨_,rfl,r⟩
theorem Vals.two:∀ {x y:V} {us:List Value},Vals [x,y] us→∃ u v,us=[u,v]∧RelV x u∧RelV y v
 | _,_,_,.cons r (.cons q .nil)=>⟨_,_,rfl,r,q⟩
theorem Vals.zero:∀ {us:List Value},Vals [] us→us=[]
 | _,.nil=>rfl
theorem Vals.dropLast {xs:List V} {us:List Value} (h:Vals xs us):Vals xs.dropLast us.dropLast:=by
 induction h with
 | nil=>exact .nil
 | cons r t ih =>
  cases t with
  | nil=>exact .nil
  | cons q t'=>exact .cons r ih
theorem Vals.eraseIdx:∀ {xs:List V} {us:List Value} (i:Nat),Vals xs us→Vals (xs.eraseIdx i) (us.eraseIdx i)
 | _,_,_,.nil=>.nil
 | _,_,0,.cons _ t=>t
 | _,_,i + 1,.cons r t=>.cons r (Vals.eraseIdx i t)
theorem Vals.rep {xs:List V} {us:List Value} (h:Vals xs us):∀ k:Nat,Vals (bG k xs).flatten (bG k us).flatten
 | 0=>.nil
 | k + 1=>by
  rw [cY,cY,gC,gC]
  exact Vals.append h (Vals.rep h k)
theorem foldl_rep (its:List Value):∀ (k:Nat) (acc:List Value),
 uT (fun x1 x2=>x1++x2) acc.toArray (bG k its.toArray)=(acc++(bG k its).flatten).toArray
 | 0,acc=>by simp
 | k + 1,acc=>by
  have e:acc.toArray++its.toArray=(acc++its).toArray:=by simp
  have e2:(acc++its)++(bG k its).flatten=acc++(bG (k + 1) its).flatten:=by
   rw [cY,gC,jx]
  rw [← e2,← foldl_rep its k (acc++its),← e,cY,List.foldl_cons]
section
variable {X:Cx} {pins:List (Addr × Obj)} {σ:St} {H:Hp} {s:Shared} {l b:Addr} {xs ys zs:List V}
theorem Inv.lset {its its':List Value} {n:Nat} {f:Array Value→Array Value} {t':Nat} (I:Inv X pins σ H s) (hH:H l=some (.lst xs))
 (e:s.heap.get? l=some { cls:=.type "list", data:=.seq its.toArray n }) (hf:f its.toArray=its'.toArray) (hv:Vals ys its') (hz:ys.length ≤ sizeLine) :
 Inv X pins σ (upd H l (.lst ys)) { s with heap:=s.heap.update l (Obj.mapSeq f),toks:=t' }:=by
 have q:=PySem.IsL.update e f
 rw [hf] at q
 refine I.write (x:=l) (e:=l) (by rw [hH];exact trivial) (.inl rfl) (fun b' u hb hu=>(Heap.get?_update_other s.heap (Obj.mapSeq f) (Ne.symm hb)).trans hu) ⟨_,q⟩ ?_
 exact ⟨hz,its',_,hv,q⟩
theorem Inv.lnew {its:List Value} {t':Nat} (I:Inv X pins σ H s) (hv:Vals ys its) (hz:ys.length ≤ sizeLine) :
 Inv X pins σ (upd H s.heap.objs.size (.lst ys)) { s with heap:=s.heap.push { cls:=.type "list", data:=.seq its.toArray },toks:=t' } :=
 I.laid (fun _ _ q=>Heap.get?_push_of_some _ q) (aZ _) ⟨hz,its,0,hv,Heap.get?_push_size _ rfl⟩
theorem Inv.fresh (I:Inv X pins σ H s):H s.heap.objs.size=none:=I.hok.fresh (aZ _)
theorem Inv.lstM (I:Inv X pins σ H s) (hH:H l=some (.lst xs)):xs.length ≤ sizeLine∧∃ (its:List Value) (n:Nat),Vals xs its∧xs.length=its.length∧s.heap.get? l=some { cls:=.type "list", data:=.seq its.toArray n }:=by
 obtain ⟨z,its,n,r,e⟩:=I.hok l _ hH
 exact ⟨z,its,n,r,r.length,e⟩
theorem I_ {n:Nat} (h:n ≤ sizeLine):Builtin.List.listTooLong n=false:=by
 unfold Builtin.List.listTooLong
 exact dFa (by omega)
end
section
variable {X:Cx}
def MP:V→List V→Hp→VK→Prop:=fun x vs H Q=>∃ l xs y,x = .ref l∧vs=[y]∧H l=some (.lst xs)∧xs.length < sizeLine∧Q .non (upd H l (.lst (xs++[y])))
theorem yd:MtM X "list.append" MP:=by
 intro pins s σ H x vs v us Q I rx rv h
 obtain ⟨l,xs,y,rfl,rfl,hH,hz,q⟩:=h
 cases rx
 obtain ⟨u,rfl,ru⟩:=rv.one
 obtain ⟨z,its,n,r,hl,e⟩:=I.lstM hH
 refine call_meets F.slot_list_append ⟨_,e,rfl⟩ F.entry_list_append (F.args_list_append_2 _ _) (PySem.list_append l its.toArray n u (by rw [bI];omega)) ⟨e,?_⟩
 refine ⟨.non,_,I.lset (its':=its++[u]) hH e (by simp) (r.append (.cons ru .nil)) ?_,rfl,q⟩
 rw [bH,p7]
 omega
def Ja:V→List V→Hp→VK→Prop:=fun x vs H Q=>∃ l xs,x = .ref l∧vs=[]∧H l=some (.lst xs)∧Q .non (upd H l (.lst []))
theorem Jb:MtM X "list.clear" Ja:=by
 intro pins s σ H x vs v us Q I rx rv h
 obtain ⟨l,xs,rfl,rfl,hH,q⟩:=h
 cases rx
 have hus:=rv.zero
 subst hus
 obtain ⟨z,its,n,r,hl,e⟩:=I.lstM hH
 refine call_meets F.slot_list_clear ⟨_,e,rfl⟩ F.entry_list_clear (F.args_list_clear_1 _) (AutoSeq1.list_clear_list_0 l its.toArray n (by rw [bI];omega)) ⟨e,?_⟩
 exact ⟨.non,_,I.lset (its':=[]) (ys:=[]) hH e rfl .nil (eY _),rfl,q⟩
def Xz:R2:=fun x y H Q=>∃ l k xs,x = .ref l∧y = .int k∧H l=some (.lst xs)∧-(2 ^ 63) ≤ k∧k < 2 ^ 63∧xs.length * k.toNat ≤ sizeLine ∧
 ∀ p,H p=none→Q (.ref p) (upd H p (.lst (bG k.toNat xs).flatten))
theorem len_rep {α:Type} (xs:List α) (k:Nat):(bG k xs).flatten.length=k * xs.length:=by
 induction k with
 | zero=>simp
 | succ k ih=>rw [cY,gC,bH,ih,Nat.succ_mul,Nat.add_comm]
theorem RJ:OpR X (binaryOp .Mult) Xz:=by
 intro pins s σ H x y v u Q I rx ry h
 obtain ⟨l,k,xs,rfl,rfl,hH,h1,h2,hz,q⟩:=h
 cases rx
 obtain ⟨t,rfl⟩:=ry
 obtain ⟨z,its,n,r,hl,e⟩:=I.lstM hH
 have hlen:its.toArray.size * k.toNat ≤ sizeLine:=by rw [bI,← hl];exact hz
 have hcap:¬ its.toArray.size * k.toNat > (2 ^ 63 - 1) / 8:=by
  have:(sizeLine:Nat) ≤ (2 ^ 63 - 1) / 8:=by decide
  omega
 have hfit:¬ (!Builtin.List.listFitsIndex k)=true:=by
  rw [fitsIndex_both h1 h2]
  exact dN
 have hlong:¬ Builtin.List.listTooLong (its.toArray.size * k.toNat)=true:=by
  rw [I_ hlen]
  exact dN
 have hnew:uT (fun x1 x2=>x1++x2) #[] (bG (if its.toArray.isEmpty=true then 0 else k.toNat) its.toArray)=(bG k.toNat its).flatten.toArray:=by
  have f0:∀ m:Nat,uT (fun x1 x2=>x1++x2) #[] (bG m its.toArray)=(bG m its).flatten.toArray:=fun m=>by
   have:=foldl_rep its m []
   rw [mK] at this
   exact this
  rw [f0]
  cases its with
  | nil=>simp
  | cons a r'=>rw [if_neg (by simp)]
 refine wpAny_binaryOp_repeat_ref (T := "list") (U := "int") (by decide) ⟨_,e,rfl⟩ (fun s'=>typeIs_int s' k t) noFill_list_mul F.fills_int_mul F.slot_int_rmul repeat_list F.slot_int_index.lookup
  (call_meets F.slot_int_rmul (typeIs_int s k t) F.entry_int_rmul (F.args_int_rmul_2 _ _) (int___rmul___int_list k t l its.toArray n)
   ⟨e,rfl,⟨_,e,rfl⟩,call_meets F.slot_list_mul ⟨_,e,rfl⟩ F.entry_list_mul (F.args_list_mul_2 _ _) (AutoListH.list___mul___list_int_3 l its.toArray n k t hfit hcap hlong) ⟨e,?_⟩⟩)
 rw [hnew]
 exact ⟨.ref _,_,I.lnew (t':=s.toks) (r.rep k.toNat) (by rw [len_rep,Nat.mul_comm];exact hz),rfl,q _ I.fresh⟩
end
section
variable {prog:Program} {w:World} {A:Around} {E:Value→Shared→Prop} {s:Shared}
set_option maxRecDepth 100000 in
end
section
variable {X:Cx}
end
end L2
namespace Att
open PySem PySem.W PySem.Calls PyProof.Rows
theorem uD {P:Params} {h:Heap}:∀ (ns:List Int) (vs:List Value),WellAll P h vs (ns.map WData.int)→IntsAre vs ns:=by
 intro ns
 induction ns with
 | nil =>
  intro vs w
  rw [kJ] at w
  cases w
  exact .nil
 | cons n ns ih =>
  intro vs w
  rw [bJ] at w
  cases w with
  | cons a b =>
   cases a
   exact .cons _ _ (ih _ b)
theorem Gw {l:OpenLaw} {n:Nat} (hn:l.most=some n) {P:Params} {h:Heap} {args:List WData} {vals:List Value}
 (hpre:l.row.toRowW.claim.pre args=true) (hwl:WellAll P h vals args) :
 ∃ a vs ns,vals=[Value.ref a]∧args=[WData.list (ns.map WData.int)]∧h.get? a=some { cls:=.type "list", data:=.seq vs.toArray }∧IntsAre vs ns∧ns.length ≤ n:=by
 have hsh:WShape.hasAll [] args [.list .int]=true:=(pre_splitW hpre).1
 have hc:l.pre.holds [] { args:=args }=true:=(pre_splitW hpre).2
 obtain ⟨d,r,rfl,h1,h2⟩:=hasAllW_cons hsh
 obtain rfl:=hasAllW_nil h2
 obtain ⟨xs,rfl,h3⟩:=hasW_list h1
 obtain ⟨ns,rfl⟩:=items_int h3
 have hlen:ns.length ≤ n:=by
  unfold OpenLaw.pre at hc
  have h4:(WTm.not (.lt (.lit (.int (n:Int))) (.len (.arg 0)))).holds [] { args:=[.list (ns.map .int)] }=true:=by
   have h4:=(holds_andW hc).1
   rw [hn] at h4
   exact h4
  have h5:=condW_of h4 (w_not (w_lt w_lit (w_len_list (w_arg rfl))))
  rw [aG] at h5
  refine Nat.le_of_not_lt fun q=>?_
  have q':(n:Int) < ((ns.length:Nat):Int):=by omega
  first
   | (rw [dTr q'] at h5;exact absurd h5 (by decide))
   | (simp at h5;omega)
 cases hwl with
 | cons w1 w2 =>
  cases w2
  cases w1 with
  | list ho hall=>exact ⟨_,_,ns,rfl,rfl,ho,uD ns _ hall,hlen⟩
theorem Gx (l:OpenLaw) (args:List WData):l.row.toRowW.claim.post args (.bool true) args=true :=
 postW_of (r:=l.row.toRowW) (X:=(true == true))
  (show WShape.has [] (.bool true) .bool=true by first | rfl | decide | simp [WShape.has,WShape.arms,WShape.armsAll])
  (show (WTm.eq .res (.lit (.bool true))).value [] { args:=args,res:=some (.bool true),after:=args }=some (.bool (true == true)) from w_eq_bool (w_res rfl) w_lit) rfl
theorem Aq {l:OpenLaw} {n:Nat} {q:Program} {loose:List Str} {XP:(Str→Option Value)→Heap→Prop} {YP:World→Heap→Prop} {d:DefRec}
 (hn:l.most=some n) (hdf:d.params.defaults=[])
 (call:∀ (w:World) (s₀ s₁:Shared) (mg mb:Str→Option Value) (fa:Addr) (o:Obj) (pm cd doc:Value) (a:Addr) (vs:List Value) (ns:List Int),
  Ground q loose [] XP w s₀ mg mb s₁.heap→YP w s₁.heap →
  s₁.heap.get? fa=some o→o.data = .func (docDef d.name d.params d.body d.scope pm cd doc)→s₁.heap.CodeRec cd d.name→mg d.name=some (.ref fa) →
  s₁.heap.get? a=some { cls:=.type "list", data:=.seq vs.toArray }→IntsAre vs ns→ns.length ≤ n→s₁.gens = #[] →
  codeAny (model l.prog w) callerA (.call (.ref fa) ⟨[.ref a],[]⟩) (fun r s'=>r = .ok (.ret (.bool true))∧OldK s₁.heap s'.heap∧s'.os=s₁.os∧AllBare s'.gens) s₁) :
 WalkO q loose XP YP l.row.toRowW d [] (fun f vs=>PySem.call f vs):=by
 intro w s₀ s₁ mg mb G Y fa o pm cd doc dV kV ho hd hcd hD hmg hg args vals as hpre hlay hrd hwl hlo
 obtain rfl:dV = .none:=Dflts.none hD hdf
 obtain rfl:kV = .none:=Dflts.noKw hD
 obtain ⟨a,vs,ns,rfl,rfl,hobj,hints,hlen⟩:=Gw hn hpre hwl
 refine enter_call (codeAny_mono (call w s₀ s₁ mg mb fa o pm cd doc a vs ns G Y ho (fd_plain hd) hcd hmg hobj hints hlen hg) fun r s' hq=>?_)
 obtain ⟨rfl,h2,h3,h4⟩:=hq
 exact ⟨.inl ⟨.bool true,.bool true,[],rfl,fun _=>rfl,.bool true,Gx l _,fun _=>⟨List.Pairwise.nil,fun _ hm=>(nomatch hm)⟩⟩,h2,h3,h4⟩
section
variable {prog:Program} {w:World} {A:Around} {E:Value→Shared→Prop} {s:Shared} {K:Frag}
def kZ (h:Heap):Heap:={ h with objs:=#[] }
theorem pq (h:Heap) (b:Addr):(kZ h).get? b=none:=by
 cases e:(kZ h).get? b with
 | none=>rfl
 | some o=>exact absurd (Heap.lt_size e) (mL _)
theorem Cy {h:Heap} {L:Addr} {m:Str→Option Value} (n:h.Ns L m):Fr (kZ h) L h m :=
 ⟨n,fun b o e=>(by rw [pq] at e;cases e),eY _⟩
end
end Att
namespace L2
open PySem PySem.Spec PyProof.Rows
theorem m8:∀ {vs:List Value} {ns:List Int},IntsAre vs ns→Vals (ns.map V.int) vs
 | _,_,.nil=>.nil
 | _,_,.cons n t h=>.cons ⟨t,rfl⟩ (m8 h)
def Only (H:Hp):Prop:=∀ b,H b=none∨∃ o xs,H b=some (.frz o (.lst xs))
def uZ (ts:List (Addr × Str × Pos)) (H:Hp):Hp:=fun b=>match ts.find? (fun t=>t.1 == b) with
 | some t=>some (.tbl t.2.1 t.2.2)
 | none=>H b
theorem Jc (ts:List (Addr × Str × Pos)) (H:Hp) (b:Addr):(uZ ts H b=H b∧∀ t ∈ ts,t.1 ≠ b)∨∃ t ∈ ts,t.1=b∧uZ ts H b=some (.tbl t.2.1 t.2.2):=by
 unfold uZ
 cases e:ts.find? (fun t=>t.1 == b) with
 | none=>exact .inl ⟨rfl,fun t ht z=>by have:=rK.mp e t ht;simp [z] at this⟩
 | some t =>
  have h1:=nO e
  have h2:=List.find?_some e
  exact .inr ⟨t,h1,by simpa using h2,rfl⟩
theorem Jd {P:Program} {w:World} {K:PySem.W.Frag} {mg mb:Str→Option Value} {CX:CXT} {k:Nat} {fa a:Addr} {fd:FuncData} {x:Str} {sp:Sp} {s₁:Shared} {vs:List Value} {ns:List Int}
 (KX:K.In s₁.heap) (hns:s₁.heap.Ns mainGlobals mg) (hb:s₁.heap.Ns builtinsNs mb) (hbb:∀ x:Str,x ≠ "__name__" → mb x=bootBuiltins x) (hlim:s₁.heap.NoLimit) (hbm:∃ bm ob,mg "__builtins__" = some (.ref bm)∧bm ≠ builtinsNs∧s₁.heap.get? bm=some ob∧ob.cls = .type "module" ∧ ob.dict=some builtinsNs∧ob.data = .plain) (hg:s₁.gens = #[])
 (ha:s₁.heap.get? a=some { cls:=.type "list", data:=.seq vs.toArray }) (hi:IntsAre vs ns) (hl:ns.length ≤ sizeLine) (hr:Room k callerA)
 (F:∀ base:Heap,K.In base→base.Ns mainGlobals mg→FnOk P w K mg base CX k fa fd [x] sp) (hbind:∀ (s:Shared) (u:Value),BindsTo s fd ⟨[u],[]⟩ [(x,u)])
 (ts:List (Addr × Str × Pos)) (hts:∀ t ∈ ts,s₁.heap.get? t.1=some { cls:=.none,data:=.fields #[] }) (hCT:∀ t ∈ ts,isCodeTable s₁.heap t.1) (hKt:∀ t ∈ ts,K.lookup t.1=none) (htu:∀ t ∈ ts,∀ t' ∈ ts,t.1=t'.1→t=t')
 (hsp:∀ H:Hp,(∀ t ∈ ts,H t.1=some (.tbl t.2.1 t.2.2))→SqL K H a (ns.map V.int)→sp [.ref a] H (fun v _=>v = .bl true) fun _ _ _=>False)
 (hCX:∀ H e s',CX [] H s₁ (fun _ _ _=>False) e s'→False) :
 codeAny (model P w) callerA (.call (.ref fa) ⟨[.ref a],[]⟩) (fun r s'=>r = .ok (.ret (.bool true))∧OldK s₁.heap s'.heap∧s'.os=s₁.os∧AllBare s'.gens) s₁:=by
 have rv:=m8 hi
 have lenV:=hi.length
 have core:∀ H:Hp,(∀ b,H b=none∨(∃ o xs,H b=some (.frz o (.lst xs)))∨∃ t ∈ ts,t.1=b∧H b=some (.tbl t.2.1 t.2.2))→(∀ t ∈ ts,H t.1=some (.tbl t.2.1 t.2.2))→SqL K H a (ns.map V.int)→HOk P w H s₁.heap→(∀ b,H b ≠ none→b=a∨∃ t ∈ ts,t.1=b)→(H a ≠ none→K.lookup a=none) →
  codeAny (model P w) callerA (.call (.ref fa) ⟨[.ref a],[]⟩) (fun r s'=>r = .ok (.ret (.bool true))∧OldK s₁.heap s'.heap∧s'.os=s₁.os∧AllBare s'.gens) s₁:=by
  intro H hO hT hS hok hA hK
  have base_of:∀ {b:Addr} {o:Obj},s₁.heap.get? b=some o→H b=none→(yM s₁.heap H).get? b=some o:=fun e n=>HX e n
  have noA:∀ {b:Addr} {o:Obj} {es:Array DictEntry} {ep:Nat},s₁.heap.get? b=some o→o.data = .dict es ep→H b=none:=fun {b o es ep} e d=>by
   cases q:H b with
   | none=>rfl
   | some u =>
    rcases hA b (by rw [q];simp) with e' | ⟨t,ht,e'⟩
    case inr =>
     subst e'
     rw [hts t ht] at e;cases e
     have d':Data.fields #[]=Data.dict es ep:=d
     cases d'
    subst e'
    rw [ha] at e;cases e
    have d':Data.seq vs.toArray _=Data.dict es ep:=d
    cases d'
  have nsK:∀ {b:Addr} {m:Str→Option Value},s₁.heap.Ns b m→(yM s₁.heap H).Ns b m:=fun {b m} ⟨o,es,ep,e,d,r⟩=>⟨o,es,ep,base_of e (noA e d),d,r⟩
  have hKb:K.In (yM s₁.heap H):=fun b o e=>base_of (KX b o e) (by
   cases q:H b with
   | none=>rfl
   | some u =>
    rcases hA b (by rw [q];simp) with e' | ⟨t,ht,e'⟩
    ·subst e'
     rw [hK (by rw [q];simp)] at e;cases e
    ·subst e'
     rw [hKt t ht] at e;cases e)
  have hM:Mod K mg (yM s₁.heap H):=⟨hKb,nsK hns,⟨mb,nsK hb,hbb⟩,let ⟨mc,h1,h2⟩:=hlim;⟨mc,nsK h1,h2⟩,let ⟨bm,ob,g1,g2,g3,g4,g5,g6⟩:=hbm;⟨bm,ob,g1,g2,base_of g3 (by
   cases q:H bm with
   | none=>rfl
   | some u =>
    rcases hA bm (by rw [q];simp) with e' | ⟨t,ht,e'⟩
    ·rw [e',ha] at g3;cases g3
     have z:Value.type "list" = Value.type "module" := g4
     injection z with z
     exact absurd z (by decide)
    ·rw [← e',hts t ht] at g3;cases g3
     cases g4),g4,g5,g6⟩⟩
  have e0:Env0 P w K mg (yM s₁.heap H) callerA [] s₁ H:=⟨rfl,hM,fun b o e=>Mg e,Nat.le_of_eq (Gg _ _),trivial,fun b hb=>absurd (show b ∈ ([]:List Addr) from hb) (by simp),hok,.of_eq hg⟩
  refine codeAny_mono ((F _ hKb (nsK hns)).run callerA [] s₁ H ⟨[.ref a],[]⟩ [.ref a] [.ref a] _ _ hr e0 (hbind s₁ (.ref a)) (.cons rfl .nil) (hsp H hT hS)) fun r s' h=>?_
  cases r with
  | error e=>exact (hCX H e s' h).elim
  | ok fl =>
   cases fl with
   | next=>exact False.elim h
   | brk=>exact False.elim h
   | cont=>exact False.elim h
   | ret u =>
    obtain ⟨v,H',os,bare,un,hok',r',q⟩:=h
    have q':v = .bl true:=q
    subst q'
    obtain rfl:u=Value.bool true:=r'
    refine ⟨rfl,⟨fun b o e=>?_,fun b o e=>un.there b o e (by simp)⟩,os,bare⟩
    cases q:H b with
    | none=>exact .inl <| un.keep b o e q (by intro z;exact absurd (show b ∈ ([]:List Addr) from z) (by simp)) (by simp)
    | some u =>
     rcases hO b with z | ⟨ob,xs,z⟩ | ⟨t,ht,rfl,z⟩
     case inr.inr =>
      have z2:=un.tbls _ _ _ z
      obtain ⟨ps,e2,_⟩:=hok' _ _ z2
      rw [hts t ht] at e;cases e
      exact .inr (.inl ⟨hCT t ht,rfl,#[],ps,rfl,by rw [e2];simp⟩)
     ·rw [q] at z;cases z
     ·have z2:=un.frzs b ob _ z
      obtain ⟨e1,_⟩:=hok b _ z
      obtain ⟨e2,_⟩:=hok' b _ z2
      rw [e] at e1;cases e1
      exact .inl e2
 have core1:∀ H:Hp,Only H→SqL K H a (ns.map V.int)→HOk P w H s₁.heap→(∀ b,H b ≠ none→b=a)→(H a ≠ none→K.lookup a=none) →
  codeAny (model P w) callerA (.call (.ref fa) ⟨[.ref a],[]⟩) (fun r s'=>r = .ok (.ret (.bool true))∧OldK s₁.heap s'.heap∧s'.os=s₁.os∧AllBare s'.gens) s₁:=by
  intro H hO hS hok hA hK
  have na:∀ t ∈ ts,t.1 ≠ a:=fun t ht z=>by
   have z2:=hts t ht
   rw [z,ha] at z2
   cases z2
  have cs:∀ b,(uZ ts H b=H b∧∀ t ∈ ts,t.1 ≠ b)∨∃ t ∈ ts,t.1=b∧uZ ts H b=some (.tbl t.2.1 t.2.2):=Jc ts H
  have la:uZ ts H a=H a:=by
   rcases cs a with z | ⟨t,ht,z,_⟩
   ·exact z.1
   ·exact absurd z (na t ht)
  have noown:∀ b x,H b ≠ some (.own x):=fun b x z=>by rcases hO b with y | ⟨_,_,y⟩ <;> (rw [y] at z;cases z)
  have notup:∀ b x,H b ≠ some (.tup x):=fun b x z=>by rcases hO b with y | ⟨_,_,y⟩ <;> (rw [y] at z;cases z)
  refine core (uZ ts H) (fun b=>?_) (fun t ht=>?_) ?_ (fun b u z=>?_) (fun b z=>?_) (fun z=>hK (by rw [← la];exact z))
  ·rcases cs b with z | ⟨t,ht,z1,z2⟩
   ·rcases hO b with y | y
    ·exact .inl (z.1.trans y)
    ·obtain ⟨o,xs,y⟩:=y
     exact .inr (.inl ⟨o,xs,z.1.trans y⟩)
   ·exact .inr (.inr ⟨t,ht,z1,z2⟩)
  ·rcases cs t.1 with z | ⟨t',ht',z1,z2⟩
   ·exact absurd rfl (z.2 t ht)
   ·have:=htu t' ht' t ht z1
    subst this
    exact z2
  ·rcases hS with (z | ⟨o,z⟩) | z
   ·exact .inl (.inl (by rw [la];exact z))
   ·exact .inl (.inr ⟨o,by rw [la];exact z⟩)
   ·exact .inr z
  ·rcases cs b with y | ⟨t,ht,z1,z2⟩
   ·rw [y.1] at z
    exact (hok b u z).stay (fun _ _ _ q=>q) (fun c q=>absurd q (noown c b)) fun c xs q=>absurd q (notup c xs)
   ·rw [z2] at z
    cases z
    subst z1
    exact ⟨#[],hts t ht,.inl rfl⟩
  ·rcases cs b with y | ⟨t,ht,z1,z2⟩
   ·exact .inl (hA b (by rw [← y.1];exact z))
   ·exact .inr ⟨t,ht,z1⟩
 cases hk:K.lookup a with
 | some o =>
  have e:=KX a o hk
  rw [ha] at e
  cases e
  refine core1 (fun _=>none) (fun _=>.inl rfl) (.inr ⟨_,vs.toArray,_,hk,rfl,rfl,rfl,by rw [bI,lenV];exact hl,by simpa using rv⟩) (fun b u z=>by have z':(none:Option HO)=some u:=z;cases z') (fun b z=>absurd rfl z) fun z=>absurd rfl z
 | none =>
  refine core1 (fun b=>if b=a then some (.frz { cls:=.type "list", data:=.seq vs.toArray } (.lst (ns.map V.int))) else none) (fun b=>?_) (.inl (.inr ⟨{ cls:=.type "list", data:=.seq vs.toArray },if_pos rfl⟩)) (fun b u z=>?_) (fun b z=>?_) fun _=>hk
  ·by_cases hb:b=a
   ·exact .inr ⟨_,_,if_pos hb⟩
   ·exact .inl (if_neg hb)
  ·by_cases hb:b=a
   ·have z':=(if_pos hb).symm.trans z
    cases z'
    subst hb
    exact ⟨ha,by rw [aG];exact hl,vs,_,rv,ha⟩
   ·have z':=(if_neg hb).symm.trans z
    cases z'
  ·by_cases hb:b=a
   ·exact hb
   ·exact absurd (if_neg hb) z
end L2
namespace L2
open PySem PySem.Spec PyProof.Rows
abbrev KOf {K:PySem.W.Frag} {h:Heap} (_:K.In h):PySem.W.Frag:=K
theorem M4 {l:PySem.W.OpenLaw} {n k:Nat} {q:Program} {loose:List Str} {XP:(Str→Option Value)→Heap→Prop} {YP:World→Heap→Prop} {d:DefRec} {K:Params→PySem.W.Frag} {CX:World→CXT} {sp:World→Sp} {x:Str}
 (hn:l.most=some n) (hn2:n ≤ sizeLine) (hdf:d.params.defaults=[]) (hr:Room k callerA)
 (hY:∀ (w:World) (h:Heap),YP w h→(K w.params).In h)
 (F:∀ (w:World) (mg:Str→Option Value) (fa:Addr) (h:Heap),(K w.params).In h→h.Ns mainGlobals mg→mg d.name=some (.ref fa) →
  ∃ fd:FuncData,(∀ (s:Shared) (u:Value),BindsTo s fd ⟨[u],[]⟩ [(x,u)]) ∧
   ∀ base:Heap,(K w.params).In base→base.Ns mainGlobals mg→FnOk l.prog w (K w.params) mg base (CX w) k fa fd [x] (sp w))
 (ts:List (Addr × Str × Pos)) (hts:∀ (w:World) (h:Heap),YP w h→(∀ t ∈ ts,h.get? t.1=some { cls:=.none,data:=.fields #[] })∧(∀ t ∈ ts,isCodeTable h t.1)∧∀ t ∈ ts,(K w.params).lookup t.1=none) (htu:∀ t ∈ ts,∀ t' ∈ ts,t.1=t'.1→t=t')
 (hsp:∀ (w:World) (H:Hp) (a:Addr) (ns:List Int),ns.length ≤ n→(∀ t ∈ ts,H t.1=some (.tbl t.2.1 t.2.2))→SqL (K w.params) H a (ns.map V.int)→sp w [.ref a] H (fun v _=>v = .bl true) fun _ _ _=>False)
 (hCX:∀ (w:World) (H:Hp) (s:Shared) (e:Value) (s':Shared),CX w [] H s (fun _ _ _=>False) e s'→False) :
 PySem.W.WalkO q loose XP YP l.row.toRowW d [] (fun f vs=>PySem.call f vs):=by
 refine Att.Aq hn hdf fun w s₀ s₁ mg mb fa o pm cd doc a vs ns G Y ho hd hcd hmg hobj hints hlen hg=>?_
 have KX:=hY w _ Y
 obtain ⟨fd,hb,hF⟩:=F w mg fa _ KX G.T.g hmg
 exact Jd KX G.T.g G.T.b G.T.builtins G.T.nolimit G.T.bmain hg hobj hints (bM hlen hn2) hr hF hb ts (hts w _ Y).1 (hts w _ Y).2.1 (hts w _ Y).2.2 htu (fun H hO hS=>hsp w H a ns hlen hO hS) fun H e s'=>hCX w H s₁ e s'
theorem Je {l:PySem.W.OpenLaw} {n k:Nat} {q:Program} {loose:List Str} {XP:(Str→Option Value)→Heap→Prop} {YP:World→Heap→Prop} {d:DefRec} {K:Params→PySem.W.Frag} {CX:CXT} {sp:PySem.W.Frag→Sp} {x:Str}
 (hn:l.most=some n) (hn2:n ≤ sizeLine) (hdf:d.params.defaults=[]) (hr:Room k callerA)
 (hY:∀ (w:World) (h:Heap),YP w h→(K w.params).In h)
 (F:∀ (w:World) (mg:Str→Option Value) (fa:Addr) (h:Heap),(K w.params).In h→h.Ns mainGlobals mg→mg d.name=some (.ref fa) →
  ∃ fd:FuncData,(∀ (s:Shared) (u:Value),BindsTo s fd ⟨[u],[]⟩ [(x,u)]) ∧
   ∀ base:Heap,(K w.params).In base→base.Ns mainGlobals mg→FnOk l.prog w (K w.params) mg base CX k fa fd [x] (sp (K w.params)))
 (ts:List (Addr × Str × Pos)) (hts:∀ (w:World) (h:Heap),YP w h→(∀ t ∈ ts,h.get? t.1=some { cls:=.none,data:=.fields #[] })∧(∀ t ∈ ts,isCodeTable h t.1)∧∀ t ∈ ts,(K w.params).lookup t.1=none) (htu:∀ t ∈ ts,∀ t' ∈ ts,t.1=t'.1→t=t')
 (hsp:∀ (K:PySem.W.Frag) (H:Hp) (a:Addr) (ns:List Int),ns.length ≤ n→(∀ t ∈ ts,H t.1=some (.tbl t.2.1 t.2.2))→SqL K H a (ns.map V.int)→sp K [.ref a] H (fun v _=>v = .bl true) fun _ _ _=>False)
 (hCX:∀ (H:Hp) (s:Shared) (e:Value) (s':Shared),CX [] H s (fun _ _ _=>False) e s'→False) :
 PySem.W.WalkO q loose XP YP l.row.toRowW d [] (fun f vs=>PySem.call f vs) :=
 M4 (K:=K) (CX:=fun _=>CX) (sp:=fun w=>sp (K w.params)) hn hn2 hdf hr hY F ts hts htu (fun w H a ns h1 h2 h3=>hsp (K w.params) H a ns h1 h2 h3) fun _ H s e s'=>hCX H s e s'
end L2
/- THE LAST THEOREM (shape;LID,My.* are yours):
   My.Adr: a structure of the addresses that your layer names (classes,functions);My.Txt K t: a structure (Prop) of the equations over K;
   My.txt_mk:{K} {implicit addresses ..} (e1:nsIn K mainGlobals "law" = some (some (.ref f))) (e2:K.lookup f=some ⟨oc,od,.func (fnOf "law" "law" params body scope dV kV doc pm an cdv ct),sl⟩) (e3:codeIn K cdv "law" = true) .. : ∃ t,My.Txt K t
set_option maxRecDepth 100000 in
set_option maxHeartbeats 0 in
(the tactic k_is has no namespace: write k_is) -/
namespace L2
open PySem PySem.Spec PyProof.Rows
def lQ (s:Stmt):Arguments:=match s with
 | .FunctionDef _ a _ _ _ _ _ _ _ _=>a
 | _=>{ posonlyargs:=[],args:=[],vararg:=none,kwonlyargs:=[],kw_defaults:=[],kwarg:=none,defaults:=[] }
def iH (s:Stmt):List Stmt:=match s with
 | .FunctionDef _ _ b _ _ _ _ _ _ _=>b
 | _=>[]
def bA (s:Stmt):Scope:=match s with
 | .FunctionDef _ _ _ _ _ _ sc _ _ _=>sc
 | _=>{ kind:=.function,names:=[],isGenerator:=false,isCoroutine:=false }
abbrev CX0:CXT:=fun _ _ _ _ _ _=>False
abbrev E0:XK:=fun _ _ _=>False
theorem Vo {X:Cx}:Passes CX0 X E0:=fun _ _ _ _ _ _ _ h=>h.elim
structure Fun (K:PySem.W.Frag) (x qual:Str) (st:Stmt) (f:Addr) (fd:FuncData):Prop where
 ex:∃ (oc:Value) (od:Option Addr) (kV doc pm:Value) (an:Option Addr) (cdv ct:Value) (osl:Array (Option Value)),
  fd=PySem.W.fnOf x qual (lQ st) (iH st) (bA st) .none kV doc pm an cdv ct∧K.lookup f=some ⟨oc,od,.func fd,osl⟩∧PySem.W.codeIn K cdv qual=true
 kp:PySem.W.keepIn K (.ref f)=true
section
variable {P:Program} {w:World} {K:PySem.W.Frag} {mg:Str→Option Value} {base:Heap}
end
section
variable {X:Cx}
end
theorem Ar {A B:Prop} (h:B):if false=true then A else B:=by
 rw [if_neg dN]
 exact h
theorem Av {A B:Prop} (h:A):if true=true then A else B:=by
 rw [if_pos rfl]
 exact h
def Same (H H':Hp):Prop:=∀ b o,H b=some o→H' b=some o
theorem Same.refl (H:Hp):Same H H:=fun _ _ h=>h
theorem Same.trans {H H1 H2:Hp} (a:Same H H1) (b:Same H1 H2):Same H H2:=fun c o h=>b c o (a c o h)
theorem Same.free {H H':Hp} (e:Same H H') {l:Addr} (h:H' l=Option.none):H l=Option.none:=by
 cases q:H l with
 | none=>rfl
 | some o =>
  rw [e l o q] at h
  cases h
theorem Same.seq {K:PySem.W.Frag} {H H':Hp} {a:Addr} {xs:List V} (e:Same H H') (h:SqL K H a xs):SqL K H' a xs:=by
 rcases h with (h | ⟨o,h⟩) | h
 ·exact .inl (.inl (e _ _ h))
 ·exact .inl (.inr ⟨o,e _ _ h⟩)
 ·exact .inr h
end L2
namespace My
open PySem PySem.Spec PyProof.Rows L2
abbrev St:=L2.St
theorem dW {H:Hp} {p:Addr} (h:H p=none) (o:HO):Same H (upd H p o):=fun b u q=>by rw [cI (jh q h)];exact q
theorem Jf {K:PySem.W.Frag} {H H':Hp} {a:Addr} {xs:List V} (e:Same H H') (h:SqT K H a xs):SqT K H' a xs:=by
 rcases h with (h | ⟨o,h⟩) | h
 ·exact .inl (.inl (e _ _ h))
 ·exact .inl (.inr ⟨o,e _ _ h⟩)
 ·exact .inr h
structure Df (K:PySem.W.Frag) (mg:Str→Option Value) (x:Str) (st:Stmt) (ps:List Str):Prop where
 ex:∃ (f:Addr) (fd:FuncData),Fun K x x st f fd∧Binds K fd ps []∧mg x=some (.ref f)
structure Has (P:Program) (w:World) (K:PySem.W.Frag) (mg:Str→Option Value) (base:Heap) (n:Nat) (x:Str) (ps:List Str) (sp:Sp):Prop where
 ex:∃ (f:Addr) (fd:FuncData),FnOk P w K mg base CX0 n f fd ps sp∧Binds K fd ps []∧PySem.W.keepIn K (.ref f)=true∧mg x=some (.ref f)
section
variable {P:Program} {w:World} {K:PySem.W.Frag} {mg:Str→Option Value} {base:Heap} {x:Str} {ps N:List Str} {sp:Sp} {st:Stmt} {k n:Nat}
theorem Has.mono (h:Has P w K mg base k x ps sp) (l:k ≤ n):Has P w K mg base n x ps sp:=by
 obtain ⟨f,fd,F,b,kp,m⟩:=h.ex
 exact ⟨f,fd,F.mono l,b,kp,m⟩
end
section
variable {X:Cx} {x:Str} {ps:List Str} {sp:Sp} {n:Nat} {p pos:Pos} {e:Expr} {es:List Expr} {t:TA}
theorem Aw (h:Has X.prog X.w X.K X.mg X.base n x ps sp) (hr:Room n X.A) (ha:PA X (e :: es) t) (hg:Gl X x:=by rfl) (hdb:(x == ("__debug__" : Str))=false:=by decide)
 (he:starEach (e :: es) X.env=(false,eval e X.env) :: starEach es X.env:=by rfl) (hpl:(backTo pos (starEach es X.env)).any (·.1)=false:=by rfl) :
 PE X (.Call (.Name x p) (e :: es) [] pos) (QB sp [] E0 t):=by
 obtain ⟨f,fd,F,b,kp,m⟩:=h.ex
 exact Mx F hr hg m kp b .nil Vo ha hdb he hpl
end
mutual
inductive RdV (K:PySem.W.Frag) (H:Hp):V→PyData→Prop
 | non:RdV K H .non .none
 | bl (b:Bool):RdV K H (.bl b) (.bool b)
 | int (i:Int):RdV K H (.int i) (.int i)
 | str (x:Str):RdV K H (.str x) (.str x)
 | lst {a:Addr} {xs:List V} {ds:List PyData}:SqL K H a xs→RdVs K H xs ds→RdV K H (.ref a) (.list ds)
 | tup {a:Addr} {xs:List V} {ds:List PyData}:SqT K H a xs→RdVs K H xs ds→RdV K H (.ref a) (.tuple ds)
inductive RdVs (K:PySem.W.Frag) (H:Hp):List V→List PyData→Prop
 | nil:RdVs K H [] []
 | cons {v:V} {d:PyData} {vs:List V} {ds:List PyData}:RdV K H v d→RdVs K H vs ds→RdVs K H (v :: vs) (d :: ds)
end
section
variable {X:Cx} {pins:List (Addr × Obj)} {σ:St} {H:Hp} {s:Shared}
mutual
theorem RdV.reads (I:Inv X pins σ H s):∀ {v:V} {d:PyData},RdV X.K H v d→∀ {u:Value},RelV v u→∃ as,Reads s.heap u d as
 | _,_,.non,_,r=>by cases r;exact ⟨_,.none⟩
 | _,_,.bl b,_,r=>by cases r;exact ⟨_,.bool b⟩
 | _,_,.int i,_,r=>by obtain ⟨t,rfl⟩:=r;exact ⟨_,.int i t⟩
 | _,_,.str x,_,r=>by obtain ⟨t,rfl⟩:=r;exact ⟨_,.str x t⟩
 | _,_,.lst h q,_,r=>by
  cases r
  obtain ⟨its,rv,⟨o,n,e,c,_,d⟩,_⟩:=I.list h
  obtain ⟨as,z⟩:=RdVs.reads I q rv
  exact ⟨_,.list e c d (by simpa using z)⟩
 | _,_,.tup h q,_,r=>by
  cases r
  obtain ⟨its,rv,⟨o,e,c,n,d⟩,_⟩:=I.tuple h
  obtain ⟨as,z⟩:=RdVs.reads I q rv
  exact ⟨_,.tuple e c d (by simpa using z)⟩
theorem RdVs.reads (I:Inv X pins σ H s):∀ {vs:List V} {ds:List PyData},RdVs X.K H vs ds→∀ {us:List Value},Vals vs us→∃ as,ReadsAll s.heap us ds as
 | _,_,.nil,_,r=>by cases r;exact ⟨_,.nil⟩
 | _,_,.cons h q,_,r=>by
  cases r with
  | cons r1 r2 =>
   obtain ⟨as,z⟩:=RdV.reads I h r1
   obtain ⟨bs,y⟩:=RdVs.reads I q r2
   exact ⟨_,.cons z y⟩
end
end
section
variable {X:Cx}
def Vp (K:PySem.W.Frag):R2:=fun x y H Q=>∃ da db,RdV K H x da∧RdV K H y db∧SeqAt.shaped da=true∧SeqAt.shaped db=true∧Q (.bl (PyData.eqv da db)) H
def Vq (K:PySem.W.Frag):R2:=fun x y H Q=>∃ da db,RdV K H x da∧RdV K H y db∧SeqAt.shaped da=true∧SeqAt.shaped db=true∧Q (.bl (!PyData.eqv da db)) H
theorem k_ (hu:X.A.units + 64 < cLine):OpR X (compareOp .Eq) (Vp X.K):=by
 intro pins s σ H x y v u Q I rx ry h
 obtain ⟨da,db,ha,hb,sa,sb,q⟩:=h
 obtain ⟨as,za⟩:=ha.reads I rx
 obtain ⟨bs,zb⟩:=hb.reads I ry
 exact SeqAt.compareEq_shaped za zb sa sb hu ⟨.bl _,H,I,rfl,q⟩
theorem pA (hu:X.A.units + 64 < cLine):OpR X (compareOp .NotEq) (Vq X.K):=by
 intro pins s σ H x y v u Q I rx ry h
 obtain ⟨da,db,ha,hb,sa,sb,q⟩:=h
 obtain ⟨as,za⟩:=ha.reads I rx
 obtain ⟨bs,zb⟩:=hb.reads I ry
 exact SeqAt.compareNe_shaped za zb sa sb hu ⟨.bl _,H,I,rfl,q⟩
end
def isT (c T:String):Bool:=T == c || (T == "bool" && c == "int")
section
variable {K:PySem.W.Frag}
theorem RK (h:c = "int" ∨ c = "bool" ∨ c = "tuple" ∨ c = "list" ∨ c = "str") (g:T = "NoneType" ∨ T = "bool" ∨ T = "int" ∨ T = "str" ∨ T = "list" ∨ T = "tuple" ∨ T = "dict") :
 PySem.W.kitOne K (.type T) (.type c)=some (isT c T):=by
 rcases h with rfl | rfl | rfl | rfl | rfl <;> rcases g with rfl | rfl | rfl | rfl | rfl | rfl | rfl <;> kernel_rfl
end
section
variable {X:Cx}
end
theorem big {X:Cx} {pins:List (Addr × Obj)} {σ:St} {H:Hp} {s:Shared} (I:Inv X pins σ H s):sysModules < s.heap.objs.size:=by
 have h:mainGlobals < s.heap.objs.size:=(I.mod.glob.keeps I.bk).lt
 exact jH (by decide) h
theorem u_ {P:Program} {w:World} {H:Hp} (h:Heap) (hb:sysModules < h.objs.size):gZ P w H (h.push { cls:=.type "dict", data:=.dict #[] }) h.objs.size (.dK []) :=
 ⟨eY _,beq_eq_false_iff_ne.mpr (Ne.symm (bO hb)),[],.nil,Heap.DictOf.new h⟩
def RM:TE:=fun _ H Q=>∀ p,H p=none→Q (.ref p) (upd H p (.dK []))
theorem Jg {X:Cx} {pos:Pos}:PE X (.Dict [] [] pos) RM:=fun pins s σ H Q I h =>
 wpAny_Dict_empty ⟨.ref s.heap.objs.size,_,I.laid (a:=s.heap.objs.size) (o:=.dK []) (t':=s.toks) (fun _ _ q=>Heap.get?_push_of_some _ q) (aZ _) (u_ s.heap (big I)),rfl,h _ (I.hok.fresh (aZ _))⟩
end My
namespace My
open PySem PySem.Spec PyProof.Rows L2
section
variable {X:Cx} {a b c d:Expr} {ta tb tc td:TE} {pos:Pos}
def M5 (r r' r'':R2) (ta tb tc td:TE):TE:=fun σ H Q=>ta σ H fun x H1=>tb σ H1 fun y H2=>r x y H2 fun z H3=>∃ k,z = .bl k ∧
 (if k=true then tc σ H3 fun w' H4=>r' y w' H4 fun z' H5=>∃ k',z' = .bl k'∧(if k'=true then td σ H5 fun v' H6=>r'' w' v' H6 Q else Q (.bl false) H5) else Q (.bl false) H3)
theorem Gy {op op' op'':CmpOp} {r r' r'':R2} (ho:OpR X (compareOp op) r) (ho':OpR X (compareOp op') r') (ho'':OpR X (compareOp op'') r'') (ha:PE X a ta) (hb:PE X b tb) (hc:PE X c tc) (hd:PE X d td)
 (hm:lastMarks [op,op',op''] [b,c,d]=false:=by with_unfolding_all rfl):PE X (.Compare a [op,op',op''] [b,c,d] pos) (M5 r r' r'' ta tb tc td):=by
 intro pins s σ H Q I h
 refine Compare_chain (thn (ha pins s σ H _ I h) fun v s1 ⟨x,H1,I1,r1,q1⟩=>chain_link (thn (hb pins s1 σ H1 _ I1 q1) fun u s2 ⟨y,H2,I2,r2,q2⟩ =>
  thn (ho pins s2 σ H2 x y v u _ I2 r1 r2 q2) fun d s3 ⟨z,H3,I3,r3,k,e,q3⟩=>?_)) hm
 subst e
 cases r3
 refine wpAny_truthy_bool ?_
 cases k with
 | false=>exact ite_ff ⟨.bl false,H3,I3,rfl,q3⟩
 | true =>
  refine ite_tt (chain_link (thn (hc pins s3 σ H3 _ I3 q3) fun w' s4 ⟨z',H4,I4,r4,q4⟩=>thn (ho' pins s4 σ H4 y z' u w' _ I4 r2 r4 q4) fun d' s5 ⟨z2,H5,I5,r5,k2,e2,q5⟩=>?_))
  subst e2
  cases r5
  refine wpAny_truthy_bool ?_
  cases k2 with
  | false=>exact ite_ff ⟨.bl false,H5,I5,rfl,q5⟩
  | true=>exact ite_tt (chain_last (thn (hd pins s5 σ H5 _ I5 q5) fun w3 s6 ⟨z3,H6,I6,r6,q6⟩=>ho'' pins s6 σ H6 z' z3 w' w3 Q I6 r4 r6 q6))
end
structure Blt (mg:Str→Option Value):Prop where
 len_:mg "len" = none
 range_:mg "range" = none
 abs_:mg "abs" = none
 isinstance_:mg "isinstance" = none
 int_:mg "int" = none
 bool_:mg "bool" = none
 tuple_:mg "tuple" = none
 max_:mg "max" = none
 min_:mg "min" = none
end My
namespace My
open PySem PySem.Spec PyProof.Rows L2
abbrev cx (P:Program) (w:World) (K:PySem.W.Frag) (mg:Str→Option Value) (base:Heap) (N:List Str) (x:Str) (st:Stmt) (f:Addr) (cdv:Value) (A:Around) (outer:List Env) (s:Shared) (H:Hp) (E:XK):Cx :=
 (Al CX0 P w K mg base N x (bA st) f cdv A outer s H E).nox
end My
namespace My
open PySem PySem.Spec PyProof.Rows L2
def pB (env:Env):List (Str × NameKind)→List (Str × Addr)→List (Str × Addr)
 | [],cs=>cs
 | (n,k) :: r,cs=>if (k == NameKind.free)=true then pB env r ((n,(env.cells.lookup n).getD 0) :: cs) else pB env r cs
theorem rO {env:Env}:∀ (l:List (Str × NameKind)) (cs:List (Str × Addr)),(∀ x ∈ l,x.2 = .free→∃ c,env.cells.lookup x.1=some c) →
 (forIn l cs fun (x:Str × NameKind) (r:List (Str × Addr))=>(if (x.2 == NameKind.free)=true then (do let c ← cellOf env x.1;pure (ForInStep.yield ((x.1,c) :: r))) else pure (ForInStep.yield r):Sem (ForInStep (List (Str × Addr)))))=pure (pB env l cs)
 | [],_,_=>rfl
 | (n,k) :: r,cs,h=>by
  rw [List.forIn_cons]
  by_cases hk:(k == NameKind.free)=true
  ·obtain ⟨c,hc⟩:=h (n,k) aM (beq_iff_eq.mp hk)
   have hc':cellOf env n=pure c:=by
    unfold cellOf
    rw [show env.cells.lookup n=some c from hc]
   show (do let x ← (if (k == NameKind.free)=true then (do let c ← cellOf env n;pure (ForInStep.yield ((n,c) :: cs))) else pure (ForInStep.yield cs):Sem (ForInStep (List (Str × Addr))));_)=_
   rw [if_pos hk,hc']
   have ih:=rO r ((n,c) :: cs) fun x hx=>h x (aO _ hx)
   rw [pB,if_pos hk,show env.cells.lookup n=some c from hc]
   exact ih
  ·show (do let x ← (if (k == NameKind.free)=true then (do let c ← cellOf env n;pure (ForInStep.yield ((n,c) :: cs))) else pure (ForInStep.yield cs):Sem (ForInStep (List (Str × Addr))));_)=_
   rw [if_neg hk]
   have ih:=rO r cs fun x hx=>h x (aO _ hx)
   rw [pB,if_neg hk]
   exact ih
theorem Cz {env:Env} {scope:Scope} (h:∀ x ∈ scope.names,x.2 = .free→∃ c,env.cells.lookup x.1=some c):closureFor scope env=pure (pB env scope.names []):=by
 have z:=rO (env:=env) scope.names [] h
 show (forIn scope.names [] fun (x:Str × NameKind) (r:List (Str × Addr))=>(if (x.2 == NameKind.free)=true then (do let c ← cellOf env x.1;pure (ForInStep.yield ((x.1,c) :: r))) else pure (ForInStep.yield r):Sem (ForInStep (List (Str × Addr))))) >>= (fun cs=>pure cs)=_
 rw [z]
 rfl
theorem vd {env:Env}:∀ (l:List (Str × NameKind)) (cs:List (Str × Addr)),(∀ x ∈ l,x.2 = .free→∃ c,env.cells.lookup x.1=some c)→(∀ x c,cs.lookup x=some c→env.cells.lookup x=some c) →
 ∀ x c,(pB env l cs).lookup x=some c→env.cells.lookup x=some c
 | [],_,_,hc,x,c,e=>hc x c e
 | (n,k) :: r,cs,h,hc,x,c,e=>by
  rw [pB] at e
  by_cases hk:(k == NameKind.free)=true
  ·rw [if_pos hk] at e
   obtain ⟨d,hd⟩:=h (n,k) aM (beq_iff_eq.mp hk)
   refine vd r _ (fun x hx=>h x (aO _ hx)) (fun y c' e'=>?_) x c e
   rw [dG] at e'
   cases hy:y == n with
   | true =>
    rw [hy] at e'
    have:y=n:=beq_iff_eq.mp hy
    subst this
    rw [show env.cells.lookup y=some d from hd] at e' ⊢
    exact e'
   | false =>
    rw [hy] at e'
    exact hc y c' e'
  ·rw [if_neg hk] at e
   exact vd r cs (fun x hx=>h x (aO _ hx)) hc x c e
theorem qm {env:Env}:∀ (l:List (Str × NameKind)) (cs:List (Str × Addr)) (x:Str),((x,NameKind.free) ∈ l∨∃ c,cs.lookup x=some c)→∃ c,(pB env l cs).lookup x=some c
 | [],_,x,h=>by
  rcases h with h | h
  ·exact absurd h (by simp)
  ·exact h
 | (n,k) :: r,cs,x,h=>by
  rw [pB]
  by_cases hk:(k == NameKind.free)=true
  ·rw [if_pos hk]
   refine qm r _ x ?_
   by_cases e:x=n
   ·subst e
    exact .inr ⟨_,by rw [dG,beq_self_eq_true]⟩
   ·rcases h with h | ⟨c,h⟩
    ·rcases bF.mp h with h | h
     ·exact absurd (congrArg Prod.fst h) e
     ·exact .inl h
    ·exact .inr ⟨c,by rw [dG,beq_eq_false_iff_ne.mpr e];exact h⟩
  ·rw [if_neg hk]
   refine qm r cs x ?_
   rcases h with h | h
   ·rcases bF.mp h with h | h
    ·have:k = .free:=(congrArg Prod.snd h).symm
     subst this
     exact absurd rfl hk
    ·exact .inl h
   ·exact .inr h
abbrev blk (X:Cx) (N':List Str) (scope:Scope) (cl:List (Str × Addr)) (C:Addr) (s3:Shared) (H3:Hp) (fp:List Addr):Cx :=
 { X with N:=N',s₀:=s3,H₀:=H3,env:=compEnvC scope cl C X.env,outer:=X.stack,ex:=fp,fn:=fun _=>false,xe:=fun _ _=>False }
def uE (N:List Str) (kinds sn:List (Str × NameKind)):List Str→List Nat→Bool
 | [],[]=>true
 | x :: V,j :: ix=>(N[j]? == some x) && ((kinds.lookup x == some NameKind.cell) && ((sn.lookup x == some NameKind.free) && uE N kinds sn V ix))
 | _,_=>false
def wQ (t:Nat) (ix:List Nat) (σ:St):St:=bG t none++ix.map fun j=>(σ[j]?).getD none
theorem vf {N:List Str} {kinds sn:List (Str × NameKind)}:∀ {V:List Str} {ix:List Nat},uE N kinds sn V ix=true→ix.length=V.length∧∀ (k:Nat) (x:Str),V[k]? = some x→∃ j,ix[k]? = some j∧N[j]? = some x∧kinds.lookup x=some .cell∧sn.lookup x=some .free
 | [],[],_=>⟨rfl,fun k x h=>by simp at h⟩
 | x :: V,j :: ix,h=>by
  rw [uE,aL,aL,aL] at h
  obtain ⟨h1,h2,h3,h4⟩:=h
  obtain ⟨l,r⟩:=vf h4
  refine ⟨by simp [l],fun k y hy=>?_⟩
  cases k with
  | zero =>
   simp at hy
   subst hy
   exact ⟨j,rfl,beq_iff_eq.mp h1,beq_iff_eq.mp h2,beq_iff_eq.mp h3⟩
  | succ k=>exact r k y (by simpa using hy)
 | [],_ :: _,h=>by simp [uE] at h
 | _ :: _,[],h=>by simp [uE] at h
theorem sO {env:Env} (hf:env.scope.kind = .function):∀ {names:List (Str × NameKind)} {x:Str},names.lookup x=some .free→env.kindOf x=some .cell →
 (names.map fun (n,k)=>if (k == NameKind.free && env.scope.kind == .function && env.kindOf n == some .cell) then (n,NameKind.cell) else (n,k)).lookup x=some .cell
 | [],_,h,_=>by simp at h
 | (n,k) :: r,x,h,hc=>by
  have ih:=@sO env hf r x
  show um x ((if (k == NameKind.free && env.scope.kind == .function && env.kindOf n == some .cell)=true then (n,NameKind.cell) else (n,k)) :: _)=_
  cases hx:x == n with
  | true =>
   have e:x=n:=beq_iff_eq.mp hx
   subst e
   simp only [dG,hx] at h
   cases h
   rw [if_pos (by rw [hf,hc];rfl)]
   simp [dG]
  | false =>
   simp only [dG,hx] at h
   by_cases hq:(k == NameKind.free && env.scope.kind == .function && env.kindOf n == some .cell)=true
   ·rw [if_pos hq];simp only [dG,hx];exact ih h hc
   ·rw [if_neg hq];simp only [dG,hx];exact ih h hc
theorem pC {env:Env}:∀ {names:List (Str × NameKind)} {x:Str} {k:NameKind},(∀ y ∈ names,y.2 ≠ .cell)→(k = .cell∨k = .free) →
 (names.map fun (n,k)=>if (k == NameKind.free && env.scope.kind == .function && env.kindOf n == some .cell) then (n,NameKind.cell) else (n,k)).lookup x=some k→(x,NameKind.free) ∈ names
 | [],_,_,_,_,h=>by simp at h
 | (n,k') :: r,x,k,hc,hk,h=>by
  have ih:=@pC env r x k (fun y hy=>hc y (aO _ hy)) hk
  have h':um x ((if (k' == NameKind.free && env.scope.kind == .function && env.kindOf n == some .cell)=true then (n,NameKind.cell) else (n,k')) :: (r.map fun (n,k)=>if (k == NameKind.free && env.scope.kind == .function && env.kindOf n == some .cell) then (n,NameKind.cell) else (n,k)))=some k:=h
  by_cases hq:(k' == NameKind.free && env.scope.kind == .function && env.kindOf n == some .cell)=true
  ·rw [if_pos hq] at h'
   have kf:k' = .free:=by
    rw [aL,aL] at hq
    exact beq_iff_eq.mp hq.1.1
   cases hx:x == n with
   | true =>
    have e:x=n:=beq_iff_eq.mp hx
    subst e
    subst kf
    exact aM
   | false =>
    simp only [dG,hx] at h'
    exact aO _ (ih h')
  ·rw [if_neg hq] at h'
   cases hx:x == n with
   | true =>
    have e:x=n:=beq_iff_eq.mp hx
    subst e
    simp only [dG,hx] at h'
    cases h'
    rcases hk with hk | hk
    ·exact absurd hk (hc _ aM)
    ·subst hk
     exact aM
   | false =>
    simp only [dG,hx] at h'
    exact aO _ (ih h')
section
variable {X:Cx} {pins:List (Addr × Obj)} {σ:St} {H:Hp} {s:Shared}
theorem Inv.forget {σ':St} (I:Inv X pins σ H s) (hl:σ'.length=X.N.length) (h:∀ (i:Nat) (v:V),σ'[i]? = some (some v)→σ[i]? = some (some v)):Inv X pins σ' H s:=by
 obtain ⟨m,hn,hx⟩:=I.loc
 exact ⟨I.ok,I.os,I.bare,I.base,⟨m,hn,fun i x v e1 e2 e3=>hx i x v e1 (h i v e2) e3⟩,I.cell,I.free,I.freeC,I.pin,I.hok,hl⟩
end
end My
namespace My
open PySem PySem.Spec PyProof.Rows L2
theorem Ax {prog:Program} {w:World} {A:Around} {R:Result→Shared→Prop} {elt target iter:Expr} {ifs:List Expr} {scope:Scope} {pos:Pos} {it acc:Value} {env:Env} {s:Shared} (I:Nat→Shared→Prop)
 (turn:∀ n s,I n s→wpAny (model prog w) A (pyNext it) (fun r s₁=>match r with
  | none=>R (.ok .next) s₁
  | some v=>wpAny (model prog w) A (letOwnedTupleGo target it v) (fun _ s₁'=>wpAny (model prog w) A (assign target env v) (fun _ s₂ =>
   wpAny (model prog w) A (forIn ifs true fun c r=>if r=true then do let ok ← isTrue c env (eval c env);pure (ForInStep.yield ok) else pure (ForInStep.yield r)) (fun ok s₃ =>
    if ok=true then wpAny (model prog w) A (eval elt env) (fun x s₄ =>
     wpAny (model prog w) A (call (.builtin "list.append") [acc,x]) (fun _ s₅=>∃ m,m < n∧I m s₅) (fun _ _=>False) s₄) (fun _ _=>False) s₃
    else ∃ m,m < n∧I m s₃) (fun _ _=>False) s₂) (fun _ _=>False) s₁') (fun _ _=>False) s₁) (fun _ _=>False) s)
 (n:Nat) (h:I n s) :
 codeAny (model prog w) A (.compLoop (.ListComp elt [⟨target,iter,ifs,0⟩] scope pos) 0 it acc env) R s:=by
 refine codeAny_loop rfl I (fun n s hI=>?_) n h
 show wpAny _ A ((compTurn (.ListComp elt [⟨target,iter,ifs,0⟩] scope pos) 0 it acc env).onRaise (fun x=>do noteFrame x env;theTreesLotGoes x)) _ _ s
 refine wpAny_noted ?_
 rw [compTurn_list]
 refine wpAny_bind (wpAny_standAt (wpAny_bind (wpAny_mono (turn n s hI) (fun r s₁ h₁=>?_) fun _ _ h'=>h'.elim)))
 cases r with
 | none=>exact wpAny_pure h₁
 | some v =>
  refine wpAny_bind (wpAny_mono h₁ (fun _ s₁' h₁'=>?_) fun _ _ h'=>h'.elim)
  refine wpAny_bind (wpAny_mono h₁' (fun _ s₂ h₂=>wpAny_bind (wpAny_mono h₂ (fun ok s₃ h₃=>?_) fun _ _ h'=>h'.elim)) fun _ _ h'=>h'.elim)
  cases ok with
  | false=>exact wpAny_pure ⟨rfl,h₃⟩
  | true =>
   exact wpAny_bind (wpAny_bind (wpAny_mono h₃ (fun x s₄ h₄=>wpAny_bind (wpAny_mono h₄ (fun _ s₅ h₅=>wpAny_pure (wpAny_pure ⟨rfl,h₅⟩)) fun _ _ h'=>h'.elim)) fun _ _ h'=>h'.elim))
section
variable {X:Cx} {pins:List (Addr × Obj)} {σ:St} {H:Hp}
theorem Gz {T V:List Str} {ix:List Nat} {scope:Scope} {s3:Shared} {fp:List Addr} {h₁:Heap} {tk:Nat} {m:Str→Option Value}
 (I:Inv X pins σ H s3) (hf:∀ b ∈ fp,tO X pins H b) (ho:∀ b ∈ fp,∃ o,s3.heap.get? b=some o)
 (hk:scope.kind = .function) (hcell:∀ y ∈ scope.names,y.2 ≠ .cell) (hfr:∀ x ∈ scope.names,x.2 = .free→x.1 ∈ V) (hB:uE X.N X.env.scope.names scope.names V ix=true)
 (hns:h₁.Ns s3.heap.objs.size m) (keep:∀ b o,s3.heap.get? b=some o→h₁.get? b=some o) :
 Inv (blk X (T++V) scope (pB X.env scope.names []) s3.heap.objs.size s3 H fp) pins (wQ T.length ix σ) H { s3 with heap:=h₁,toks:=tk }:=by
 obtain ⟨lV,capV⟩:=vf hB
 have hcl:∀ x ∈ scope.names,x.2 = .free→∃ c,X.env.cells.lookup x.1=some c:=fun x hx e=>by
  obtain ⟨k,ek⟩:=qb (hfr x hx e)
  obtain ⟨j,_,_,hc,_⟩:=capV k _ ek
  exact I.ok.has _ (.inl hc)
 have sub:=vd (env:=X.env) scope.names [] hcl (fun x c e=>by simp at e)
 have stkSub:∀ b,b ∈ frs X.stack→b=X.env.locals∨b ∈ X.fs:=fun b z=>bF.mp (I.stkSub b z)
 have lt:∀ b o,s3.heap.get? b=some o→b ≠ s3.heap.objs.size:=fun b o e=>bO (Heap.lt_size e)
 have cellK:∀ c v,s3.heap.IsCell c v→h₁.IsCell c v:=fun c v ⟨o,e,d⟩=>⟨o,keep c o e,d⟩
 refine ⟨⟨I.ok.mod,hk,I.ok.glob,I.ok.blt,aZ _,fun x y c e1 e2=>I.ok.inj x y c (sub x c e1) (sub y c e2),fun x hx=>?_,fun x c hx=>?_,I.ok.hd,I.ok.frames,.inl rfl,fun b hb=>⟨?_,fun x c e=>?_⟩,I.bs,bM I.ok.bsz I.sz,fun b o e hb=>?_,fun b hb z=>?_,I.stack,I.stkFree⟩,
  rfl,I.bare,Un.kept keep,⟨m,hns,fun i x v e1 e2 e3=>?_⟩,fun x c e=>?_,I.hok.fresh (aZ _),fun x c e=>I.freeC x c (sub x c e),fun p hp=>?_,I.hok.kept keep,?_⟩
 ·rcases hx with hx | hx
  ·exact qm _ _ x (.inl (pC hcell (.inl rfl) hx))
  ·exact qm _ _ x (.inl (pC hcell (.inr rfl) hx))
 ·exact absurd hx (by simp)
 ·obtain ⟨o,e⟩:=ho b hb
  exact lt b o e
 ·exact (hf b hb).2.2.2.2.1 x c (sub x c e)
 ·rcases (hf b hb).2.2.2.1 with z | z
  ·exact I.ok.noex b o e z
  ·exact absurd (bN (Heap.lt_size e) (bM I.ok.bsz z)) (fU _)
 ·rcases stkSub b z with z | z
  ·exact (hf b hb).2.1 z
  ·exact (hf b hb).2.2.1 z
 ·by_cases hi:i < T.length
  ·have e2':(bG T.length none++ix.map fun j=>(σ[j]?).getD none)[i]? = some (some v):=e2
   rw [dw (by rw [cA];exact hi),gB,if_pos hi] at e2'
   exact absurd e2' (by simp)
  ·have e1':(T++V)[i]? = some x:=e1
   rw [cM (by omega)] at e1'
   obtain ⟨j,hj,hN,hc,hfree⟩:=capV _ x e1'
   have e2':(bG T.length none++ix.map fun j=>(σ[j]?).getD none)[i]? = some (some v):=e2
   rw [cM (by rw [cA];omega),cA,aQ,hj] at e2'
   have e2'':(σ[j]?).getD none=some v:=by simpa using e2'
   have e3':σ[j]? = some (some v):=by
    cases q:σ[j]? with
    | none=>rw [q] at e2'';exact absurd e2'' (by simp)
    | some o=>rw [q] at e2'';simp at e2'';rw [e2'']
   obtain ⟨m0,hn0,hl⟩:=I.loc
   obtain ⟨u,r,l⟩:=hl j x v hN e3' (.inr (.inl hc))
   rcases l with ⟨z,_⟩ | ⟨_,c,ec,hcell'⟩
   ·have z':X.env.scope.names.lookup x=some .local:=z
    rw [hc] at z'
    exact absurd z' (by simp)
   ·obtain ⟨c',ec'⟩:=qm (env:=X.env) scope.names [] x (.inl (PySem.mem_of_lookup hfree))
    have:c'=c:=by
     have q:=sub x c' ec'
     rw [ec] at q
     exact (cV.inj q).symm
    subst this
    exact ⟨u,r,.inr ⟨.inl (sO I.ok.kind hfree hc),c',ec',cellK _ _ hcell'⟩⟩
 ·obtain ⟨v,z⟩:=I.cell x c (sub x c e)
  exact ⟨v,cellK c v z⟩
 ·obtain ⟨e,n,ne,nf,d⟩:=I.pin p hp
  refine ⟨keep _ _ e,n,lt _ _ e,fun z=>?_,d⟩
  rcases stkSub p.1 z with z | z
  ·exact ne z
  ·exact nf z
 ·show (bG T.length none++ix.map fun j=>(σ[j]?).getD none).length=(T++V).length
  rw [bH,cA,aG,bH,lV]
theorem Jh {N':List Str} {scope:Scope} {cl:List (Str × Addr)} {pins':List (Addr × Obj)} {σ':St} {H3 H':Hp} {s3 s':Shared} {fp:List Addr} (I3:Inv X pins σ H3 s3) (hf:∀ b ∈ fp,tO X pins H3 b)
 (I':Inv (blk X N' scope cl s3.heap.objs.size s3 H3 fp) pins' σ' H' s'):Inv X pins σ H' s'∧tO X pins H' s3.heap.objs.size:=by
 have fr:H' s3.heap.objs.size=none:=I'.free
 refine ⟨?_,I3.fpOk (aZ _) fr⟩
 have os:s'.os=s3.os:=I'.os
 have u:Un (frs X.stack) fp H3 H' s3.heap s'.heap:=I'.base
 have ho:=I'.hok
 have hb:=I'.bare
 obtain ⟨hh,g,d,t,os'⟩:=s'
 obtain rfl:os'=s3.os:=os
 exact I3.call (h':=hh) (g':=g) (d':=d) (t':=t) (ch:=fp) u ho hb fun b hb'=>⟨(hf b hb').2.2.2.1,(hf b hb').2.1,(hf b hb').2.2.2.2.1,(hf b hb').2.2.2.2.2⟩
end
def PTs (X:Cx) (ifs:List Expr) (t:TT):Prop :=
 ∀ (pins:List (Addr × Obj)) (s:Shared) (σ:St) (H:Hp) (Q:Bool→Hp→Prop),Inv X pins σ H s→t σ H Q →
  wpAny (model X.prog X.w) X.A (forIn ifs true fun c r=>if r=true then do let ok ← isTrue c X.env (eval c X.env);pure (ForInStep.yield ok) else pure (ForInStep.yield r)) (TP X pins σ Q) X.xe s
def jX:TT:=fun _ H Q=>Q true H
theorem M6 {X:Cx}:PTs X [] jX:=fun _ _ _ H _ I h=>wpAny_tests_nil ⟨H,I,h⟩
theorem lR {X:Cx} {c:Expr} {t:TT} (h:PT X c t):PTs X [c] t:=fun pins s σ H Q I q=>wpAny_tests_one (h pins s σ H Q I q)
def Er (wi:TI) (g:TG) (tt:TT) (te:TE) (t:Nat) (cap:St→St):TE:=fun σ H Q=>wi σ H fun J H1=>∀ D,H1 D=none→∃ W:Nat→Nat→List V→Hp→Prop,(∃ m,W 0 m [] (upd H1 D (.lst []))) ∧
 ∀ i m xs H2,W i m xs H2→H2 D=some (.lst xs)∧((J.stop i H2∧Q (.ref D) H2)∨(J.go i H2∧xs.length < sizeLine∧∀ x H3,J.yld i H2 x H3→g x (cap σ) H3 fun σ4 H4=>σ4.drop t=(cap σ).drop t ∧
  tt σ4 H4 fun b H5=>if b=true then te σ4 H5 fun v H6=>H6 D=some (.lst xs)∧∃ m',m' < m∧W (i + 1) m' (xs++[v]) (upd H6 D (.lst (xs++[v]))) else ∃ m',m' < m∧W (i + 1) m' xs H5))
section
variable {X:Cx} {elt tg iter:Expr} {ifs:List Expr} {scope:Scope} {pos:Pos} {T V:List Str} {ix:List Nat} {wi:TI} {g:TG} {tt:TT} {te:TE}
theorem yg (hc:X.calm=true) (hi:PI X tg iter wi)
 (hg:∀ cl C s3 H3 fp,PG (blk X (T++V) scope cl C s3 H3 fp) tg g) (ht:∀ cl C s3 H3 fp,PTs (blk X (T++V) scope cl C s3 H3 fp) ifs tt) (he:∀ cl C s3 H3 fp,PE (blk X (T++V) scope cl C s3 H3 fp) elt te)
 (hB:uE X.N X.env.scope.names scope.names V ix=true) (hk:scope.kind = .function) (hcell:∀ y ∈ scope.names,y.2 ≠ .cell) (hnames:∀ x ∈ scope.names,x.2 = .local→scope.names.lookup x.1=some .local)
 (hfr:∀ x ∈ scope.names,x.2 = .free→x.1 ∈ V) (hs:∀ x,foldedSetIterable iter X.env x=pure x) {p:Pos}
 {pins:List (Addr × Obj)} {s:Shared} {σ:St} {H:Hp} (I:Inv X pins σ H s) {use:Option (Value→Sem Unit)} {Qp:Value→Shared→Prop} {Qv:VK} (h:Er wi g tt te T.length (wQ T.length ix) σ H Qv)
 (fin:∀ (D C:Addr) (H':Hp) (s':Shared) (m:Str→Option Value),Inv X pins σ H' s'→tO X pins H' C→s'.heap.Ns C m→Qv (.ref D) H'→compPost (model X.prog X.w) X.A X.xe use Qp (.ref D) C (.ok .next) s') :
 wpAny (model X.prog X.w) X.A (comprehension (.ListComp elt [⟨tg,iter,ifs,0⟩] scope pos) scope X.env p (newList []) false (eval iter X.env) use) Qp X.xe s:=by
 obtain ⟨lV,capV⟩:=vf hB
 have hcl:∀ x ∈ scope.names,x.2 = .free→∃ c,X.env.cells.lookup x.1=some c:=fun x hx e=>by
  obtain ⟨k,ek⟩:=qb (hfr x hx e)
  obtain ⟨j,_,_,hc',_⟩:=capV k _ ek
  exact I.ok.has _ (.inl hc')
 refine wpAny_comprehension_free rfl hs (Cz hcl) hk hnames ?_
 refine thn (hi pins s σ H _ I h) fun v s1 h1=>thn h1 fun itv s2 h2=>?_
 obtain ⟨it,fp,tn,J,H2,e,I2,Tn,st2,f2,R⟩:=h2
 subst e
 refine wpAny_newObj_type (hd:=by size_fits) ?_
 have hD:H2 s2.heap.objs.size=none:=I2.hok.fresh (aZ _)
 have I3:Inv X pins σ (upd H2 s2.heap.objs.size (.lst [])) { s2 with heap:=s2.heap.push { cls:=.type "list", dict:=none,data:=.seq ([]:List Value).toArray } } :=
  I2.laid (t':=s2.toks) (fun b o e=>Heap.get?_push_of_some _ e) (aZ _) ⟨eY _,[],0,.nil,Heap.get?_push_size _ rfl⟩
 obtain ⟨W,⟨m0,w0⟩,turn⟩:=R s2.heap.objs.size hD
 generalize hs3:({ s2 with heap:=s2.heap.push { cls:=.type "list", dict:=none,data:=.seq ([]:List Value).toArray } }:Shared)=s3 at I3 ⊢
 have st3:tn 0 s3.heap:=by
  rw [← hs3]
  exact Tn.keep 0 s2.heap _ st2 fun b hb o e=>Heap.get?_push_of_some _ e
 have f3:∀ b ∈ fp,tO X pins (upd H2 s2.heap.objs.size (.lst [])) b:=fun b hb=>by
  obtain ⟨z0,z1⟩:=f2 b hb
  refine ⟨?_,z1⟩
  obtain ⟨o,eo,_⟩:=Tn.obj 0 _ st2 b hb
  rw [cI (bO (Heap.lt_size eo))]
  exact z0
 generalize hH3:upd H2 s2.heap.objs.size (.lst [])=H3 at I3 f3 w0
 generalize hDn:s2.heap.objs.size=D at turn
 refine wpAny_newFunctionEnv hcell (by intro y hy;simp at hy) (fun h₁ hns₁ hsb₁=>?_) hk
 have keep:∀ b o,s3.heap.get? b=some o→h₁.get? b=some o:=fun b o e=>hsb₁.extBut b o (bO (Heap.lt_size e)) (Heap.get?_push_of_some _ e)
 have I4:=Gz (T:=T) (tk:=s3.toks + ([]:List (Str × Value)).length) I3 f3 (fun b hb=>let ⟨o,eo,_⟩:=Tn.obj 0 _ st3 b hb;⟨o,eo⟩) hk hcell hfr hB hns₁ keep
 have st4:tn 0 h₁:=Tn.keep 0 _ _ st3 fun b hb o e=>keep b o e
 have loop:codeAny (model X.prog X.w) X.A (.compLoop (.ListComp elt [⟨tg,iter,ifs,0⟩] scope pos) 0 (.ref it) (.ref D) (compEnvC scope (pB X.env scope.names []) s3.heap.objs.size X.env))
  (compPost (model X.prog X.w) X.A X.xe use Qp (.ref D) s3.heap.objs.size) { s3 with heap:=h₁,toks:=s3.toks + ([]:List (Str × Value)).length }:=by
  refine Ax (fun n s'=>∃ i xs H',Inv (blk X (T++V) scope (pB X.env scope.names []) s3.heap.objs.size s3 H3 fp) pins (wQ T.length ix σ) H' s'∧tn i s'.heap∧(∀ b ∈ fp,H' b=none)∧W i n xs H') ?_ m0
   ⟨0,[],H3,I4,st4,fun b hb=>(f3 b hb).1,w0⟩
  rintro n s5 ⟨i,xs,H5,I5,st5,fr5,w5⟩
  have stat:∀ {H':Hp} {pins':List (Addr × Obj)} {σ':St} {s':Shared},Inv (blk X (T++V) scope (pB X.env scope.names []) s3.heap.objs.size s3 H3 fp) pins σ' H' s'→(∀ b ∈ fp,H' b=none)→∀ b ∈ fp,tO (blk X (T++V) scope (pB X.env scope.names []) s3.heap.objs.size s3 H3 fp) pins H' b:=fun I' hn b hb=>by
   obtain ⟨x1,x2⟩:=I'.ok.exf b hb
   refine ⟨hn b hb,x1,I'.ok.exfs b hb,.inl hb,x2,fun q hq=>?_⟩
   exact (f3 b hb).2.2.2.2.2 q hq
  obtain ⟨hD5,r5⟩:=turn i n xs H5 w5
  rcases r5 with ⟨stop,q⟩ | ⟨go,hz,step⟩
  ·refine thn (Tn.done (blk X (T++V) scope (pB X.env scope.names []) s3.heap.objs.size s3 H3 fp) rfl rfl rfl hc i pins s5 _ H5 _ I5 (stat (pins':=pins) I5 fr5) st5 stop) fun r s6 ⟨hr,I6⟩=>?_
   subst hr
   obtain ⟨Ib,fC⟩:=Jh I3 f3 I6
   obtain ⟨m,hn,_⟩:=I6.loc
   exact fin D _ H5 s6 m Ib fC hn q
  ·refine thn (Tn.item (blk X (T++V) scope (pB X.env scope.names []) s3.heap.objs.size s3 H3 fp) rfl rfl rfl hc i pins s5 _ H5 _ I5 (stat (pins':=pins) I5 fr5) st5 go) fun r s6 ⟨u,hr,h6⟩=>?_
   subst hr
   refine thn h6 fun _ s7 ⟨x,H7,I7,rx,y7,st7,fr7⟩=>?_
   have I7':=I7.pinned (stat (pins':=pins) I7 fr7) (Tn.obj _ _ st7)
   refine thn (hg _ _ _ _ _ _ s7 _ H7 x u _ I7' rx (step x H7 y7)) fun _ s8 ⟨σ8,H8,I8,k8,q8⟩=>?_
   have again:∀ {H9:Hp} {s9:Shared},Inv (blk X (T++V) scope (pB X.env scope.names []) s3.heap.objs.size s3 H3 fp) (pins++uX fp s7.heap) σ8 H9 s9 →
    Inv (blk X (T++V) scope (pB X.env scope.names []) s3.heap.objs.size s3 H3 fp) pins (wQ T.length ix σ) H9 s9∧tn (i + 1) s9.heap∧∀ b ∈ fp,H9 b=none:=fun {H9 s9} I9=>by
    refine ⟨Inv.forget I9.unpinned I4.len fun j v e=>?_,Tn.keep _ _ _ st7 fun b hb o e=>(I9.pin (b,o) (aU _ (aU _ (o_ hb e)))).1,fun b hb=>?_⟩
    ·by_cases hj:j < T.length
     ·have e':(bG T.length none++ix.map fun j=>(σ[j]?).getD none)[j]? = some (some v):=e
      rw [dw (by rw [cA];exact hj),gB,if_pos hj] at e'
      exact absurd e' (by simp)
     ·have ej:j=T.length + (j - T.length):=by omega
      rw [ej,← nj] at e ⊢
      rw [k8]
      exact e
    ·obtain ⟨o,e,d⟩:=Tn.obj _ _ st7 b hb
     exact (I9.pin (b,o) (aU _ (aU _ (o_ hb e)))).2.1
   refine thn (ht _ _ _ _ _ _ s8 σ8 H8 _ I8 q8) fun ok s9 ⟨H9,I9,q9⟩=>?_
   cases ok with
   | false =>
    obtain ⟨m',lm,w9⟩:=q9
    obtain ⟨a1,a2,a3⟩:=again I9
    exact ⟨m',lm,i + 1,xs,H9,a1,a2,a3,w9⟩
   | true =>
    refine thn (he _ _ _ _ _ _ s9 σ8 H9 _ I9 q9) fun y s10 ⟨v,H10,I10,ry,hD10,m',lm,w10⟩=>?_
    refine thn (yd _ s10 σ8 H10 (.ref D) [v] (.ref D) [y] (fun _ Hn=>Hn=upd H10 D (.lst (xs++[v]))) I10 rfl (.cons ry .nil) ⟨D,xs,v,rfl,rfl,hD10,hz,rfl⟩) fun _ s11 ⟨_,H11,I11,_,e11⟩=>?_
    subst e11
    obtain ⟨a1,a2,a3⟩:=again I11
    exact ⟨m',lm,i + 1,_,_,a1,a2,a3,w10⟩
 exact codeAny_compStart_list loop (Tn.self _ 0 _ _ _ st4 loop)
theorem M7 (hc:X.calm=true) (T V:List Str) (ix:List Nat) (hi:PI X tg iter wi)
 (hg:∀ cl C s3 H3 fp,PG (blk X (T++V) scope cl C s3 H3 fp) tg g) (ht:∀ cl C s3 H3 fp,PTs (blk X (T++V) scope cl C s3 H3 fp) ifs tt) (he:∀ cl C s3 H3 fp,PE (blk X (T++V) scope cl C s3 H3 fp) elt te)
 (hB:uE X.N X.env.scope.names scope.names V ix=true:=by rfl) (hk:scope.kind = .function:=by rfl) (hcell:∀ y ∈ scope.names,y.2 ≠ .cell:=by decide +kernel)
 (hnames:∀ x ∈ scope.names,x.2 = .local→scope.names.lookup x.1=some .local:=by decide +kernel)
 (hfr:∀ x ∈ scope.names,x.2 = .free→x.1 ∈ V:=by decide +kernel) (hs:∀ x,foldedSetIterable iter X.env x=pure x:=by intro _;rfl) :
 PE X (.ListComp elt [⟨tg,iter,ifs,0⟩] scope pos) (Er wi g tt te T.length (wQ T.length ix)):=by
 intro pins s σ H Q I h
 rw [eval_ListComp]
 refine yg (use:=none) hc hi hg ht he hB hk hcell hnames hfr hs I h fun D C H' s' m I' fC hn q=>⟨m,hn,fun h' sb=>⟨.ref D,H',?_,rfl,q⟩⟩
 obtain ⟨z0,z1,z2,z3,z4,z5⟩:=fC
 exact I'.turned (t':=s'.toks) (fun b o hb e=>sb.extBut b o hb e) z0 z1 z3 z4 z5
theorem Es {i:Nat} {x:Str} {pos' spos:Pos} (hN:X.N.Nodup) (hi':X.N[i]? = some x) (hx:X.env.scope.names.lookup x=some .local) (hc:X.calm=true) (T V:List Str) (ix:List Nat) (hi:PI X tg iter wi)
 (hg:∀ cl C s3 H3 fp,PG (blk X (T++V) scope cl C s3 H3 fp) tg g) (ht:∀ cl C s3 H3 fp,PTs (blk X (T++V) scope cl C s3 H3 fp) ifs tt) (he:∀ cl C s3 H3 fp,PE (blk X (T++V) scope cl C s3 H3 fp) elt te)
 (hsw:swapsWith (.ListComp elt [⟨tg,iter,ifs,0⟩] scope pos) (some (.Name x pos')) spos.line X.env=pure true:=by rfl)
 (hB:uE X.N X.env.scope.names scope.names V ix=true:=by rfl) (hk:scope.kind = .function:=by rfl) (hcell:∀ y ∈ scope.names,y.2 ≠ .cell:=by decide +kernel)
 (hnames:∀ x ∈ scope.names,x.2 = .local→scope.names.lookup x.1=some .local:=by decide +kernel)
 (hfr:∀ x ∈ scope.names,x.2 = .free→x.1 ∈ V:=by decide +kernel) (hs:∀ x,foldedSetIterable iter X.env x=pure x:=by intro _;rfl) :
 PS X (.Assign [.Name x pos'] (.ListComp elt [⟨tg,iter,ifs,0⟩] scope pos) spos) (Rp (Er wi g tt te T.length (wQ T.length ix)) (Ii i)):=by
 intro pins s σ H D I h
 rw [exec_Assign_Name_used _ _ _ _ hsw]
 refine wpAny_bind (wpAny_standAt (wpAny_bind ?_))
 show wpAny _ X.A (do let _ ← comprehension (.ListComp elt [⟨tg,iter,ifs,0⟩] scope pos) scope X.env _ (newList []) false (eval iter X.env) (some (assign (.Name x pos') X.env))) _ _ s
 refine wpAny_bind (wpAny_mono (yg (use:=some (assign (.Name x pos') X.env)) (Qp:=fun _ s'=>SP X pins D .next s') hc hi hg ht he hB hk hcell hnames hfr hs I h fun A' C H' s' m I' fC hn q=>?_) (fun _ s' hq=>wpAny_pure (wpAny_pure hq)) fun _ _ e=>e)
 obtain ⟨z0,z1,z2,z3,z4,z5⟩:=fC
 refine wpAny_assign_Name (xT I' hN hi' (.inl hx) (v:=.ref A') rfl (fun s'' I'' ⟨a,sb,ha⟩=>⟨m,hn.sameBut sb ?_,fun h' sb'=>⟨_,H',?_,q⟩⟩) (.inr hx))
 ·rcases ha with ha | ha
  ·rw [ha];exact z1
  ·exact Ne.symm (z4 x a ha)
 ·exact I''.turned (t':=s''.toks) (fun b o hb e=>sb'.extBut b o hb e) z0 z1 z3 z4 z5
end
section
variable {X:Cx} {K:PySem.W.Frag}
end
end My
namespace D3
open PySem
abbrev D:=PyData
inductive U where
 | d (x:D)
 | x (c f:Str) (v:D)
abbrev DS:=List (Option U)
inductive Oc where
 | nx (δ:DS)
 | rt (d:D)
 | bk (δ:DS)
 | ct (δ:DS)
 | ex (c f:Str) (v:D)
abbrev FE:=DS→Option D
abbrev FA:=DS→Option (List D)
abbrev FT:=DS→Option Bool
abbrev FS:=DS→Option Oc
abbrev FG:=D→DS→Option DS
mutual
def flat:D→Bool
 | .none=>true
 | .bool _=>true
 | .int _=>true
 | .str _=>true
 | .list _=>false
 | .tuple xs=>flats xs
 | .dict _=>false
def flats:List D→Bool
 | []=>true
 | x :: r=>flat x && flats r
end
mutual
def nl:D→Nat
 | .none=>0
 | .bool _=>0
 | .int _=>0
 | .str _=>0
 | .list xs=>nls xs + 1
 | .tuple xs=>nls xs
 | .dict _=>1
def nls:List D→Nat
 | []=>0
 | x :: r=>nl x + nls r
end
def fl1:D→Bool
 | .list xs=>flats xs
 | d=>flat d
def aD (i:Nat):FE:=fun δ=>match δ[i]? with
 | some (some (.d x))=>some x
 | _=>none
def dC (d:D):FE:=fun _=>some d
def dOp (g:D→D→Option D) (fa fb:FE):FE:=fun δ=>(fa δ).bind fun x=>(fb δ).bind fun y=>g x y
def dUn (g:D→Option D) (fa:FE):FE:=fun δ=>(fa δ).bind g
def bh:FA:=fun _=>some []
def aF (fa:FE) (fr:FA):FA:=fun δ=>(fa δ).bind fun x=>(fr δ).bind fun r=>some (x :: r)
def dTup (fa:FA):FE:=fun δ=>(fa δ).bind fun l=>if l.length ≤ sizeLine then some (.tuple l) else none
def jA (fa:FA):FE:=fun δ=>(fa δ).bind fun l=>if l.length ≤ sizeLine then some (.list l) else none
def dCall (F:List D→Option D) (fa:FA):FE:=fun δ=>(fa δ).bind F
def dX (fa:FE):FE:=fun δ=>(fa δ).bind fun d=>if flat d=true then some d else none
def dN1 (fa:FE):FE:=fun δ=>(fa δ).bind fun d=>if decide (nl d ≤ 1)=true then some d else none
def sS (fa:FE):FE:=fun δ=>(fa δ).bind fun d=>if fl1 d=true then some d else none
def rP (fa fb:FE):FE:=fun δ=>(fa δ).bind fun x=>match x with
 | .bool true=>fb δ
 | .bool false=>some (.bool false)
 | _=>none
def dOr (fa fb:FE):FE:=fun δ=>(fa δ).bind fun x=>match x with
 | .bool true=>some (.bool true)
 | .bool false=>fb δ
 | _=>none
def Ji (fa:FE):FE:=fun δ=>(fa δ).bind fun x=>match x with
 | .bool b=>some (.bool (!b))
 | _=>none
def dIf (c:FT) (fa fb:FE):FE:=fun δ=>(c δ).bind fun b=>if b=true then fa δ else fb δ
def aW (fa:FE):FT:=fun δ=>(fa δ).bind fun x=>match x with
 | .bool b=>some b
 | _=>none
def iG (a b:FT):FT:=fun δ=>(a δ).bind fun x=>if x=true then b δ else some false
def tOr (a b:FT):FT:=fun δ=>(a δ).bind fun x=>if x=true then some true else b δ
def jW (a:FT):FT:=fun δ=>(a δ).map fun x=>!x
def cZ:FS:=fun δ=>some (.nx δ)
def bY (a b:FS):FS:=fun δ=>(a δ).bind fun o=>match o with
 | .nx δ'=>b δ'
 | o=>some o
def Vr (i:Nat) (fe:FE):FS:=fun δ=>(fe δ).bind fun d=>some (.nx (δ.set i (some (.d d))))
def sIf (c:FT) (a b:FS):FS:=fun δ=>(c δ).bind fun t=>if t=true then a δ else b δ
def cT (fe:FE):FS:=fun δ=>(fe δ).bind fun d=>some (.rt d)
def Vs:FS:=fun _=>some (.rt .none)
def vg (fe:FE):FS:=fun δ=>(fe δ).bind fun _=>some (.nx δ)
def sBk:FS:=fun δ=>some (.bk δ)
def sCt:FS:=fun δ=>some (.ct δ)
def gN (i:Nat):FG:=fun d δ=>some (δ.set i (some (.d d)))
def lg:List D→DS→Option DS:=fun l δ=>match l with
 | []=>some δ
 | _=>none
def cU (g:FG) (r:List D→DS→Option DS):List D→DS→Option DS:=fun l δ=>match l with
 | d :: l'=>(g d δ).bind fun δ'=>r l' δ'
 | []=>none
def GC (fe:FE) (g:FG):FS:=fun δ=>(fe δ).bind fun d=>(g d δ).bind fun δ'=>some (.nx δ')
def jB (g:FG) (b:FS):List D→DS→Option Oc
 | [],δ=>some (.nx δ)
 | d :: r,δ=>(g d δ).bind fun δ1=>(b δ1).bind fun o=>match o with
  | .nx δ'=>jB g b r δ'
  | .ct δ'=>jB g b r δ'
  | .bk δ'=>some (.nx δ')
  | .rt v=>some (.rt v)
  | .ex c f v=>some (.ex c f v)
def jD (fi:FA) (g:FG) (b:FS):FS:=fun δ=>(fi δ).bind fun l=>jB g b l δ
def iw (c:FT) (b:FS):Nat→DS→Option Oc
 | 0,_=>none
 | n + 1,δ=>(c δ).bind fun t=>if t=true then (b δ).bind fun o=>match o with
     | .nx δ'=>iw c b n δ'
     | .ct δ'=>iw c b n δ'
     | .bk δ'=>some (.nx δ')
     | .rt v=>some (.rt v)
     | .ex c f v=>some (.ex c f v)
  else some (.nx δ)
theorem nY {c:FT} {b:FS}:∀ {n:Nat} {δ:DS} {o:Oc},iw c b n δ=some o→∀ {m:Nat},n ≤ m→iw c b m δ=some o
 | 0,_,_,h,_,_=>by simp [iw] at h
 | n + 1,δ,o,h,0,l=>by omega
 | n + 1,δ,o,h,m + 1,l=>by
  rw [iw] at h ⊢
  cases hc:c δ with
  | none=>rw [hc] at h;simp at h
  | some t =>
   rw [hc] at h
   simp only [aJ] at h ⊢
   cases t with
   | false=>exact h
   | true =>
    simp only [if_pos] at h ⊢
    cases hb:b δ with
    | none=>rw [hb] at h;simp at h
    | some q =>
     rw [hb] at h
     simp only [aJ] at h ⊢
     cases q with
     | nx δ'=>exact nY h (by omega)
     | ct δ'=>exact nY h (by omega)
     | bk δ'=>exact h
     | rt v=>exact h
     | ex c f v=>exact h
theorem CG {c:FT} {b:FS} {n m:Nat} {δ:DS} {o o':Oc} (h:iw c b n δ=some o) (h':iw c b m δ=some o'):o=o':=by
 have a:=nY h (Nat.le_max_left n m)
 have a':=nY h' (Nat.le_max_right n m)
 rw [a] at a'
 exact cV.inj a'
open Classical in
noncomputable def tV (c:FT) (b:FS):FS:=fun δ=>if h:∃ o n,iw c b n δ=some o then some (Classical.choose h) else none
theorem GD {c:FT} {b:FS} {n:Nat} {δ:DS} {o:Oc} (h:iw c b n δ=some o):tV c b δ=some o:=by
 have e:∃ o n,iw c b n δ=some o:=⟨o,n,h⟩
 unfold tV
 rw [dif_pos e]
 obtain ⟨m,hm⟩:=Classical.choose_spec e
 rw [CG hm h]
theorem CJ {c:FT} {b:FS} {δ:DS} {o:Oc} (h:tV c b δ=some o):∃ n,iw c b n δ=some o:=by
 unfold tV at h
 by_cases e:∃ o n,iw c b n δ=some o
 ·rw [dif_pos e] at h
  have:=Classical.choose_spec e
  rw [cV.inj h] at this
  exact this
 ·rw [dif_neg e] at h
  cases h
def fnD (p q:Nat) (b:FS):List D→Option D:=fun ds=>if ds.length=p then match b (ds.map (fun d=>some (.d d))++bG q none) with
    | some (.rt d)=>some d
    | some (.nx _)=>some .none
    | _=>none
 else none
def jM (t:Nat) (ix:List Nat) (δ:DS):DS:=bG t none++ix.map fun j=>(δ[j]?).getD none
def fJ (g:FG) (c:FT) (e:FE) (δ:DS):List D→Option (List D)
 | []=>some []
 | d :: r=>(g d δ).bind fun δ1=>(c δ1).bind fun b=>if b=true then (e δ1).bind fun x=>(fJ g c e δ r).bind fun l=>some (x :: l) else fJ g c e δ r
def iT (fi:FA) (g:FG) (c:FT) (e:FE) (t:Nat) (ix:List Nat):FE:=fun δ=>(fi δ).bind fun l=>if l.length ≤ 100000 then (fJ g c e (jM t ix δ) l).bind fun r=>some (.list r) else none
def jX:FT:=fun _=>some true
def gI (g:Int→Int→Option D):D→D→Option D:=fun x y=>match x,y with
 | .int i,.int j=>g i j
 | _,_=>none
def pIx (n:Nat) (i:Int):Option Nat:=if 0 ≤ i then (if i < n then some i.toNat else none) else if -(n:Int) ≤ i then some (i + n).toNat else none
def pAt (xs:List D) (i:Int):Option D:=(pIx xs.length i).bind fun j=>xs[j]?
def isT (c T:String):Bool:=T == c || (T == "bool" && c == "int")
def cD (i:Nat) (fe:FE):FS:=fun δ=>if i < δ.length then Vr i fe δ else none
def jd:D→D→Option D:=gI fun i j=>some (.int (i + j))
def Gi:D→D→Option D:=gI fun i j=>some (.int (i - j))
def vh (i j:Int):Bool:=decide (i.natAbs < 2 ^ 64) || decide (j.natAbs < 2 ^ 64) || (decide (i.natAbs < 2 ^ 30000) && decide (j.natAbs < 2 ^ 30000))
def pF:D→D→Option D:=gI fun i j=>if vh i j=true then some (.int (i * j)) else none
def CK (_ j:Int):Bool:=decide (j ≠ 0) && decide (j.natAbs < 2 ^ 9000)
def Ay:D→D→Option D:=gI fun i j=>if CK i j=true then some (.int (i.fdiv j)) else none
def rQ:D→D→Option D:=gI fun i j=>if decide (j ≠ 0)=true then some (.int (i.fmod j)) else none
def RN (i j:Int):Bool:=decide (0 ≤ j) && decide (j ≤ 1000) && decide (i.natAbs < 2 ^ 64)
def RP:D→D→Option D:=gI fun i j=>if RN i j=true then some (.int (i ^ j.toNat)) else none
def gLt:D→D→Option D:=gI fun i j=>some (.bool (decide (i < j)))
def gLe:D→D→Option D:=gI fun i j=>some (.bool (decide (i ≤ j)))
def gGt:D→D→Option D:=gI fun i j=>some (.bool (decide (j < i)))
def gGe:D→D→Option D:=gI fun i j=>some (.bool (decide (j ≤ i)))
def gEq:D→D→Option D:=fun x y=>if (SeqAt.shaped x && SeqAt.shaped y)=true then some (.bool (PyData.eqv x y)) else none
def gNe:D→D→Option D:=fun x y=>if (SeqAt.shaped x && SeqAt.shaped y)=true then some (.bool (!PyData.eqv x y)) else none
def gNl (i:Nat):FG:=fun d δ=>if i < δ.length then gN i d δ else none
def gTn (n:Nat) (g:List D→DS→Option DS):FG:=fun d δ=>match d with
 | .tuple l=>if l.length=n then g l δ else none
 | _=>none
def sU (i:Nat) (f:FE):FS:=fun δ=>(aD i δ).bind fun x=>(f δ).bind fun d=>match x with
 | .list l=>if l.length < 1000000 then some (.nx (δ.set i (some (.d (.list (l++[d])))))) else none
 | _=>none
def uF (i:Nat) (fk f:FE):FS:=fun δ=>(f δ).bind fun d=>(aD i δ).bind fun x=>(fk δ).bind fun k=>match x,k with
 | .list l,.int j=>(pIx l.length j).bind fun n=>some (.nx (δ.set i (some (.d (.list (l.set n d))))))
 | _,_=>none
def CN:D→Option (List D)
 | .list l=>some l
 | .tuple l=>some l
 | _=>none
def putAt (x:D) (n:Nat) (d:D):D:=match x with
 | .list l=>.list (l.set n d)
 | .tuple l=>.tuple (l.set n d)
 | x=>x
def RQ (g:List D→D→Option (List D)) (i:Nat) (fk f:FE):FS:=fun δ=>(aD i δ).bind fun x=>(fk δ).bind fun k=>(f δ).bind fun d=>(CN x).bind fun l=>match k with
 | .int j=>(pIx l.length j).bind fun n=>match l[n]? with
  | some (.list m)=>(g m d).bind fun m'=>some (.nx (δ.set i (some (.d (putAt x n (.list m'))))))
  | _=>none
 | _=>none
def vm (i:Nat) (fk:FE):FS:=RQ (fun _ _=>some []) i fk (dC .none)
def asList:D→Option (List D)
 | .list l=>some l
 | _=>none
def jP (f:FE):FA:=fun δ=>(f δ).bind asList
def gh (lo hi:Int):List D:=(aH (hi - lo).toNat).map fun (k:Nat)=>.int (lo + (k:Int))
def rH (i:Int):Bool:=decide (-(2 ^ 62) ≤ i) && decide (i < 2 ^ 62)
def jQ (fa:FA):FA:=fun δ=>(fa δ).bind fun l=>match l with
 | [.int j]=>if rH j=true then some (gh 0 j) else none
 | _=>none
def Et (fa:FA):FA:=fun δ=>(fa δ).bind fun l=>match l with
 | [.int i,.int j]=>if (rH i && rH j)=true then some (gh i j) else none
 | _=>none
def gIx:D→D→Option D:=fun x y=>match x,y with
 | .list l,.int i=>pAt l i
 | .tuple l,.int i=>pAt l i
 | _,_=>none
def oE (g g':D→D→Option D) (fa fb fc:FE):FE:=fun δ=>(fa δ).bind fun x=>(fb δ).bind fun y=>(g x y).bind fun z=>match z with
 | .bool true=>(fc δ).bind fun w=>g' y w
 | .bool false=>some (.bool false)
 | _=>none
def uJ (g g' g'':D→D→Option D) (fa fb fc fd:FE):FE:=fun δ=>(fa δ).bind fun x=>(fb δ).bind fun y=>(g x y).bind fun z=>match z with
 | .bool true=>(fc δ).bind fun w=>(g' y w).bind fun z'=>match z' with
  | .bool true=>(fd δ).bind fun u=>g'' w u
  | .bool false=>some (.bool false)
  | _=>none
 | .bool false=>some (.bool false)
 | _=>none
def isNone:D→Bool
 | .none=>true
 | _=>false
def nA:D→Option D:=fun x=>some (.bool (isNone x))
def kE:D→Option D:=fun x=>some (.bool (!isNone x))
def ju:List D→Option D
 | [.list l]=>some (.int l.length)
 | [.tuple l]=>some (.int l.length)
 | _=>none
def jE:List D→Option (List Int)
 | []=>some []
 | .int i :: r=>(jE r).map (i :: ·)
 | _=>none
def Vt:List D→Option D
 | [.list l]=>(jE l).map fun ns=>.int ns.sum
 | _=>none
def insI (x:Int):List Int→List Int
 | []=>[x]
 | y :: r=>if x ≤ y then x :: y :: r else y :: insI x r
def oO:List Int→List Int
 | []=>[]
 | x :: r=>insI x (oO r)
def sV:List D→Option D
 | [.list l]=>(jE l).bind fun ns=>if ns.length < 64 then some (.list ((oO ns).map .int)) else none
 | _=>none
def Az:List D→Option D
 | [.int i]=>some (.int i)
 | [.bool b]=>some (.int (if b then 1 else 0))
 | _=>none
def XC:List D→Option D
 | [.int i]=>some (.int (if i < 0 then -i else i))
 | _=>none
def yh:List D→Option D
 | [.int i,.int j]=>some (.int (if j > i then j else i))
 | _=>none
def yj:List D→Option D
 | [.int i,.int j]=>some (.int (if j < i then j else i))
 | _=>none
def tyD:D→String
 | .none => "NoneType"
 | .bool _ => "bool"
 | .int _ => "int"
 | .str _ => "str"
 | .list _ => "list"
 | .tuple _ => "tuple"
 | .dict _ => "dict"
def gIs (c:String):D→Option D:=fun d=>some (.bool (isT c (tyD d)))
def yP:D→Option D
 | .int i=>some (.int (-i))
 | _=>none
def nR:D→D→Option D:=fun x y=>match x,y with
 | .list l,.list m=>if l.length + m.length ≤ 1000000 then some (.list (l++m)) else none
 | _,_=>none
def Jj:D→D→Option D:=fun x y=>match x,y with
 | .list l,.int k=>if l.length * k.toNat ≤ 1000000∧-(2 ^ 63) ≤ k∧k < 2 ^ 63 then some (.list (bG k.toNat l).flatten) else none
 | _,_=>none
def sW:D→Option D
 | .list l=>some (.list l)
 | .tuple l=>some (.list l)
 | _=>none
abbrev FO:=DS→Option (Option Int)
def yp:FO:=fun _=>some none
def vp (f:FE):FO:=fun δ=>(f δ).bind fun x=>match x with
 | .int i=>some (some i)
 | _=>none
def pSx (n d:Nat):Option Int→Nat
 | none=>d
 | some i=>if i < 0 then (i + n).toNat else min i.toNat n
def cutD (xs:List D) (lo hi:Option Int):List D:=(xs.drop (pSx xs.length 0 lo)).take (pSx xs.length xs.length hi - pSx xs.length 0 lo)
def dSl (f:FE) (lo hi:FO):FE:=fun δ=>(f δ).bind fun x=>(lo δ).bind fun a=>(hi δ).bind fun b=>match x with
 | .list l=>some (.list (cutD l a b))
 | _=>none
def Vu (i j:Nat) (fa:FA):FS:=fun δ=>(fa δ).bind fun l=>match l with
 | [x,y]=>if i < δ.length∧j < δ.length then some (.nx ((δ.set i (some (.d x))).set j (some (.d y)))) else none
 | _=>none
def lF (l:List D):List D:=l.mapIdx fun i x=>.tuple [.int (i:Int),x]
def vq (f:FE):FA:=fun δ=>(f δ).bind fun d=>match d with
 | .list l=>some (lF l)
 | _=>none
def jY:List D→Option (List Bool)
 | []=>some []
 | .bool b :: r=>(jY r).map (b :: ·)
 | _=>none
def vC:List D→Option D
 | [.list l]=>(jY l).map fun bs=>.bool (bs.all id)
 | _=>none
def M8:List D→Option D
 | [.list l]=>(jY l).map fun bs=>.bool (bs.any id)
 | _=>none
def M9:List D→List D→List D
 | x :: r,y :: s=>.tuple [x,y] :: M9 r s
 | _,_=>[]
def Vv (f g:FE):FA:=fun δ=>(f δ).bind fun d=>(g δ).bind fun e=>match d,e with
 | .list l,.list m=>some (M9 l m)
 | _,_=>none
theorem insI_perm (x:Int):∀ l,(insI x l).Perm (x :: l)
 | []=>.refl _
 | y :: r=>by
  unfold insI
  split
  ·exact .refl _
  ·exact ((insI_perm x r).cons y).trans (.swap x y r)
theorem iZ:∀ l,(oO l).Perm l
 | []=>.refl _
 | x :: r=>(insI_perm x _).trans ((iZ r).cons x)
theorem uo (x:Int):∀ l,l.Pairwise (· ≤ ·)→(insI x l).Pairwise (· ≤ ·)
 | [],_=>by simp [insI]
 | y :: r,h=>by
  obtain ⟨h1,h2⟩:=fM.mp h
  unfold insI
  split
  ·next c =>
   refine fM.mpr ⟨fun a ha=>?_,h⟩
   rcases bF.mp ha with rfl | z
   ·exact c
   ·exact Int.le_trans c (h1 a z)
  ·next c =>
   refine fM.mpr ⟨fun a ha=>?_,uo x r h2⟩
   rcases bF.mp ((insI_perm x r).mem_iff.mp ha) with rfl | z
   ·omega
   ·exact h1 a z
theorem nZ:∀ l,(oO l).Pairwise (· ≤ ·)
 | []=>.nil
 | x :: r=>uo x _ (nZ r)
end D3
namespace D3
open PySem PySem.Spec PyProof.Rows L2 My
abbrev Ok:=Addr→Prop
abbrev St:=L2.St
class Chg (u:HO):Prop where
 ch:(∃ xs,u = .lst xs)∨(∃ kvs,u = .dK kvs)∨∃ kvs,u = .dT kvs
instance (xs:List V):Chg (.lst xs):=⟨.inl ⟨xs,rfl⟩⟩
instance (kvs:List (Key × V)):Chg (.dK kvs):=⟨.inr (.inl ⟨kvs,rfl⟩)⟩
instance (kvs:List (List Key × V)):Chg (.dT kvs):=⟨.inr (.inr ⟨kvs,rfl⟩)⟩
theorem Chg.frz {o:Obj} {u:HO} (h:Chg (.frz o u)):False:=by
 rcases h.ch with ⟨_,z⟩ | ⟨_,z⟩ | ⟨_,z⟩ <;> cases z
theorem Chg.tup {xs:List V} (h:Chg (.tup xs)):False:=by
 rcases h.ch with ⟨_,z⟩ | ⟨_,z⟩ | ⟨_,z⟩ <;> cases z
def Chd (o:Option HO):Prop:=∃ u,o=some u∧Chg u
theorem Chd.ne {o:Option HO} (h:Chd o):o ≠ none:=by
 obtain ⟨u,rfl,_⟩:=h
 simp
def SqK (K:PySem.W.Frag) (H:Hp) (a:Addr) (xs:List V):Prop:=(∃ o,H a=some (.frz o (.lst xs))) ∨
 ∃ (o:Obj) (its:Array Value) (n:Nat),K.lookup a=some o∧o.cls = .type "list" ∧ o.dict=none∧o.data = .seq its n∧its.size ≤ sizeLine∧Vals xs its.toList
theorem SqK.sq {K:PySem.W.Frag} {H:Hp} {a:Addr} {xs:List V} (h:SqK K H a xs):SqL K H a xs:=by
 rcases h with ⟨o,h⟩ | h
 ·exact .inl (.inr ⟨o,h⟩)
 ·exact .inr h
def jR (H:Hp) (a:Addr) (xs:List V):Prop:=H a=some (.tup xs)
theorem jR.sq {K:PySem.W.Frag} {H:Hp} {a:Addr} {xs:List V} (h:jR H a xs):SqT K H a xs:=.inl (.inl h)
theorem jR.same {H H':Hp} {a:Addr} {xs:List V} (e:Same H H') (h:jR H a xs):jR H' a xs:=e _ _ h
theorem jR.upd {H:Hp} {a b:Addr} {xs:List V} {u o:HO} [cu:Chg u] (h:H a=some u) (q:jR H b xs):jR (upd H a o) b xs:=by
 unfold jR
 rw [cI (Em q h (by intro z;subst z;exact cu.tup))]
 exact q
def dk0:List (D × D)→List (Key × V)
 | []=>[]
 | (.int i,.int j) :: r=>(.inl i,.int j) :: dk0 r
 | (.int i,.bool true) :: r=>(.inl i,.bl true) :: dk0 r
 | _ :: r=>(.inl 0,.non) :: dk0 r
def tkK:List D→Option (List Key)
 | []=>some []
 | .int i :: r=>(tkK r).map (.inl i :: ·)
 | _=>none
def tkD:List (D × D)→Option (List (List Key × V))
 | []=>some []
 | (.tuple l,.bool true) :: r=>(tkK l).bind fun k=>(tkD r).map ((k,.bl true) :: ·)
 | _=>none
def dh0 (kvs:List (D × D)):HO:=match kvs with
 | []=>.dK []
 | q :: r=>match tkD (q :: r) with
  | some ts=>.dT ts
  | none=>.dK (dk0 (q :: r))
theorem Jk (kvs:List (D × D)):(∃ ks,dh0 kvs = .dK ks)∨∃ ks,dh0 kvs = .dT ks:=by
 cases kvs with
 | nil=>exact .inl ⟨_,rfl⟩
 | cons q r =>
  unfold dh0
  dsimp only
  split
  ·exact .inr ⟨_,rfl⟩
  ·exact .inl ⟨_,rfl⟩
instance (kvs:List (D × D)):Chg (dh0 kvs):=⟨by
 rcases Jk kvs with ⟨ks,z⟩ | ⟨ks,z⟩
 ·exact .inr (.inl ⟨ks,z⟩)
 ·exact .inr (.inr ⟨ks,z⟩)⟩
def scV:D→V
 | .int i=>.int i
 | _=>.non
def scs:List D→Bool
 | []=>true
 | .int _ :: r=>scs r
 | .none :: r=>scs r
 | _=>false
def TV (H:Hp) (v:V) (d:D):Prop:=(v = .non∧d = .none)∨∃ b ds,v = .ref b∧d = .tuple ds∧jR H b (ds.map scV)∧scs ds=true
inductive TVs (H:Hp):List (Key × V)→List (D × D)→Prop
 | nil:TVs H [] []
 | cons {i:Int} {v:V} {d:D} {r:List (Key × V)} {r':List (D × D)}:TV H v d→TVs H r r'→TVs H ((.inl i,v) :: r) ((.int i,d) :: r')
theorem TV.imp {H H':Hp} (h:∀ b xs,jR H b xs→jR H' b xs) {v:V} {d:D} (q:TV H v d):TV H' v d:=by
 rcases q with q | ⟨b,ds,h1,h2,h3,h4⟩
 ·exact .inl q
 ·exact .inr ⟨b,ds,h1,h2,h _ _ h3,h4⟩
theorem TVs.imp {H H':Hp} (h:∀ b xs,jR H b xs→jR H' b xs) {ks:List (Key × V)} {kvs:List (D × D)} (q:TVs H ks kvs):TVs H' ks kvs:=by
 induction q with
 | nil=>exact .nil
 | cons t _ ih=>exact .cons (t.imp h) ih
def CP:List (D × D)→Bool
 | []=>true
 | (_,.int _) :: r=>CP r
 | (_,.bool _) :: r=>CP r
 | _=>false
def DH (H:Hp) (u:HO) (kvs:List (D × D)):Prop:=(CP kvs=true∧u=dh0 kvs)∨∃ ks,u = .dK ks∧TVs H ks kvs
theorem DH.imp {H H':Hp} (h:∀ b xs,jR H b xs→jR H' b xs) {u:HO} {kvs:List (D × D)} (q:DH H u kvs):DH H' u kvs:=by
 rcases q with q | ⟨ks,q1,q2⟩
 ·exact .inl q
 ·exact .inr ⟨ks,q1,q2.imp h⟩
theorem DH.same {H H':Hp} {u:HO} {kvs:List (D × D)} (q:DH H u kvs) (e:Same H H'):DH H' u kvs:=q.imp fun _ _ h=>jR.same e h
theorem DH.upd {H:Hp} {a:Addr} {u o u':HO} [cu:Chg u] {kvs:List (D × D)} (q:DH H u' kvs) (h:H a=some u):DH (upd H a o) u' kvs:=q.imp fun _ _ z=>jR.upd h z
theorem DH.or {H:Hp} {u:HO} {kvs:List (D × D)} (q:DH H u kvs):(∃ ks,u = .dK ks)∨∃ ks,u = .dT ks:=by
 rcases q with ⟨_,rfl⟩ | ⟨ks,rfl,_⟩
 ·exact Jk kvs
 ·exact .inl ⟨ks,rfl⟩
theorem DH.chg {H:Hp} {u:HO} {kvs:List (D × D)} (q:DH H u kvs):Chg u:=⟨.inr q.or⟩
theorem DH.old {H:Hp} {u:HO} {kvs:List (D × D)} (q:DH H u kvs) (h:CP kvs=true):u=dh0 kvs:=by
 rcases q with q | ⟨ks,rfl,q⟩
 ·exact q.2
 ·cases q with
  | nil=>rfl
  | cons t _ =>
   rcases t with ⟨_,rfl⟩ | ⟨_,_,_,rfl,_,_⟩ <;> cases h
mutual
inductive RA (K:PySem.W.Frag) (ok:Ok) (pl:Bool) (H:Hp):V→D→Prop
 | non:RA K ok pl H .non .none
 | bl (b:Bool):RA K ok pl H (.bl b) (.bool b)
 | int (i:Int):RA K ok pl H (.int i) (.int i)
 | str (x:Str):RA K ok pl H (.str x) (.str x)
 | lst {a:Addr} {xs:List V} {ds:List D}:H a=some (.lst xs)→ok a→RAs K ok pl H xs ds→RA K ok pl H (.ref a) (.list ds)
 | lsk {a:Addr} {xs:List V} {ds:List D}:SqK K H a xs→pl=true→RAs K ok pl H xs ds→RA K ok pl H (.ref a) (.list ds)
 | tup {a:Addr} {xs:List V} {ds:List D}:jR H a xs→RAs K ok pl H xs ds→RA K ok pl H (.ref a) (.tuple ds)
 | dic {a:Addr} {u:HO} {kvs:List (D × D)}:H a=some u→DH H u kvs→ok a→RA K ok pl H (.ref a) (.dict kvs)
 | dik {a:Addr} {u:HO} {kvs:List (D × D)} {o:Obj}:H a=some (.frz o u)→DH H u kvs→pl=true→RA K ok pl H (.ref a) (.dict kvs)
inductive RAs (K:PySem.W.Frag) (ok:Ok) (pl:Bool) (H:Hp):List V→List D→Prop
 | nil:RAs K ok pl H [] []
 | cons {v:V} {d:D} {vs:List V} {ds:List D}:RA K ok pl H v d→RAs K ok pl H vs ds→RAs K ok pl H (v :: vs) (d :: ds)
end
section
variable {K:PySem.W.Frag} {ok ok':Ok} {pl pl':Bool} {H H':Hp}
theorem RA.ind {P:V→D→Prop} {Q:List V→List D→Prop} (c1:P .non .none) (c2:∀ b,P (.bl b) (.bool b)) (c3:∀ i,P (.int i) (.int i)) (c4:∀ x,P (.str x) (.str x))
 (c5:∀ {a:Addr} {xs:List V} {ds:List D},H a=some (.lst xs)→ok a→Q xs ds→P (.ref a) (.list ds)) (c6:∀ {a:Addr} {xs:List V} {ds:List D},SqK K H a xs→pl=true→Q xs ds→P (.ref a) (.list ds)) (c7:∀ {a:Addr} {xs:List V} {ds:List D},jR H a xs→Q xs ds→P (.ref a) (.tuple ds))
 (c8:∀ {a:Addr} {u:HO} {kvs:List (D × D)},H a=some u→DH H u kvs→ok a→P (.ref a) (.dict kvs)) (c9:∀ {a:Addr} {u:HO} {kvs:List (D × D)} {o:Obj},H a=some (.frz o u)→DH H u kvs→pl=true→P (.ref a) (.dict kvs)) (c10:Q [] []) (c11:∀ {v:V} {d:D} {vs:List V} {ds:List D},P v d→Q vs ds→Q (v :: vs) (d :: ds)) :
 (∀ {v:V} {d:D},RA K ok pl H v d→P v d)∧∀ {v:List V} {d:List D},RAs K ok pl H v d→Q v d :=
 ⟨fun h=>RA.rec (motive_1:=fun v d _=>P v d) (motive_2:=fun v d _=>Q v d) c1 c2 c3 c4 (fun h o _ q=>c5 h o q) (fun h o _ q=>c6 h o q) (fun h _ q=>c7 h q) (fun h g o=>c8 h g o) (fun h g o=>c9 h g o) c10 (fun _ _ a q=>c11 a q) h,
  fun h=>RAs.rec (motive_1:=fun v d _=>P v d) (motive_2:=fun v d _=>Q v d) c1 c2 c3 c4 (fun h o _ q=>c5 h o q) (fun h o _ q=>c6 h o q) (fun h _ q=>c7 h q) (fun h g o=>c8 h g o) (fun h g o=>c9 h g o) c10 (fun _ _ a q=>c11 a q) h⟩
theorem RA.imp2 (ho:∀ a,ok a→ok' a) (hp:pl=true→pl'=true):(∀ {v:V} {d:D},RA K ok pl H v d→RA K ok' pl' H v d)∧∀ {v:List V} {d:List D},RAs K ok pl H v d→RAs K ok' pl' H v d :=
 RA.ind .non .bl .int .str (fun h o q=>.lst h (ho _ o) q) (fun h o q=>.lsk h (hp o) q) (fun h q=>.tup h q) (fun h g o=>.dic h g (ho _ o)) (fun h g o=>.dik h g (hp o)) .nil .cons
theorem RA.imp (ho:∀ a,ok a→ok' a) (hp:pl=true→pl'=true) {v:V} {d:D} (h:RA K ok pl H v d):RA K ok' pl' H v d:=(RA.imp2 ho hp).1 h
theorem RAs.imp (ho:∀ a,ok a→ok' a) (hp:pl=true→pl'=true) {v:List V} {d:List D} (h:RAs K ok pl H v d):RAs K ok' pl' H v d:=(RA.imp2 ho hp).2 h
theorem SqK.same {a:Addr} {xs:List V} (e:Same H H') (h:SqK K H a xs):SqK K H' a xs:=by
 rcases h with ⟨o,h⟩ | h
 ·exact .inl ⟨o,e _ _ h⟩
 ·exact .inr h
theorem RA.same2 (e:Same H H'):(∀ {v:V} {d:D},RA K ok pl H v d→RA K ok pl H' v d)∧∀ {v:List V} {d:List D},RAs K ok pl H v d→RAs K ok pl H' v d :=
 RA.ind .non .bl .int .str (fun h o q=>.lst (e _ _ h) o q) (fun h o q=>.lsk (h.same e) o q) (fun h q=>.tup (jR.same e h) q) (fun h g o=>.dic (e _ _ h) (g.same e) o) (fun h g o=>.dik (e _ _ h) (g.same e) o) .nil .cons
theorem RA.same (e:Same H H') {v:V} {d:D} (h:RA K ok pl H v d):RA K ok pl H' v d:=(RA.same2 e).1 h
theorem RAs.same (e:Same H H') {v:List V} {d:List D} (h:RAs K ok pl H v d):RAs K ok pl H' v d:=(RA.same2 e).2 h
theorem RA.flat2:(∀ {v:V} {d:D},RA K ok pl H v d→flat d=true→RA K ok' pl' H v d)∧∀ {v:List V} {d:List D},RAs K ok pl H v d→flats d=true→RAs K ok' pl' H v d :=
 RA.ind (fun _=>.non) (fun b _=>.bl b) (fun i _=>.int i) (fun x _=>.str x) (fun _ _ _ h=>by simp [D3.flat] at h) (fun _ _ _ h=>by simp [D3.flat] at h) (fun t q h=>.tup t (q (by simpa [D3.flat] using h))) (fun _ _ _ h=>by simp [D3.flat] at h) (fun _ _ _ h=>by simp [D3.flat] at h) (fun _=>.nil) fun a q h=>by
  rw [flats,aL] at h
  exact .cons (a h.1) (q h.2)
theorem RA.flat {v:V} {d:D} (hf:flat d=true) (h:RA K ok pl H v d):RA K ok' pl' H v d:=RA.flat2.1 h hf
theorem RAs.flat {v:List V} {d:List D} (hf:flats d=true) (h:RAs K ok pl H v d):RAs K ok' pl' H v d:=RA.flat2.2 h hf
theorem SqK.upd {a b:Addr} {xs:List V} {u o:HO} [cu:Chg u] (h:H a=some u) (q:SqK K H b xs):SqK K (upd H a o) b xs:=by
 rcases q with ⟨o',q⟩ | q
 ·refine .inl ⟨o',?_⟩
  rw [cI (Em q h (by intro z;subst z;first | exact cu.frz | exact cu.tup))]
  exact q
 ·exact .inr q
theorem RA.upd2 {a:Addr} {u o:HO} [cu:Chg u] (h:H a=some u) (na:¬ ok a):(∀ {v:V} {d:D},RA K ok pl H v d→RA K ok pl (upd H a o) v d)∧∀ {v:List V} {d:List D},RAs K ok pl H v d→RAs K ok pl (upd H a o) v d :=
 RA.ind .non .bl .int .str (fun e k q=>.lst (by rw [cI (by intro z;subst z;exact na k)];exact e) k q) (fun e k q=>.lsk (e.upd h) k q) (fun e q=>.tup (jR.upd h e) q) (fun e g k=>.dic (by rw [cI (by intro z;subst z;exact na k)];exact e) (g.upd h) k) (fun e g k=>.dik (by rw [cI (Em e h (by intro z;subst z;exact cu.frz))];exact e) (g.upd h) k) .nil .cons
theorem RA.upd {a:Addr} {u o:HO} [cu:Chg u] (h:H a=some u) (na:¬ ok a) {v:V} {d:D} (r:RA K ok pl H v d):RA K ok pl (upd H a o) v d:=(RA.upd2 h na).1 r
theorem RAs.upd {a:Addr} {u o:HO} [cu:Chg u] (h:H a=some u) (na:¬ ok a) {v:List V} {d:List D} (r:RAs K ok pl H v d):RAs K ok pl (upd H a o) v d:=(RA.upd2 h na).2 r
theorem RA.track2:(∀ {v:V} {d:D},RA K ok pl H v d→RA K (fun b=>ok b∧H b ≠ none) pl H v d)∧∀ {v:List V} {d:List D},RAs K ok pl H v d→RAs K (fun b=>ok b∧H b ≠ none) pl H v d :=
 RA.ind .non .bl .int .str (fun e k q=>.lst e ⟨k,by rw [e];simp⟩ q) (fun e k q=>.lsk e k q) (fun e q=>.tup e q) (fun e g k=>.dic e g ⟨k,by rw [e];simp⟩) (fun e g k=>.dik e g k) .nil .cons
theorem RA.track {v:V} {d:D} (h:RA K ok pl H v d):RA K (fun b=>ok b∧H b ≠ none) pl H v d:=RA.track2.1 h
theorem RAs.track {v:List V} {d:List D} (h:RAs K ok pl H v d):RAs K (fun b=>ok b∧H b ≠ none) pl H v d:=RA.track2.2 h
theorem RAs.length:∀ {v:List V} {d:List D},RAs K ok pl H v d→v.length=d.length
 | _,_,.nil=>rfl
 | _,_,.cons _ q=>by simp [RAs.length q]
theorem RAs.get:∀ {v:List V} {d:List D} {i:Nat} {x:D},RAs K ok pl H v d→d[i]? = some x→∃ y,v[i]? = some y∧RA K ok pl H y x
 | _,_,_,_,.nil,h=>by simp at h
 | _,_,0,_,.cons a _,h=>by simp at h;subst h;exact ⟨_,rfl,a⟩
 | _,_,i + 1,_,.cons _ q,h=>by
  obtain ⟨y,e,r⟩:=RAs.get (i:=i) q (by simpa using h)
  exact ⟨y,by simpa using e,r⟩
theorem RAs.append:∀ {v v':List V} {d d':List D},RAs K ok pl H v d→RAs K ok pl H v' d'→RAs K ok pl H (v++v') (d++d')
 | _,_,_,_,.nil,q=>q
 | _,_,_,_,.cons a r,q=>.cons a (RAs.append r q)
theorem RAs.set {x:V} {y:D} (r:RA K ok pl H x y):∀ {v:List V} {d:List D} (i:Nat),RAs K ok pl H v d→RAs K ok pl H (v.set i x) (d.set i y)
 | _,_,_,.nil=>.nil
 | _,_,0,.cons _ q=>.cons r q
 | _,_,i + 1,.cons a q=>.cons a (RAs.set r i q)
theorem RAs.take:∀ {v:List V} {d:List D} (n:Nat),RAs K ok pl H v d→RAs K ok pl H (v.take n) (d.take n)
 | _,_,0,_=>by simp;exact .nil
 | _,_,_ + 1,.nil=>.nil
 | _,_,n + 1,.cons a q=>.cons a (RAs.take n q)
theorem RAs.drop:∀ {v:List V} {d:List D} (n:Nat),RAs K ok pl H v d→RAs K ok pl H (v.drop n) (d.drop n)
 | _,_,0,q=>q
 | _,_,_ + 1,.nil=>.nil
 | _,_,n + 1,.cons _ q=>RAs.drop n q
theorem RA.rd2:(∀ {v:V} {d:D},RA K ok pl H v d→d.canLay0=true→RdV K H v d)∧∀ {v:List V} {d:List D},RAs K ok pl H v d→PyData.canLayAll0 d=true→RdVs K H v d :=
 RA.ind (fun _=>.non) (fun b _=>.bl b) (fun i _=>.int i) (fun x _=>.str x) (fun e _ q h=>.lst (SqL.of e) (q (by simpa [PyData.canLay0] using h))) (fun e _ q h=>.lst e.sq (q (by simpa [PyData.canLay0] using h))) (fun e q h=>.tup e.sq (q (by simpa [PyData.canLay0] using h))) (fun _ _ _ h=>by simp [PyData.canLay0] at h) (fun _ _ _ h=>by simp [PyData.canLay0] at h) (fun _=>.nil) fun a q h=>by
  rw [PyData.canLayAll0,aL] at h
  exact .cons (a h.1) (q h.2)
theorem RA.rd {v:V} {d:D} (hf:d.canLay0=true) (h:RA K ok pl H v d):RdV K H v d:=RA.rd2.1 h hf
theorem RA.intE {v:V} {i:Int} (h:RA K ok pl H v (.int i)):v = .int i:=by cases h;rfl
theorem RA.blE {v:V} {b:Bool} (h:RA K ok pl H v (.bool b)):v = .bl b:=by cases h;rfl
theorem RA.nonE {v:V} (h:RA K ok pl H v .none):v = .non:=by cases h;rfl
theorem RA.lstE {v:V} {ds:List D} (h:RA K ok pl H v (.list ds)):∃ a xs,v = .ref a∧SqL K H a xs∧RAs K ok pl H xs ds:=by
 cases h with
 | lst e k q=>exact ⟨_,_,rfl,SqL.of e,q⟩
 | lsk e k q=>exact ⟨_,_,rfl,e.sq,q⟩
theorem RA.dicU {v:V} {kvs:List (D × D)} (h:RA K ok pl H v (.dict kvs)):∃ a u,v = .ref a∧L2.Rd H a u∧DH H u kvs:=by
 cases h with
 | dic e g k=>exact ⟨_,_,rfl,.inl e,g⟩
 | dik e g k=>exact ⟨_,_,rfl,.inr ⟨_,e⟩,g⟩
theorem RA.dicE {v:V} {kvs:List (D × D)} (h:RA K ok pl H v (.dict kvs)) (ho:CP kvs=true):∃ a,v = .ref a∧L2.Rd H a (dh0 kvs):=by
 obtain ⟨a,u,h1,h2,h3⟩:=h.dicU
 rw [h3.old ho] at h2
 exact ⟨a,h1,h2⟩
theorem RA.tupE {v:V} {ds:List D} (h:RA K ok pl H v (.tuple ds)):∃ a xs,v = .ref a∧SqT K H a xs∧RAs K ok pl H xs ds:=by
 cases h with
 | tup e q=>exact ⟨_,_,rfl,e.sq,q⟩
theorem RA.tupE0 {v:V} {ds:List D} (h:RA K ok pl H v (.tuple ds)):∃ a xs,v = .ref a∧jR H a xs∧RAs K ok pl H xs ds:=by
 cases h with
 | tup e q=>exact ⟨_,_,rfl,e,q⟩
end
inductive Fl where
 | A
 | O
 | L
 | N
 | M
 deriving DecidableEq
def isN:Option Fl→Bool
 | some .N=>true
 | some .M=>true
 | _=>false
mutual
inductive RT (K:PySem.W.Frag) (H:Hp):V→D→List Addr→Prop
 | non:RT K H .non .none []
 | bl (b:Bool):RT K H (.bl b) (.bool b) []
 | int (i:Int):RT K H (.int i) (.int i) []
 | str (x:Str):RT K H (.str x) (.str x) []
 | lst {a:Addr} {xs:List V} {ds:List D} {as:List Addr}:H a=some (.lst xs)→RTs K H xs ds as→RT K H (.ref a) (.list ds) (a :: as)
 | tup {a:Addr} {xs:List V} {ds:List D} {as:List Addr}:jR H a xs→RTs K H xs ds as→RT K H (.ref a) (.tuple ds) as
 | dic {a:Addr} {u:HO} {kvs:List (D × D)}:H a=some u→DH H u kvs→RT K H (.ref a) (.dict kvs) [a]
inductive RTs (K:PySem.W.Frag) (H:Hp):List V→List D→List Addr→Prop
 | nil:RTs K H [] [] []
 | cons {v:V} {d:D} {vs:List V} {ds:List D} {as bs:List Addr}:RT K H v d as→RTs K H vs ds bs→RTs K H (v :: vs) (d :: ds) (as++bs)
end
section
variable {K:PySem.W.Frag} {H H':Hp}
theorem RT.ind {P:V→D→List Addr→Prop} {Q:List V→List D→List Addr→Prop} (c1:P .non .none []) (c2:∀ b,P (.bl b) (.bool b) []) (c3:∀ i,P (.int i) (.int i) []) (c4:∀ x,P (.str x) (.str x) [])
 (c5:∀ {a:Addr} {xs:List V} {ds:List D} {as:List Addr},H a=some (.lst xs)→Q xs ds as→P (.ref a) (.list ds) (a :: as)) (c7:∀ {a:Addr} {xs:List V} {ds:List D} {as:List Addr},jR H a xs→Q xs ds as→P (.ref a) (.tuple ds) as)
 (c8:∀ {a:Addr} {u:HO} {kvs:List (D × D)},H a=some u→DH H u kvs→P (.ref a) (.dict kvs) [a]) (c10:Q [] [] []) (c11:∀ {v:V} {d:D} {vs:List V} {ds:List D} {as bs:List Addr},P v d as→Q vs ds bs→Q (v :: vs) (d :: ds) (as++bs)) :
 (∀ {v:V} {d:D} {as:List Addr},RT K H v d as→P v d as)∧∀ {v:List V} {d:List D} {as:List Addr},RTs K H v d as→Q v d as :=
 ⟨fun h=>RT.rec (motive_1:=fun v d as _=>P v d as) (motive_2:=fun v d as _=>Q v d as) c1 c2 c3 c4 (fun h _ q=>c5 h q) (fun h _ q=>c7 h q) (fun h g=>c8 h g) c10 (fun _ _ a q=>c11 a q) h,
  fun h=>RTs.rec (motive_1:=fun v d as _=>P v d as) (motive_2:=fun v d as _=>Q v d as) c1 c2 c3 c4 (fun h _ q=>c5 h q) (fun h _ q=>c7 h q) (fun h g=>c8 h g) c10 (fun _ _ a q=>c11 a q) h⟩
theorem RT.ra2 {ok:Ok} {pl:Bool}:(∀ {v:V} {d:D} {as:List Addr},RT K H v d as→(∀ a ∈ as,ok a)→RA K ok pl H v d)∧∀ {v:List V} {d:List D} {as:List Addr},RTs K H v d as→(∀ a ∈ as,ok a)→RAs K ok pl H v d :=
 RT.ind (fun _=>.non) (fun b _=>.bl b) (fun i _=>.int i) (fun x _=>.str x) (fun e q h=>.lst e (h _ aM) (q fun a ha=>h a (aO _ ha))) (fun e q h=>.tup e (q h)) (fun e g h=>.dic e g (h _ aM)) (fun _=>.nil) fun e q h=>.cons (e fun a ha=>h a (bx _ ha)) (q fun a ha=>h a (aU _ ha))
theorem RT.ra {ok:Ok} {pl:Bool} {v:V} {d:D} {as:List Addr} (r:RT K H v d as) (h:∀ a ∈ as,ok a):RA K ok pl H v d:=RT.ra2.1 r h
theorem RT.same2 (s:Same H H'):(∀ {v:V} {d:D} {as:List Addr},RT K H v d as→RT K H' v d as)∧∀ {v:List V} {d:List D} {as:List Addr},RTs K H v d as→RTs K H' v d as :=
 RT.ind .non .bl .int .str (fun e q=>.lst (s _ _ e) q) (fun e q=>.tup (jR.same s e) q) (fun e g=>.dic (s _ _ e) (g.same s)) .nil .cons
theorem RT.same (s:Same H H') {v:V} {d:D} {as:List Addr} (h:RT K H v d as):RT K H' v d as:=(RT.same2 s).1 h
theorem RTs.same (s:Same H H') {v:List V} {d:List D} {as:List Addr} (h:RTs K H v d as):RTs K H' v d as:=(RT.same2 s).2 h
theorem RT.upd2 {a:Addr} {u o:HO} [cu:Chg u] (h:H a=some u):(∀ {v:V} {d:D} {as:List Addr},RT K H v d as→a ∉ as→RT K (upd H a o) v d as)∧∀ {v:List V} {d:List D} {as:List Addr},RTs K H v d as→a ∉ as→RTs K (upd H a o) v d as :=
 RT.ind (fun _=>.non) (fun b _=>.bl b) (fun i _=>.int i) (fun x _=>.str x) (fun e q na=>.lst (by rw [cI (fun z=>na (by rw [← z];exact aM))];exact e) (q fun z=>na (aO _ z))) (fun e q na=>.tup (jR.upd h e) (q na)) (fun e g na=>.dic (by rw [cI (fun z=>na (by rw [← z];exact aM))];exact e) (g.upd h)) (fun _=>.nil) fun e q na=>.cons (e fun z=>na (bx _ z)) (q fun z=>na (aU _ z))
theorem RT.upd {a:Addr} {u o:HO} [cu:Chg u] (h:H a=some u) {v:V} {d:D} {as:List Addr} (na:a ∉ as) (r:RT K H v d as):RT K (upd H a o) v d as:=(RT.upd2 h).1 r na
theorem RTs.upd {a:Addr} {u o:HO} [cu:Chg u] (h:H a=some u) {v:List V} {d:List D} {as:List Addr} (na:a ∉ as) (r:RTs K H v d as):RTs K (upd H a o) v d as:=(RT.upd2 h).2 r na
theorem RT.chd2:(∀ {v:V} {d:D} {as:List Addr},RT K H v d as→∀ a ∈ as,Chd (H a))∧∀ {v:List V} {d:List D} {as:List Addr},RTs K H v d as→∀ a ∈ as,Chd (H a) :=
 RT.ind (fun _ h=>by cases h) (fun _ _ h=>by cases h) (fun _ _ h=>by cases h) (fun _ _ h=>by cases h) (fun e q a h=>by
  rcases bF.mp h with rfl | z
  ·exact ⟨_,e,inferInstance⟩
  ·exact q a z) (fun _ q=>q) (fun e g a h=>by rw [aK.mp h];exact ⟨_,e,g.chg⟩) (fun _ h=>by cases h) fun e q a h=>by
  rcases aX.mp h with z | z
  ·exact e a z
  ·exact q a z
theorem RT.chd {v:V} {d:D} {as:List Addr} (r:RT K H v d as):∀ a ∈ as,Chd (H a):=RT.chd2.1 r
theorem RTs.chd {v:List V} {d:List D} {as:List Addr} (r:RTs K H v d as):∀ a ∈ as,Chd (H a):=RT.chd2.2 r
theorem RT.tracked {v:V} {d:D} {as:List Addr} (h:RT K H v d as) (a:Addr) (ha:a ∈ as):H a ≠ none:=(h.chd a ha).ne
theorem RA.rt2 {ok:Ok}:(∀ {v:V} {d:D},RA K ok false H v d→∃ as,RT K H v d as∧as.length=nl d∧∀ a ∈ as,ok a)∧∀ {v:List V} {d:List D},RAs K ok false H v d→∃ as,RTs K H v d as∧as.length=nls d∧∀ a ∈ as,ok a :=
 RA.ind ⟨[],.non,rfl,fun _ h=>by cases h⟩ (fun b=>⟨[],.bl b,rfl,fun _ h=>by cases h⟩) (fun i=>⟨[],.int i,rfl,fun _ h=>by cases h⟩) (fun x=>⟨[],.str x,rfl,fun _ h=>by cases h⟩) (fun e k q=>by
  obtain ⟨as,h1,h2,h3⟩:=q
  refine ⟨_ :: as,.lst e h1,by rw [bQ,h2,nl],fun a ha=>?_⟩
  rcases bF.mp ha with rfl | z
  ·exact k
  ·exact h3 a z) (fun _ k _=>by cases k) (fun e q=>by
  obtain ⟨as,h1,h2,h3⟩:=q
  exact ⟨as,.tup e h1,by rw [h2,nl],h3⟩) (fun e g k=>⟨[_],.dic e g,by simp [nl],fun a ha=>by rw [aK.mp ha];exact k⟩) (fun _ _ k=>by cases k) ⟨[],.nil,rfl,fun _ h=>by cases h⟩ fun e q=>by
  obtain ⟨as,h1,h2,h3⟩:=e
  obtain ⟨bs,g1,g2,g3⟩:=q
  refine ⟨as++bs,.cons h1 g1,by rw [bH,h2,g2,nls],fun a ha=>?_⟩
  rcases aX.mp ha with z | z
  ·exact h3 a z
  ·exact g3 a z
theorem RA.rt {ok:Ok} {v:V} {d:D} (h:RA K ok false H v d):∃ as,RT K H v d as∧as.length=nl d∧∀ a ∈ as,ok a:=RA.rt2.1 h
end
def tabs:List (Addr × Str × Pos):=[(187, "still_to_come.<locals>.<lambda>", ⟨70,30,70,59⟩)]
def Tb (H:Hp):Prop:=∀ t ∈ tabs,H t.1=some (.tbl t.2.1 t.2.2)
theorem Tb.same {H H':Hp} (t:Tb H) (s:Same H H'):Tb H':=fun x hx=>s _ _ (t x hx)
structure Gh where
 H0:Hp
 HF:Hp
 pk:Nat→Option Addr
 pn:Nat→List Addr
 tb:Tb H0
structure Ow where
 s:Nat→Option Addr
 n:Nat→List Addr:=fun _=>[]
instance:CoeFun Ow (fun _=>Nat→Option Addr):=⟨Ow.s⟩
abbrev ow0:Ow:=⟨fun _=>none,fun _=>[]⟩
def okA (ow:Ow):Ok:=fun a=>(∀ i,ow i ≠ some a)∧∀ i,a ∉ ow.n i
structure Rel (K:PySem.W.Frag) (fl:List Fl) (G:Gh) (ow:Ow) (σ:St) (H:Hp) (δ:DS):Prop where
 s0:Same G.H0 G.HF
 s1:Same G.HF H
 len:σ.length=δ.length
 own:∀ i a,ow i=some a→G.H0 a=none∧((fl[i]? = some .O∧G.HF a=none)∨(fl[i]? = some .L∧∃ xs,G.HF a=some (.lst xs))) ∧
  ∃ xs ds,σ[i]? = some (some (.ref a))∧H a=some (.lst xs)∧RAs K (okA ow) true H xs ds∧δ[i]? = some (some (.d (.list ds)))
 inj:∀ i j a,ow i=some a→ow j=some a→i=j
 pin:∀ i,fl[i]? = some .L→ow i=G.pk i
 dat:∀ i d,δ[i]? = some (some (.d d))→isN fl[i]? = false→ow i=none→∃ v,σ[i]? = some (some v)∧RA K (okA ow) true H v d
 oo:∀ i d,δ[i]? = some (some (.d d))→isN fl[i]? = false→fl[i]? ≠ some .A→ow i=none→flat d=true
 nt:∀ i a,a ∈ ow.n i→G.H0 a=none∧Chd (H a)∧((fl[i]? = some .N∧G.HF a=none)∨fl[i]? = some .M)
 nd:∀ i j a,a ∈ ow.n i→a ∈ ow.n j→i=j
 ns:∀ i j a,a ∈ ow.n i→ow j ≠ some a
 np:∀ i,fl[i]? = some .M→ow.n i=G.pn i
 nr:∀ i d,isN fl[i]? = true→δ[i]? = some (some (.d d))→∃ v,σ[i]? = some (some v)∧RT K H v d (ow.n i)∧(ow.n i).Nodup
theorem Rel.tb {K:PySem.W.Frag} {fl:List Fl} {G:Gh} {ow:Ow} {σ:St} {H:Hp} {δ:DS} (R:Rel K fl G ow σ H δ):Tb H:=G.tb.same (R.s0.trans R.s1)
theorem Rel.same0 {K:PySem.W.Frag} {fl:List Fl} {G:Gh} {ow:Ow} {σ:St} {H:Hp} {δ:DS} (R:Rel K fl G ow σ H δ):Same G.H0 H:=R.s0.trans R.s1
theorem Rel.grow {K:PySem.W.Frag} {fl:List Fl} {G:Gh} {ow:Ow} {σ:St} {H H':Hp} {δ:DS} (R:Rel K fl G ow σ H δ) (e:Same H H'):Rel K fl G ow σ H' δ :=
 ⟨R.s0,R.s1.trans e,R.len,fun i a h=>by
  obtain ⟨h0,hf,xs,ds,h1,h2,h3,h4⟩:=R.own i a h
  exact ⟨h0,hf,xs,ds,h1,e _ _ h2,h3.same e,h4⟩,R.inj,R.pin,fun i d h1 hn h2=>by
  obtain ⟨v,h3,h4⟩:=R.dat i d h1 hn h2
  exact ⟨v,h3,h4.same e⟩,R.oo,fun i a h=>by
  obtain ⟨h1,h2,h3⟩:=R.nt i a h
  exact ⟨h1,(let ⟨u,z,c⟩:=h2;⟨u,e _ _ z,c⟩),h3⟩,R.nd,R.ns,R.np,fun i d h1 h2=>by
  obtain ⟨v,h3,h4,h5⟩:=R.nr i d h1 h2
  exact ⟨v,h3,h4.same e,h5⟩⟩
inductive Kd where
 | P
 | B (L:List Nat)
 | A
 | R
 | F
 | C
 | FC
 | T
def ok1:Ok:=fun _=>True
def ok0:Ok:=fun _=>False
def okN (H:Hp):Ok:=fun a=>H a=none
def Rs (K:PySem.W.Frag) (H0:Hp) (ow:Ow) (Hb H:Hp):Kd→V→D→Prop
 | .P,v,d=>RA K ok1 true H v d
 | .B L,v,d=>RA K (okA ow) true H v d∨∃ i ∈ L,∃ a xs ds,ow i=some a∧v = .ref a∧d = .list ds∧H a=some (.lst xs)∧RAs K (okA ow) true H xs ds
 | .A,v,d=>RA K (okA ow) true H v d
 | .R,v,d=>RA K (okN H0) false H v d
 | .F,v,d=>(flat d=true∧RA K ok0 false H v d)∨∃ a xs ds,v = .ref a∧d = .list ds∧Hb a=none∧H a=some (.lst xs)∧RAs K (fun b=>okA ow b∧b ≠ a) true H xs ds
 | .C,v,d=>RA K (okN Hb) false H v d
 | .T,v,d=>∃ as,RT K H v d as∧as.Nodup∧∀ a ∈ as,Hb a=none
 | .FC,v,d=>(flat d=true∧RA K ok0 false H v d)∨∃ a xs ds,v = .ref a∧d = .list ds∧Hb a=none∧H a=some (.lst xs)∧RAs K (fun b=>okN Hb b∧b ≠ a) false H xs ds
section
variable {K:PySem.W.Frag} {Hb H H':Hp} {fl:List Fl} {G:Gh} {ow:Ow} {σ:St} {δ:DS} {v:V} {d:D}
theorem yQ (R:Rel K fl G ow σ Hb δ) {a:Addr} (h:Hb a=none):okA ow a:=⟨fun i e=>(by
 obtain ⟨_,_,xs,_,_,h2,_⟩:=R.own i a e
 rw [h] at h2
 cases h2),fun i e=>(R.nt i a e).2.1.ne h⟩
theorem Vw (R:Rel K fl G ow σ Hb δ) {a:Addr} (h:Hb a=none):okN G.H0 a:=R.same0.free h
theorem Rs.FC_F (R:Rel K fl G ow σ Hb δ) (h:Rs K G.H0 ow Hb H .FC v d):Rs K G.H0 ow Hb H .F v d:=by
 rcases h with h | ⟨a,xs,ds,h1,h2,h3,h4,h5⟩
 ·exact .inl h
 ·exact .inr ⟨a,xs,ds,h1,h2,h3,h4,h5.imp (fun b z=>⟨yQ R z.1,z.2⟩) (fun _=>rfl)⟩
theorem Rs.FC_C (h:Rs K G.H0 ow Hb H .FC v d):Rs K G.H0 ow Hb H .C v d:=by
 rcases h with h | ⟨a,xs,ds,rfl,rfl,h3,h4,h5⟩
 ·exact RA.flat h.1 h.2
 ·exact .lst h4 h3 (h5.imp (fun b z=>z.1) (fun z=>z))
theorem Rs.F_A (R:Rel K fl G ow σ Hb δ) (h:Rs K G.H0 ow Hb H .F v d):Rs K G.H0 ow Hb H .A v d:=by
 rcases h with h | ⟨a,xs,ds,rfl,rfl,h3,h4,h5⟩
 ·exact RA.flat h.1 h.2
 ·exact .lst h4 (yQ R h3) (h5.imp (fun b z=>z.1) (fun z=>z))
theorem Rs.C_A (R:Rel K fl G ow σ Hb δ) (h:Rs K G.H0 ow Hb H .C v d):Rs K G.H0 ow Hb H .A v d:=RA.imp (fun _ z=>yQ R z) (fun _=>rfl) h
theorem Rs.C_R (R:Rel K fl G ow σ Hb δ) (h:Rs K G.H0 ow Hb H .C v d):Rs K G.H0 ow Hb H .R v d:=RA.imp (fun _ z=>Vw R z) (fun z=>z) h
theorem Rs.A_B (L:List Nat) (h:Rs K G.H0 ow Hb H .A v d):Rs K G.H0 ow Hb H (.B L) v d:=.inl h
theorem Rs.B_P {L:List Nat} (h:Rs K G.H0 ow Hb H (.B L) v d):Rs K G.H0 ow Hb H .P v d:=by
 rcases h with h | ⟨i,_,a,xs,ds,_,rfl,rfl,h4,h5⟩
 ·exact RA.imp (fun _ _=>trivial) (fun z=>z) h
 ·exact .lst h4 trivial (h5.imp (fun _ _=>trivial) (fun z=>z))
theorem Rs.P_flat (hf:flat d=true) (h:Rs K G.H0 ow Hb H .P v d):Rs K G.H0 ow Hb H .FC v d:=.inl ⟨hf,RA.flat hf h⟩
theorem Rs.C_fl1 (hf:fl1 d=true) (h:Rs K G.H0 ow Hb H .C v d):Rs K G.H0 ow Hb H .FC v d:=by
 by_cases e:∃ ds,d = .list ds
 ·obtain ⟨ds,rfl⟩:=e
  cases h with
  | lst e k q=>exact .inr ⟨_,_,_,rfl,rfl,k,e,RAs.flat hf q⟩
  | lsk e k q=>cases k
 ·have hf':flat d=true:=by
   cases d <;> first | exact hf | exact absurd ⟨_,rfl⟩ e
  exact .inl ⟨hf',RA.flat hf' h⟩
end
def tD (K:PySem.W.Frag) (fl:List Fl) (k:Kd) (f:FE):TE:=fun σ H Q=>∃ G ow δ d,Rel K fl G ow σ H δ∧f δ=some d∧∀ v H',Same H H'→Rs K G.H0 ow H H' k v d→Q v H'
abbrev DE (X:Cx) (fl:List Fl) (k:Kd) (e:Expr) (f:FE):Prop:=PE X e (tD X.K fl k f)
def tDA (K:PySem.W.Frag) (fl:List Fl) (f:FA):TA:=fun σ H Q=>∃ G ow δ ds,Rel K fl G ow σ H δ∧f δ=some ds∧∀ vs H',Same H H'→RAs K ok1 true H' vs ds→Q vs H'
abbrev DA (X:Cx) (fl:List Fl) (es:List Expr) (f:FA):Prop:=PA X es (tDA X.K fl f)
def tDT (K:PySem.W.Frag) (fl:List Fl) (f:FT):TT:=fun σ H Q=>∃ G ow δ b,Rel K fl G ow σ H δ∧f δ=some b∧∀ H',Same H H'→Q b H'
abbrev DT (X:Cx) (fl:List Fl) (e:Expr) (f:FT):Prop:=PT X e (tDT X.K fl f)
abbrev DW (X:Cx) (fl:List Fl) (e:Expr) (f:FT):Prop:=PW X e (tDT X.K fl f)
def CQ (K:PySem.W.Frag) (fl:List Fl) (G:Gh) (Dn:Ends):Oc→Prop
 | .nx δ'=>∀ ow' σ' H',Rel K fl G ow' σ' H' δ'→Dn.nx σ' H'
 | .rt d=>∀ v H',Same G.H0 H'→RA K (okN G.H0) false H' v d→Dn.rt v H'
 | .bk δ'=>∀ ow' σ' H',Rel K fl G ow' σ' H' δ'→Dn.bk σ' H'
 | .ct δ'=>∀ ow' σ' H',Rel K fl G ow' σ' H' δ'→Dn.ct σ' H'
 | .ex _ _ d=>∀ v H',Same G.H0 H'→RA K ok1 true H' v d→Dn.rt v H'
def tDS (K:PySem.W.Frag) (fl:List Fl) (f:FS):TS:=fun Dn σ H=>∃ G ow δ o,Rel K fl G ow σ H δ∧f δ=some o∧CQ K fl G Dn o
abbrev DS1 (X:Cx) (fl:List Fl) (s:Stmt) (f:FS):Prop:=PS X s (tDS X.K fl f)
abbrev DSs (X:Cx) (fl:List Fl) (s:List Stmt) (f:FS):Prop:=PSs X s (tDS X.K fl f)
def tDG (K:PySem.W.Frag) (fl:List Fl) (tg:List Nat) (g:FG):TG:=fun v σ H Q=>∃ G ow δ d δ',Rel K fl G ow σ H δ∧RA K (okA ow) true H v d∧g d δ=some δ'∧∀ σ',Rel K fl G ow σ' H δ'→(∀ j,j ∉ tg→σ'[j]? = σ[j]?)→Q σ' H
abbrev DG (X:Cx) (fl:List Fl) (tg:List Nat) (e:Expr) (g:FG):Prop:=PG X e (tDG X.K fl tg g)
section
variable {X:Cx} {e:Expr} {es:List Expr} {st:Stmt} {sts:List Stmt}
theorem PE.imp {t t':TE} (h:PE X e t) (i:∀ σ H Q,t' σ H Q→t σ H Q):PE X e t':=fun pins s σ H Q I q=>h pins s σ H Q I (i σ H Q q)
theorem PT.imp {t t':TT} (h:PT X e t) (i:∀ σ H Q,t' σ H Q→t σ H Q):PT X e t':=fun pins s σ H Q I q=>h pins s σ H Q I (i σ H Q q)
theorem PW.imp {t t':TT} (h:PW X e t) (i:∀ σ H Q,t' σ H Q→t σ H Q):PW X e t':=fun w pins s σ H Q I q=>h w pins s σ H Q I (i σ H Q q)
theorem PA.imp {t t':TA} (h:PA X es t) (i:∀ σ H Q,t' σ H Q→t σ H Q):PA X es t':=fun p pins s σ H Q I q=>h p pins s σ H Q I (i σ H Q q)
theorem PS.imp {t t':TS} (h:PS X st t) (i:∀ D σ H,t' D σ H→t D σ H):PS X st t':=fun pins s σ H D I q=>h pins s σ H D I (i D σ H q)
theorem PSs.imp {t t':TS} (h:PSs X sts t) (i:∀ D σ H,t' D σ H→t D σ H):PSs X sts t':=fun pins s σ H D I q=>h pins s σ H D I (i D σ H q)
theorem PG.imp {t t':TG} (h:PG X e t) (i:∀ v σ H Q,t' v σ H Q→t v σ H Q):PG X e t':=fun pins s σ H v u Q I r q=>h pins s σ H v u Q I r (i v σ H Q q)
end
end D3
namespace D3
open PySem PySem.Spec PyProof.Rows L2 My
section
variable {X:Cx} {fl:List Fl} {e a b c:Expr} {es:List Expr} {k:Kd} {f fa fb fc:FE} {pos:Pos}
theorem lq {i:Nat} {δ:DS} {d:D} (h:aD i δ=some d):δ[i]? = some (some (.d d)):=by
 unfold aD at h
 split at h
 ·next x e=>rw [e];cases h;rfl
 ·cases h
theorem jw (i:Nat) {x:Str} (hN:X.N[i]? = some x:=by rfl) (hv:Vis X.env.scope x:=by first | exact Or.inl rfl | exact Or.inr (Or.inl rfl) | exact Or.inr (Or.inr rfl)) (hd:(x == ("__debug__" : Str))=false:=by decide)
 (hcd:(x == ("__classdict__" : Str))=false:=by decide) (hn:isN fl[i]? = false:=by rfl):DE X fl (.B [i]) (.Name x pos) (aD i):=by
 refine PE.imp (mQ hN hv hd hcd) fun σ H Q h=>?_
 obtain ⟨G,ow,δ,d,R,hf,q⟩:=h
 have e:=lq hf
 cases ho:ow i with
 | none =>
  obtain ⟨v,h1,h2⟩:=R.dat i d e hn ho
  exact ⟨v,h1,q v H (Same.refl H) (.inl h2)⟩
 | some a =>
  obtain ⟨h0,_,xs,ds,h1,h2,h3,h4⟩:=R.own i a ho
  rw [e] at h4
  cases h4
  exact ⟨_,h1,q _ H (Same.refl H) (.inr ⟨i,aK.mpr rfl,a,xs,ds,ho,rfl,rfl,h2,h3⟩)⟩
theorem yR (i:Nat) (hfl:fl[i]? = some .A) {x:Str} (hN:X.N[i]? = some x:=by rfl) (hv:Vis X.env.scope x:=by first | exact Or.inl rfl | exact Or.inr (Or.inl rfl) | exact Or.inr (Or.inr rfl)) (hd:(x == ("__debug__" : Str))=false:=by decide)
 (hcd:(x == ("__classdict__" : Str))=false:=by decide):DE X fl .A (.Name x pos) (aD i):=by
 refine PE.imp (mQ hN hv hd hcd) fun σ H Q h=>?_
 obtain ⟨G,ow,δ,d,R,hf,q⟩:=h
 have e:=lq hf
 cases ho:ow i with
 | none =>
  obtain ⟨v,h1,h2⟩:=R.dat i d e (by rw [hfl];rfl) ho
  exact ⟨v,h1,q v H (Same.refl H) h2⟩
 | some a =>
  obtain ⟨h0,hz,_⟩:=R.own i a ho
  rw [hfl] at hz
  rcases hz with ⟨z,_⟩ | ⟨z,_⟩ <;> cases z
theorem pG (i:Nat) (hfl:fl[i]? ≠ some .A) {x:Str} (hN:X.N[i]? = some x:=by rfl) (hv:Vis X.env.scope x:=by first | exact Or.inl rfl | exact Or.inr (Or.inl rfl) | exact Or.inr (Or.inr rfl)) (hd:(x == ("__debug__" : Str))=false:=by decide)
 (hcd:(x == ("__classdict__" : Str))=false:=by decide) (hn:isN fl[i]? = false:=by rfl):DE X fl .R (.Name x pos) (sS (aD i)):=by
 refine PE.imp (mQ hN hv hd hcd) fun σ H Q h=>?_
 obtain ⟨G,ow,δ,d,R,hf,q⟩:=h
 unfold sS at hf
 cases hv':aD i δ with
 | none=>rw [hv'] at hf;cases hf
 | some d' =>
  rw [hv',aJ] at hf
  by_cases hc:fl1 d'=true
  ·rw [if_pos hc] at hf
   cases hf
   have e:=lq hv'
   cases ho:ow i with
   | none =>
    obtain ⟨v,h1,h2⟩:=R.dat i d e hn ho
    exact ⟨v,h1,q v H (Same.refl H) (RA.flat (R.oo i d e hn hfl ho) h2)⟩
   | some a =>
    obtain ⟨h0,_,xs,ds,h1,h2,h3,h4⟩:=R.own i a ho
    rw [e] at h4
    cases h4
    exact ⟨_,h1,q _ H (Same.refl H) (.lst h2 h0 (RAs.flat hc h3))⟩
  ·rw [if_neg hc] at hf
   cases hf
theorem pH {k k':Kd} (h:DE X fl k e f) (hc:∀ (Hb H:Hp) (G:Gh) (ow:Ow) (σ:St) (δ:DS) (v:V) (d:D),Rel X.K fl G ow σ Hb δ→Rs X.K G.H0 ow Hb H k v d→Rs X.K G.H0 ow Hb H k' v d):DE X fl k' e f:=by
 refine PE.imp h fun σ H Q h=>?_
 obtain ⟨G,ow,δ,d,R,hf,q⟩:=h
 exact ⟨G,ow,δ,d,R,hf,fun v H' s r=>q v H' s (hc _ _ G ow σ δ v d R r)⟩
theorem vD {k k':Kd} {p:D→Bool} (h:DE X fl k e f) (hc:∀ (Hb H:Hp) (G:Gh) (ow:Ow) (σ:St) (δ:DS) (v:V) (d:D),p d=true→Rel X.K fl G ow σ Hb δ→Rs X.K G.H0 ow Hb H k v d→Rs X.K G.H0 ow Hb H k' v d) :
 DE X fl k' e (fun δ=>(f δ).bind fun d=>if p d=true then some d else none):=by
 refine PE.imp h fun σ H Q h=>?_
 obtain ⟨G,ow,δ,d,R,hf,q⟩:=h
 dsimp only at hf
 cases hv:f δ with
 | none=>rw [hv] at hf;cases hf
 | some d' =>
  rw [hv,aJ] at hf
  by_cases hp:p d'=true
  ·rw [if_pos hp] at hf
   cases hf
   exact ⟨G,ow,δ,d,R,hv,fun v H' s r=>q v H' s (hc _ _ G ow σ δ v d hp R r)⟩
  ·rw [if_neg hp] at hf
   cases hf
theorem qp (h:DE X fl .FC e f):DE X fl .F e f:=pH h fun _ _ _ _ _ _ _ _ R r=>r.FC_F R
theorem iy (h:DE X fl .FC e f):DE X fl .C e f:=pH h fun _ _ _ _ _ _ _ _ R r=>r.FC_C
theorem qt (h:DE X fl .F e f):DE X fl .A e f:=pH h fun _ _ _ _ _ _ _ _ R r=>r.F_A R
theorem lu (h:DE X fl .C e f):DE X fl .A e f:=pH h fun _ _ _ _ _ _ _ _ R r=>r.C_A R
theorem uq (h:DE X fl .C e f):DE X fl .R e f:=pH h fun _ _ _ _ _ _ _ _ R r=>r.C_R R
theorem dH (h:DE X fl .A e f):DE X fl (.B []) e f:=pH h fun _ _ _ _ _ _ _ _ R r=>Rs.A_B [] r
theorem n6 {L:List Nat} (h:DE X fl (.B L) e f):DE X fl .P e f:=pH h fun _ _ _ _ _ _ _ _ R r=>r.B_P
theorem ig (h:DE X fl .P e f):DE X fl .FC e (dX f):=vD h fun _ _ _ _ _ _ _ _ hf R r=>r.P_flat hf
theorem Jl (h:DE X fl .C e f):DE X fl .FC e (sS f):=vD h fun _ _ _ _ _ _ _ _ hf R r=>r.C_fl1 hf
theorem gJ (h:DE X fl .FC e f):DE X fl .A e f:=qt (qp h)
theorem cj (h:DE X fl .FC e f):DE X fl .R e f:=uq (iy h)
theorem cg (h:DE X fl .A e f):DE X fl .P e f:=n6 (dH h)
theorem gF (h:DE X fl .C e f):DE X fl .P e f:=cg (lu h)
theorem bC (h:DE X fl .FC e f):DE X fl .P e f:=cg (gJ h)
theorem A_ (h:DE X fl .F e f):DE X fl .P e f:=cg (qt h)
theorem vG {v:V} {d:D} (h:PE X e (tC v)) (hf:flat d=true) (hr:∀ H,RA X.K ok0 false H v d):DE X fl .FC e (dC d):=by
 refine PE.imp h fun σ H Q h=>?_
 obtain ⟨G,ow,δ,d',R,hd,q⟩:=h
 cases hd
 exact q v H (Same.refl H) (.inl ⟨hf,hr H⟩)
theorem Jm {i j pos}:DE X fl .FC (.Constant (.int i) j pos) (dC (.int i)):=vG Q7 rfl fun _=>.int _
theorem mq {b j pos}:DE X fl .FC (.Constant (.bool b) j pos) (dC (.bool b)):=vG Qy rfl fun _=>.bl _
theorem yS {j pos}:DE X fl .FC (.Constant .none j pos) (dC .none):=vG HY rfl fun _=>.non
theorem tW {x j pos}:DE X fl .FC (.Constant (.str x) j pos) (dC (.str x)):=vG Q8 rfl fun _=>.str _
theorem M_ {x:Str} {i:Int} {pos:Pos} (h:∃ t,X.mg x=some (.int i t)) (hg:Gl X x:=by rfl) (hd:(x == ("__debug__" : Str))=false:=by decide):DE X fl .FC (.Name x pos) (dC (.int i)):=by
 obtain ⟨t,h⟩:=h
 exact vG (Mh (v:=.int i) hg h ⟨t,rfl⟩ hd) rfl fun _=>.int _
def BrO (K:PySem.W.Frag) (r:R2) (g:D→D→Option D):Prop:=∀ (H:Hp) (x y:V) (dx dy d:D) (Q:VK),RA K ok1 true H x dx→RA K ok1 true H y dy→g dx dy=some d→(∀ v,flat d=true→RA K ok0 false H v d→Q v H)→r x y H Q
theorem Ba {fa fb:FE} {g:D→D→Option D} {δ:DS} {d:D} (h:dOp g fa fb δ=some d):∃ x y,fa δ=some x∧fb δ=some y∧g x y=some d:=by
 unfold dOp at h
 cases ha:fa δ with
 | none=>rw [ha] at h;cases h
 | some x =>
  rw [ha,aJ] at h
  cases hb:fb δ with
  | none=>rw [hb] at h;cases h
  | some y =>
   rw [hb,aJ] at h
   exact ⟨x,y,rfl,rfl,h⟩
theorem bind1 {α β:Type} {x:Option α} {g:α→Option β} {d:β} (h:x.bind g=some d):∃ y,x=some y∧g y=some d:=by
 cases x with
 | none=>cases h
 | some y=>exact ⟨y,rfl,h⟩
theorem tX {r:R2} {g:D→D→Option D} {σ:St} {H:Hp} {Q:VK} (hb:BrO X.K r g) (h:tD X.K fl .FC (dOp g fa fb) σ H Q):tOp r (tD X.K fl .P fa) (tD X.K fl .P fb) σ H Q:=by
 obtain ⟨G,ow,δ,d,R,hf,q⟩:=h
 obtain ⟨x,y,e1,e2,e3⟩:=Ba hf
 refine ⟨G,ow,δ,x,R,e1,fun v H1 s1 r1=>⟨G,ow,δ,y,R.grow s1,e2,fun u H2 s2 r2=>?_⟩⟩
 exact hb H2 v u x y d Q (RA.same s2 r1) r2 e3 fun z hz rz=>q z H2 (s1.trans s2) (.inl ⟨hz,rz⟩)
theorem dO {op:Operator} {r:R2} {g:D→D→Option D} (ho:OpR X (binaryOp op) r) (hb:BrO X.K r g) (h1:DE X fl .P a fa) (h2:DE X fl .P b fb):DE X fl .FC (.BinOp a op b pos) (dOp g fa fb) :=
 PE.imp (Io ho h1 h2) fun _ _ _ h=>tX hb h
theorem mR {op:CmpOp} {r:R2} {g:D→D→Option D} (ho:OpR X (compareOp op) r) (hb:BrO X.K r g) (h1:DE X fl .P a fa) (h2:DE X fl .P b fb) (hm:behindInMarks op b=false):DE X fl .FC (.Compare a [op] [b] pos) (dOp g fa fb) :=
 PE.imp (Mu ho h1 h2 hm) fun _ _ _ h=>tX hb h
theorem cN {op:CmpOp} {r:R2} {g:D→D→Option D} (ho:OpR X (compareOp op) r) (hb:BrO X.K r g) (h1:DE X fl .P a fa) (h2:DE X fl .P b fb) (hm:behindInMarks op b=false):DT X fl (.Compare a [op] [b] pos) (aW (dOp g fa fb)):=by
 refine PT.imp (Mv ho h1 h2 hm) fun σ H Q h=>?_
 obtain ⟨G,ow,δ,c,R,hf,q⟩:=h
 obtain ⟨d,e1,e2⟩:=bind1 hf
 cases d <;> first | (cases e2;done) | skip
 cases e2
 refine tX (fl:=fl) (fa:=fa) (fb:=fb) hb ⟨G,ow,δ,_,R,e1,fun v H' s r=>?_⟩
 obtain rfl:=(Rs.FC_C r).blE
 exact ⟨_,rfl,q H' s⟩
theorem ji (h:DE X fl .P e f) (he:∀ whole,isTrue e X.env whole=(do let v ← whole;standAt e.pos;holding [v] (truthy v)):=by intro _;rfl):DT X fl e (aW f):=by
 refine PT.imp (Q_ h he) fun σ H Q h=>?_
 obtain ⟨G,ow,δ,c,R,hf,q⟩:=h
 obtain ⟨d,e1,e2⟩:=bind1 hf
 cases d <;> first | (cases e2;done) | skip
 cases e2
 refine ⟨G,ow,δ,_,R,e1,fun v H' s r=>?_⟩
 obtain rfl:=RA.blE r
 exact ⟨_,rfl,q H' s⟩
theorem yq {K:PySem.W.Frag} {h:Int→Int→V} {g:Int→Int→D} (hf:∀ i j,flat (g i j)=true) (hr:∀ H i j,RA K ok0 false H (h i j) (g i j)):BrO K (rI0 h) (gI fun i j=>some (g i j)):=by
 intro H x y dx dy d Q rx ry e q
 unfold gI at e
 split at e
 ·next i j =>
  cases e
  exact ⟨i,j,rx.intE,ry.intE,q _ (hf i j) (hr H i j)⟩
 ·cases e
theorem Nb {K:PySem.W.Frag} {C:Int→Int→Prop} {h:Int→Int→V} {g:Int→Int→D} {c:Int→Int→Bool} (hc:∀ i j,c i j=true→C i j) (hf:∀ i j,flat (g i j)=true) (hr:∀ H i j,RA K ok0 false H (h i j) (g i j)) :
 BrO K (rI C h) (gI fun i j=>if c i j=true then some (g i j) else none):=by
 intro H x y dx dy d Q rx ry e q
 unfold gI at e
 split at e
 ·next i j =>
  dsimp only at e
  by_cases z:c i j=true
  ·rw [if_pos z] at e
   cases e
   exact ⟨i,j,rx.intE,ry.intE,hc i j z,q _ (hf i j) (hr H i j)⟩
  ·rw [if_neg z] at e
   cases e
 ·cases e
end
section
variable {X:Cx} {K:PySem.W.Frag}
theorem Nf {i j:Int} (h:vh i j=true):IntMulOk i j:=by
 unfold vh at h
 rw [pU,pU,aL] at h
 rcases h with (h | h) | ⟨h1,h2⟩
 ·exact IntMulOk.of_left (PySem.intBits_le_iff.mpr (of_decide_eq_true h))
 ·exact IntMulOk.of_right (PySem.intBits_le_iff.mpr (of_decide_eq_true h))
 ·exact PySem.IntMulOk.of_le (PySem.intBits_le_iff.mpr (of_decide_eq_true h1)) (PySem.intBits_le_iff.mpr (of_decide_eq_true h2)) (by decide)
theorem mY:OpR X (binaryOp .Mult) (rI (fun i j=>vh i j=true) fun i j=>.int (i * j)):=opI fun _ _ _ _ _ _ _ hc q=>mul_int q (Nf hc)
theorem Eu:OpR X (binaryOp .FloorDiv) (rI (fun i j=>CK i j=true) fun i j=>.int (i.fdiv j)):=opI fun i j _ _ _ _ _ hc q=>by
 unfold CK at hc
 rw [aL] at hc
 have h1:=of_decide_eq_true hc.1
 have h2:=of_decide_eq_true hc.2
 refine floordiv_int h1 q (.inl (PyProof.noPylong_of_log2 ?_))
 exact (Nat.log2_lt (by omega)).mpr h2
theorem Ng {i j:Int} (h:RN i j=true):Rv i j:=by
 unfold RN at h
 rw [aL,aL] at h
 have h1:=of_decide_eq_true h.1.1
 have h2:=of_decide_eq_true h.1.2
 exact ⟨h1,by omega,of_decide_eq_true h.2⟩
theorem jz:BrO K (rI0 fun i j=>.int (i + j)) jd:=yq (fun _ _=>rfl) fun _ _ _=>.int _
theorem QG:BrO K (rI0 fun i j=>.int (i - j)) Gi:=yq (fun _ _=>rfl) fun _ _ _=>.int _
theorem sX:BrO K (rI (fun i j=>vh i j=true) fun i j=>.int (i * j)) pF:=Nb (fun _ _ h=>h) (fun _ _=>rfl) fun _ _ _=>.int _
theorem QH:BrO K (rI (fun i j=>CK i j=true) fun i j=>.int (i.fdiv j)) Ay:=Nb (fun _ _ h=>h) (fun _ _=>rfl) fun _ _ _=>.int _
theorem sY:BrO K (rI (fun _ j=>j ≠ 0) fun i j=>.int (i.fmod j)) rQ:=Nb (fun _ _ h=>of_decide_eq_true h) (fun _ _=>rfl) fun _ _ _=>.int _
theorem Vx:BrO K (rI Rv fun i j=>.int (i ^ j.toNat)) RP:=Nb (fun _ _ h=>Ng h) (fun _ _=>rfl) fun _ _ _=>.int _
theorem b_lt:BrO K (rI0 fun i j=>.bl (decide (i < j))) gLt:=yq (fun _ _=>rfl) fun _ _ _=>.bl _
theorem vH:BrO K (rI0 fun i j=>.bl (decide (i ≤ j))) gLe:=yq (fun _ _=>rfl) fun _ _ _=>.bl _
theorem CT:BrO K (rI0 fun i j=>.bl (decide (j < i))) gGt:=yq (fun _ _=>rfl) fun _ _ _=>.bl _
theorem RV:BrO K (rI0 fun i j=>.bl (decide (j ≤ i))) gGe:=yq (fun _ _=>rfl) fun _ _ _=>.bl _
theorem sZ:BrO K (Vp K) gEq:=by
 intro H x y dx dy d Q rx ry e q
 unfold gEq at e
 by_cases z:(SeqAt.shaped dx && SeqAt.shaped dy)=true
 ·rw [if_pos z] at e
  cases e
  rw [aL] at z
  exact ⟨dx,dy,rx.rd (SeqAt.canLay_of_shaped z.1),ry.rd (SeqAt.canLay_of_shaped z.2),z.1,z.2,q _ rfl (.bl _)⟩
 ·rw [if_neg z] at e
  cases e
theorem yU:BrO K (Vq K) gNe:=by
 intro H x y dx dy d Q rx ry e q
 unfold gNe at e
 by_cases z:(SeqAt.shaped dx && SeqAt.shaped dy)=true
 ·rw [if_pos z] at e
  cases e
  rw [aL] at z
  exact ⟨dx,dy,rx.rd (SeqAt.canLay_of_shaped z.1),ry.rd (SeqAt.canLay_of_shaped z.2),z.1,z.2,q _ rfl (.bl _)⟩
 ·rw [if_neg z] at e
  cases e
end
end D3
namespace D3
open PySem PySem.Spec PyProof.Rows L2 My
section
variable {X:Cx} {fl:List Fl} {e a b c:Expr} {es:List Expr} {st:Stmt} {sts body orelse:List Stmt} {k:Kd} {f fa fb fc:FE} {fs gs:FS} {ft gt:FT} {pos:Pos}
theorem CQ.nx_imp {K:PySem.W.Frag} {G:Gh} {Dn:Ends} {N:St→Hp→Prop} {o:Oc} (h:CQ K fl G Dn o) (hn:∀ δ',o ≠ .nx δ'):CQ K fl G { Dn with nx:=N } o:=by
 cases o with
 | nx δ'=>exact absurd rfl (hn δ')
 | rt d=>exact h
 | bk δ'=>exact h
 | ct δ'=>exact h
 | ex c f v=>exact h
theorem cF:DSs X fl [] cZ:=PSs.imp Mp fun Dn σ H h=>by
 obtain ⟨G,ow,δ,o,R,hf,q⟩:=h
 cases hf
 exact q ow σ H R
theorem aR (h1:DS1 X fl st fs) (h2:DSs X fl sts gs):DSs X fl (st :: sts) (bY fs gs):=PSs.imp (Ie h1 h2) fun Dn σ H h=>by
 obtain ⟨G,ow,δ,o,R,hf,q⟩:=h
 obtain ⟨o1,e1,e2⟩:=bind1 hf
 refine ⟨G,ow,δ,o1,R,e1,?_⟩
 cases o1 with
 | nx δ'=>exact fun ow' σ' H' R'=>⟨G,ow',δ',o,R',e2,q⟩
 | rt d=>cases e2;exact CQ.nx_imp q (fun _ z=>by cases z)
 | bk d=>cases e2;exact CQ.nx_imp q (fun _ z=>by cases z)
 | ct d=>cases e2;exact CQ.nx_imp q (fun _ z=>by cases z)
 | ex c f v=>cases e2;exact q
theorem aV (h1:DS1 X fl st fs):DSs X fl [st] fs:=PSs.imp (Mq h1) fun _ _ _ h=>h
theorem bW (h:DE X fl .R e f):DS1 X fl (.Return (some e) pos) (cT f):=PS.imp (Ig h) fun Dn σ H h=>by
 obtain ⟨G,ow,δ,o,R,hf,q⟩:=h
 obtain ⟨d,e1,e2⟩:=bind1 hf
 cases e2
 exact ⟨G,ow,δ,d,R,e1,fun v H' s r=>q v H' (R.same0.trans s) r⟩
theorem uK (h:DE X fl .P e f) (hs:swapsWith e none pos.line X.env=pure false:=by rfl):DS1 X fl (.Expr e pos) (vg f):=PS.imp (sJ h hs) fun Dn σ H h=>by
 obtain ⟨G,ow,δ,o,R,hf,q⟩:=h
 obtain ⟨d,e1,e2⟩:=bind1 hf
 cases e2
 exact ⟨G,ow,δ,d,R,e1,fun v H' s r=>q ow σ H' (R.grow s)⟩
theorem d_ (hc:DT X fl c ft) (h1:DSs X fl body fs) (h2:DSs X fl orelse gs):DS1 X fl (.If c body orelse pos) (sIf ft fs gs):=PS.imp (Va hc h1 h2) fun Dn σ H h=>by
 obtain ⟨G,ow,δ,o,R,hf,q⟩:=h
 obtain ⟨t,e1,e2⟩:=bind1 hf
 refine ⟨G,ow,δ,t,R,e1,fun H' s=>?_⟩
 cases t with
 | true=>exact Av ⟨G,ow,δ,o,R.grow s,e2,q⟩
 | false=>exact Ar ⟨G,ow,δ,o,R.grow s,e2,q⟩
theorem iI {α:Type} {l:List (Option α)} {i j:Nat} {x y:α} (h:(l.set i (some x))[j]? = some (some y)):(j=i∧x=y)∨(j ≠ i∧l[j]? = some (some y)):=by
 rw [kO] at h
 by_cases e:i=j
 ·subst e
  rw [if_pos rfl] at h
  by_cases z:i < l.length
  ·rw [if_pos z] at h
   cases h
   exact .inl ⟨rfl,rfl⟩
  ·rw [if_neg z] at h
   cases h
 ·rw [if_neg e] at h
  exact .inr ⟨fun z=>e z.symm,h⟩
theorem Rel.setA {K:PySem.W.Frag} {G:Gh} {ow:Ow} {σ:St} {H:Hp} {δ:DS} {i:Nat} {v:V} {d:D} (R:Rel K fl G ow σ H δ) (hfl:fl[i]? = some .A) (hi:i < σ.length) (r:RA K (okA ow) true H v d) :
 Rel K fl G ow (σ.set i (some v)) H (δ.set i (some (.d d))):=by
 have no:∀ a,ow i ≠ some a:=fun a z=>by
  obtain ⟨_,hz,_⟩:=R.own i a z
  rw [hfl] at hz
  rcases hz with ⟨z,_⟩ | ⟨z,_⟩ <;> cases z
 refine ⟨R.s0,R.s1,by rw [dF,dF];exact R.len,fun j a h=>?_,R.inj,R.pin,fun j d' h1 hn h2=>?_,fun j d' h1 hn h2 h3=>?_,R.nt,R.nd,R.ns,R.np,fun j d' hn h1=>?_⟩
 ·have hj:j ≠ i:=fun z=>no a (z ▸ h)
  obtain ⟨h0,hf,xs,ds,h1,h2,h3,h4⟩:=R.own j a h
  exact ⟨h0,hf,xs,ds,by rw [bD (Ne.symm hj)];exact h1,h2,h3,by rw [bD (Ne.symm hj)];exact h4⟩
 ·rcases iI h1 with ⟨rfl,e⟩ | ⟨hj,e⟩
  ·cases e
   exact ⟨v,by rw [dD hi],r⟩
  ·obtain ⟨v',h3,h4⟩:=R.dat j d' e hn h2
   exact ⟨v',by rw [bD (Ne.symm hj)];exact h3,h4⟩
 ·rcases iI h1 with ⟨rfl,e⟩ | ⟨hj,e⟩
  ·exact absurd hfl h2
  ·exact R.oo j d' e hn h2 h3
 ·rcases iI h1 with ⟨rfl,e⟩ | ⟨hj,e⟩
  ·rw [hfl] at hn;cases hn
  ·obtain ⟨v',h3,h4⟩:=R.nr j d' hn e
   exact ⟨v',by rw [bD (Ne.symm hj)];exact h3,h4⟩
def oR (ow:Ow) (i:Nat) (a:Option Addr):Ow:=⟨fun j=>if j=i then a else ow j,ow.n⟩
theorem iJ {ow:Ow} {i:Nat} {a:Option Addr}:oR ow i a i=a:=if_pos rfl
theorem eF {ow:Ow} {i j:Nat} {a:Option Addr} (h:j ≠ i):oR ow i a j=ow j:=if_neg h
theorem Rel.setO {K:PySem.W.Frag} {G:Gh} {ow:Ow} {σ:St} {H H':Hp} {δ:DS} {i:Nat} {v:V} {d:D} (R:Rel K fl G ow σ H δ) (s:Same H H') (hfl:fl[i]? = some .O) (hi:i < σ.length) (r:Rs K G.H0 ow H H' .F v d) :
 ∃ ow',Rel K fl G ow' (σ.set i (some v)) H' (δ.set i (some (.d d))):=by
 have R':=R.grow s
 have sub0:∀ b,okA ow b→okA (oR ow i none) b:=fun b z=>⟨fun j e=>by
  by_cases hj:j=i
  ·subst hj;rw [iJ] at e;cases e
  ·rw [eF hj] at e;exact z.1 j e,z.2⟩
 have nrs:∀ j d',isN fl[j]? = true→(δ.set i (some (.d d)))[j]? = some (some (.d d'))→∃ v',(σ.set i (some v))[j]? = some (some v')∧RT K H' v' d' (ow.n j)∧(ow.n j).Nodup:=fun j d' hn h1=>by
  rcases iI h1 with ⟨rfl,e⟩ | ⟨hj,e⟩
  ·rw [hfl] at hn;cases hn
  ·obtain ⟨v',h3,h4⟩:=R'.nr j d' hn e
   exact ⟨v',by rw [bD (Ne.symm hj)];exact h3,h4⟩
 rcases r with ⟨hfd,r⟩ | ⟨a,xs,ds,rfl,rfl,ha,hx,hr⟩
 ·refine ⟨oR ow i none,R'.s0,R'.s1,by rw [dF,dF];exact R.len,fun j a h=>?_,fun j j' a h h'=>?_,fun j h=>?_,fun j d' h1 hn h2=>?_,fun j d' h1 hn h2 h3=>?_,R'.nt,R'.nd,fun j j' a h h'=>?_,R'.np,nrs⟩
  ·have hj:j ≠ i:=fun z=>by subst z;rw [iJ] at h;cases h
   rw [eF hj] at h
   obtain ⟨h0,hf,xs,ds,h1,h2,h3,h4⟩:=R'.own j a h
   exact ⟨h0,hf,xs,ds,by rw [bD (Ne.symm hj)];exact h1,h2,h3.imp sub0 (fun z=>z),by rw [bD (Ne.symm hj)];exact h4⟩
  ·have hj:j ≠ i:=fun z=>by subst z;rw [iJ] at h;cases h
   have hj':j' ≠ i:=fun z=>by subst z;rw [iJ] at h';cases h'
   rw [eF hj] at h
   rw [eF hj'] at h'
   exact R.inj j j' a h h'
  ·have hj:j ≠ i:=fun z=>by subst z;rw [hfl] at h;cases h
   rw [eF hj]
   exact R.pin j h
  ·rcases iI h1 with ⟨rfl,e⟩ | ⟨hj,e⟩
   ·cases e
    exact ⟨v,by rw [dD hi],RA.flat hfd r⟩
   ·rw [eF hj] at h2
    obtain ⟨v',h3,h4⟩:=R'.dat j d' e hn h2
    exact ⟨v',by rw [bD (Ne.symm hj)];exact h3,h4.imp sub0 (fun z=>z)⟩
  ·rcases iI h1 with ⟨rfl,e⟩ | ⟨hj,e⟩
   ·cases e
    exact hfd
   ·rw [eF hj] at h3
    exact R.oo j d' e hn h2 h3
  ·by_cases hj:j'=i
   ·subst hj;rw [iJ] at h';cases h'
   ·rw [eF hj] at h';exact R.ns j j' a h h'
 ·have sub:∀ b,okA ow b∧b ≠ a→okA (oR ow i (some a)) b:=fun b z=>⟨fun j e=>by
   by_cases hj:j=i
   ·subst hj;rw [iJ] at e;exact z.2 (cV.inj e).symm
   ·rw [eF hj] at e;exact z.1.1 j e,z.1.2⟩
  have old:∀ {v:V} {d:D},RA K (okA ow) true H v d→RA K (okA (oR ow i (some a))) true H' v d:=fun r=>(r.track.imp (fun b z=>sub b ⟨z.1,fun e=>z.2 (e ▸ ha)⟩) (fun z=>z)).same s
  have olds:∀ {v:List V} {d:List D},RAs K (okA ow) true H v d→RAs K (okA (oR ow i (some a))) true H' v d:=fun r=>(r.track.imp (fun b z=>sub b ⟨z.1,fun e=>z.2 (e ▸ ha)⟩) (fun z=>z)).same s
  have nota:∀ j,ow j ≠ some a:=fun j z=>by
   obtain ⟨_,_,_,_,_,h2,_⟩:=R.own j a z
   rw [ha] at h2
   cases h2
  have hF:G.HF a=none:=R.s1.free ha
  refine ⟨oR ow i (some a),R'.s0,R'.s1,by rw [dF,dF];exact R.len,fun j b h=>?_,fun j j' b h h'=>?_,fun j h=>?_,fun j d' h1 hn h2=>?_,fun j d' h1 hn h2 h3=>?_,R'.nt,R'.nd,fun j j' b h h'=>?_,R'.np,nrs⟩
  ·by_cases hj:j=i
   ·subst hj
    rw [iJ] at h
    cases h
    exact ⟨R.same0.free ha,.inl ⟨hfl,hF⟩,xs,ds,by rw [dD hi],hx,hr.imp sub (fun z=>z),by rw [dD (by rw [← R.len];exact hi)]⟩
   ·rw [eF hj] at h
    obtain ⟨h0,hf,ys,ds',h1,h2,h3,h4⟩:=R.own j b h
    exact ⟨h0,hf,ys,ds',by rw [bD (Ne.symm hj)];exact h1,s _ _ h2,olds h3,by rw [bD (Ne.symm hj)];exact h4⟩
  ·by_cases hj:j=i
   ·by_cases hj':j'=i
    ·rw [hj,hj']
    ·subst hj
     rw [iJ] at h
     cases h
     rw [eF hj'] at h'
     exact absurd h' (nota j')
   ·rw [eF hj] at h
    by_cases hj':j'=i
    ·subst hj'
     rw [iJ] at h'
     cases h'
     exact absurd h (nota j)
    ·rw [eF hj'] at h'
     exact R.inj j j' b h h'
  ·have hj:j ≠ i:=fun z=>by subst z;rw [hfl] at h;cases h
   rw [eF hj]
   exact R.pin j h
  ·rcases iI h1 with ⟨rfl,e⟩ | ⟨hj,e⟩
   ·rw [iJ] at h2;cases h2
   ·rw [eF hj] at h2
    obtain ⟨v',h3,h4⟩:=R.dat j d' e hn h2
    exact ⟨v',by rw [bD (Ne.symm hj)];exact h3,old h4⟩
  ·rcases iI h1 with ⟨rfl,e⟩ | ⟨hj,e⟩
   ·rw [iJ] at h3;cases h3
   ·rw [eF hj] at h3
    exact R.oo j d' e hn h2 h3
  ·by_cases hj:j'=i
   ·subst hj
    rw [iJ] at h'
    cases h'
    exact (R.nt j a h).2.1.ne ha
   ·rw [eF hj] at h';exact R.ns j j' b h h'
theorem Rel.mut {K:PySem.W.Frag} {G:Gh} {ow:Ow} {σ:St} {H:Hp} {δ:DS} {i:Nat} {a:Addr} {ys:List V} {ds:List D} (R:Rel K fl G ow σ H δ) (hfl:fl[i]? = some .O) (ho:ow i=some a) (r:RAs K (okA ow) true H ys ds) :
 Rel K fl G ow σ (upd H a (.lst ys)) (δ.set i (some (.d (.list ds)))):=by
 obtain ⟨h0,hz,xs,ds0,e1,e2,e3,e4⟩:=R.own i a ho
 have na:¬ okA ow a:=fun z=>z.1 i ho
 have hF:G.HF a=none:=by
  rcases hz with ⟨_,z⟩ | ⟨z,_⟩
  ·exact z
  ·rw [hfl] at z;cases z
 have hi:i < δ.length:=by
  rcases fW i δ.length with z | z
  ·exact z
  ·rw [bf z] at e4;cases e4
 refine ⟨R.s0,fun b o hb=>?_,by rw [dF];exact R.len,fun j b h=>?_,R.inj,R.pin,fun j d' h1 hn h2=>?_,fun j d' h1 hn h2 h3=>?_,fun j b h=>?_,R.nd,R.ns,R.np,fun j d' hn h1=>?_⟩
 ·rw [cI (fun z=>by subst z;rw [hF] at hb;cases hb)]
  exact R.s1 b o hb
 ·by_cases hj:j=i
  ·subst hj
   rw [ho] at h
   cases h
   exact ⟨h0,hz,ys,ds,e1,dg,r.upd e2 na,by rw [dD hi]⟩
  ·obtain ⟨h0',hf',zs,ds',h1,h2,h3,h4⟩:=R.own j b h
   have hb:b ≠ a:=fun z=>hj (R.inj j i a (z ▸ h) ho)
   exact ⟨h0',hf',zs,ds',h1,by rw [cI hb];exact h2,h3.upd e2 na,by rw [bD (Ne.symm hj)];exact h4⟩
 ·rcases iI h1 with ⟨rfl,e⟩ | ⟨hj,e⟩
  ·rw [ho] at h2;cases h2
  ·obtain ⟨v',h3,h4⟩:=R.dat j d' e hn h2
   exact ⟨v',h3,h4.upd e2 na⟩
 ·rcases iI h1 with ⟨rfl,e⟩ | ⟨hj,e⟩
  ·rw [ho] at h3;cases h3
  ·exact R.oo j d' e hn h2 h3
 ·obtain ⟨g1,g2,g3⟩:=R.nt j b h
  refine ⟨g1,?_,g3⟩
  by_cases hb:b=a
  ·rw [hb,dg];exact ⟨_,rfl,inferInstance⟩
  ·rw [cI hb];exact g2
 ·rcases iI h1 with ⟨rfl,e⟩ | ⟨hj,e⟩
  ·rw [hfl] at hn;cases hn
  ·obtain ⟨v',h3,h4,h5⟩:=R.nr j d' hn e
   exact ⟨v',h3,h4.upd e2 (fun z=>R.ns j i a z ho),h5⟩
theorem n8 {K:PySem.W.Frag} {G:Gh} {ow:Ow} {σ:St} {H:Hp} {δ:DS} {i:Nat} (R:Rel K fl G ow σ H δ) (h:i < δ.length):i < σ.length:=by rw [R.len];exact h
theorem Nh {i:Nat} {x:Str} {pos':Pos} (hfl:fl[i]? = some .A) (hN:X.N.Nodup) (hi:X.N[i]? = some x) (hv:X.env.scope.names.lookup x=some .local∨X.env.scope.names.lookup x=some .cell) (h:DE X fl .A e f)
 (hs:swapsWith e (some (.Name x pos')) pos.line X.env=pure false:=by rfl) (hfn:X.fn x=true∨X.env.scope.names.lookup x=some .local:=by first | exact .inl rfl | exact .inr rfl) :
 DS1 X fl (.Assign [.Name x pos'] e pos) (cD i f):=PS.imp (uW (i:=i) hN hi hv h hs hfn) fun Dn σ H h=>by
 obtain ⟨G,ow,δ,o,R,hf,q⟩:=h
 unfold cD at hf
 by_cases hl:i < δ.length
 ·rw [if_pos hl] at hf
  obtain ⟨d,e1,e2⟩:=bind1 hf
  cases e2
  exact ⟨G,ow,δ,d,R,e1,fun v H' s r=>q ow _ H' ((R.grow s).setA hfl (n8 R hl) r)⟩
 ·rw [if_neg hl] at hf
  cases hf
theorem lU {i:Nat} {x:Str} {pos':Pos} (hfl:fl[i]? = some .O) (hN:X.N.Nodup) (hi:X.N[i]? = some x) (hv:X.env.scope.names.lookup x=some .local∨X.env.scope.names.lookup x=some .cell) (h:DE X fl .F e f)
 (hs:swapsWith e (some (.Name x pos')) pos.line X.env=pure false:=by rfl) (hfn:X.fn x=true∨X.env.scope.names.lookup x=some .local:=by first | exact .inl rfl | exact .inr rfl) :
 DS1 X fl (.Assign [.Name x pos'] e pos) (cD i f):=PS.imp (uW (i:=i) hN hi hv h hs hfn) fun Dn σ H h=>by
 obtain ⟨G,ow,δ,o,R,hf,q⟩:=h
 unfold cD at hf
 by_cases hl:i < δ.length
 ·rw [if_pos hl] at hf
  obtain ⟨d,e1,e2⟩:=bind1 hf
  cases e2
  refine ⟨G,ow,δ,d,R,e1,fun v H' s r=>?_⟩
  obtain ⟨ow',R'⟩:=R.setO s hfl (n8 R hl) r
  exact q ow' _ H' R'
 ·rw [if_neg hl] at hf
  cases hf
theorem Ni {i:Nat} {x:Str} {pos:Pos} (hfl:fl[i]? = some .A) (hN:X.N.Nodup) (hi:X.N[i]? = some x) (hv:X.env.scope.names.lookup x=some .local∨X.env.scope.names.lookup x=some .cell)
 (hfn:X.fn x=true∨X.env.scope.names.lookup x=some .local:=by first | exact .inl rfl | exact .inr rfl):DG X fl [i] (.Name x pos) (gNl i) :=
 PG.imp (Mr (i:=i) hN hi hv hfn) fun v σ H Q h=>by
 obtain ⟨G,ow,δ,d,δ',R,r,hf,q⟩:=h
 unfold gNl at hf
 by_cases hl:i < δ.length
 ·rw [if_pos hl] at hf
  cases hf
  exact q _ (R.setA hfl (n8 R hl) r) fun j hj=>bD (fun z=>hj (by rw [z];exact aK.mpr rfl))
 ·rw [if_neg hl] at hf
  cases hf
def XF (K:PySem.W.Frag) (fl:List Fl) (tg:List Nat) (g:List D→DS→Option DS):TGs:=fun vs σ H Q=>∃ G ow δ ds δ',Rel K fl G ow σ H δ∧RAs K (okA ow) true H vs ds∧g ds δ=some δ'∧∀ σ',Rel K fl G ow σ' H δ'→(∀ j,j ∉ tg→σ'[j]? = σ[j]?)→Q σ' H
theorem PGs.imp {t t':TGs} (h:PGs X es t) (i:∀ v σ H Q,t' v σ H Q→t v σ H Q):PGs X es t':=fun pins s σ H v u Q I r q=>h pins s σ H v u Q I r (i v σ H Q q)
abbrev DGs (X:Cx) (fl:List Fl) (tg:List Nat) (es:List Expr) (g:List D→DS→Option DS):Prop:=PGs X es (XF X.K fl tg g)
theorem pI:DGs X fl [] [] lg:=PGs.imp Ms fun vs σ H Q h=>by
 obtain ⟨G,ow,δ,ds,δ',R,r,hf,q⟩:=h
 cases r with
 | nil=>cases hf;exact ⟨rfl,q σ R fun _ _=>rfl⟩
 | cons _ _=>cases hf
theorem gP {tg tg':List Nat} {g:FG} {gs:List D→DS→Option DS} (h1:DG X fl tg e g) (h2:DGs X fl tg' es gs) (hs:(assignEach (e :: es) X.env).map (·.2)=assign e X.env :: (assignEach es X.env).map (·.2):=by rfl) :
 DGs X fl (tg++tg') (e :: es) (cU g gs):=PGs.imp (Ij h1 h2 hs) fun vs σ H Q h=>by
 obtain ⟨G,ow,δ,ds,δ',R,r,hf,q⟩:=h
 cases r with
 | nil=>cases hf
 | cons r1 r2 =>
  obtain ⟨δ1,e1,e2⟩:=bind1 hf
  refine ⟨_,_,rfl,G,ow,δ,_,δ1,R,r1,e1,fun σ' R' k1=>⟨G,ow,δ1,_,δ',R',r2,e2,fun σ'' R'' k2=>q σ'' R'' fun j hj=>?_⟩⟩
  rw [k2 j fun z=>hj (aU _ z),k1 j fun z=>hj (bx _ z)]
theorem rR {tg:List Nat} {gs:List D→DS→Option DS} {k n:Nat} (hc:X.calm=true) (h:DGs X fl tg es gs) (hn:(assignEach es X.env).length=n:=by rfl) (hst:(assignEach es X.env).findIdx? (·.1)=none:=by rfl) :
 DG X fl tg (.Tuple es k pos) (gTn n gs):=PG.imp (Ro (n:=n) hc h hn hst) fun v σ H Q h=>by
 obtain ⟨G,ow,δ,d,δ',R,r,hf,q⟩:=h
 unfold gTn at hf
 split at hf
 ·next l =>
  by_cases z:l.length=n
  ·rw [if_pos z] at hf
   obtain ⟨a,xs,rfl,hx,hr⟩:=r.tupE
   exact ⟨a,xs,rfl,hx,by rw [hr.length];exact z,G,ow,δ,l,δ',R,hr,hf,q⟩
  ·rw [if_neg z] at hf
   cases hf
 ·cases hf
theorem RW {tg:List Nat} {g:FG} {t:Expr} (h:DE X fl .A e f) (hg:DG X fl tg t g) (hs:swapsWithSole [t] e pos.line X.env=pure false:=by rfl) (hw:swappedStores [t] e X.env=pure none:=by rfl)
 (h1:(assignEach [t] X.env).map (·.2)=[assign t X.env]:=by rfl):DS1 X fl (.Assign [t] e pos) (GC f g):=PS.imp (Cr h hg hs hw h1) fun Dn σ H h=>by
 obtain ⟨G,ow,δ,o,R,hf,q⟩:=h
 obtain ⟨d,e1,e2⟩:=bind1 hf
 obtain ⟨δ',e3,e4⟩:=bind1 e2
 cases e4
 exact ⟨G,ow,δ,d,R,e1,fun v H' s r=>⟨G,ow,δ,d,δ',R.grow s,r,e3,fun σ' R' _=>q ow σ' H' R'⟩⟩
end
end D3
namespace D3
open PySem PySem.Spec PyProof.Rows L2 My
section
variable {X:Cx} {fl:List Fl} {e a b c:Expr} {es:List Expr} {st:Stmt} {sts body orelse:List Stmt} {k:Kd} {f fa fb fc:FE} {fs gs:FS} {ft gt:FT} {pos:Pos}
theorem CV {K:PySem.W.Frag} {G:Gh} {ow:Ow} {σ:St} {H:Hp} {δ:DS} {i:Nat} {l:List D} (R:Rel K fl G ow σ H δ) (hfl:fl[i]? = some .O) (h:aD i δ=some (.list l)) :
 ∃ a xs,ow i=some a∧σ[i]? = some (some (.ref a))∧H a=some (.lst xs)∧RAs K (okA ow) true H xs l:=by
 have e:=lq h
 cases ho:ow i with
 | none =>
  have z:=R.oo i _ e (by rw [hfl];rfl) (by rw [hfl];simp) ho
  simp [flat] at z
 | some a =>
  obtain ⟨h0,_,xs,ds,h1,h2,h3,h4⟩:=R.own i a ho
  rw [e] at h4
  cases h4
  exact ⟨a,xs,rfl,h1,h2,h3⟩
theorem oU {i:Nat} {x:Str} {vpos apos cpos:Pos} (hfl:fl[i]? = some .O) (h:DE X fl .A e f) (hN:X.N[i]? = some x) (hv:Vis X.env.scope x:=by first | exact Or.inl rfl | exact Or.inr (Or.inl rfl) | exact Or.inr (Or.inr rfl)) (hd:(x == ("__debug__" : Str))=false:=by decide)
 (hcd:(x == ("__classdict__" : Str))=false:=by decide)
 (hs:swapsWith (.Call (.Attribute (.Name x vpos) "append" apos) [e] [] cpos) none pos.line X.env=pure false:=by rfl)
 (hbase:attributeBase (.Name x vpos) "append" X.env (eval (.Name x vpos) X.env)=eval (.Name x vpos) X.env:=by rfl)
 (hfew:((backTo cpos (starEach [e] X.env)).all (fun x=>!x.1) && (backToKw cpos (keywordEach [] X.env)).all (fun x=>x.1.isSome)
  && decide (([e]:List Expr).length + ([]:List Keyword).length + (if ([]:List Keyword).isEmpty then 0 else 1) < 30))=true:=by rfl)
 (hline:(apos.endLine == cpos.line)=true:=by rfl) (hst:starEach [e] X.env=(false,eval e X.env) :: starEach [] X.env:=by rfl) (hplain:(backTo cpos (starEach [] X.env)).any (·.1)=false:=by rfl) :
 DS1 X fl (.Expr (.Call (.Attribute (.Name x vpos) "append" apos) [e] [] cpos) pos) (sU i f) :=
 PS.imp (sJ (QF PySem.F.plainAttrs_list PySem.F.slot_list_append PySem.F.type_list_append yd (mQ hN hv hd hcd) (nW h tU hst) hbase hfew hline hst hplain) hs) fun Dn σ H h=>by
 obtain ⟨G,ow,δ,o,R,hf,q⟩:=h
 obtain ⟨x,e1,hf1⟩:=bind1 hf
 obtain ⟨d,e2,hf2⟩:=bind1 hf1
 clear hf hf1
 have hf:=hf2
 clear hf2
 split at hf
 case h_2=>cases hf
 next l =>
 by_cases hl:l.length < 1000000
 ·rw [if_pos hl] at hf
  cases hf
  obtain ⟨a,xs,ho,h1,h2,h3⟩:=CV R hfl e1
  refine ⟨_,h1,.inl ⟨rfl,_,SqL.of h2⟩,G,ow,δ,d,R,e2,fun v H' s r=>?_⟩
  have R':=R.grow s
  refine ⟨a,xs,v,rfl,rfl,s _ _ h2,by rw [h3.length];exact jH hl (by decide),?_⟩
  exact q ow σ _ (R'.mut hfl ho ((h3.same s).append (.cons r .nil)))
 ·rw [if_neg hl] at hf
  cases hf
theorem vI {i:Nat} {x:Str} {vpos spos:Pos} {ke:Expr} {fk:FE} (hfl:fl[i]? = some .O) (h:DE X fl .A e f) (hk:DE X fl .P ke fk) (hN:X.N[i]? = some x) (hv:Vis X.env.scope x:=by first | exact Or.inl rfl | exact Or.inr (Or.inl rfl) | exact Or.inr (Or.inr rfl)) (hd:(x == ("__debug__" : Str))=false:=by decide)
 (hcd:(x == ("__classdict__" : Str))=false:=by decide) (ha:∀ v,assign (.Subscript (.Name x vpos) ke spos) X.env v=(do
  let ov ← holding [v] (eval (.Name x vpos) X.env)
  let iv ← holding [v,ov] (eval ke X.env)
  standAt spos
  holding [v,ov,iv] (setItem ov iv v)
  release [v,ov,iv] []):=by intro _;rfl)
 (hs:swapsWithSole [.Subscript (.Name x vpos) ke spos] e pos.line X.env=pure false:=by rfl) (hw:swappedStores [.Subscript (.Name x vpos) ke spos] e X.env=pure none:=by rfl)
 (h1:(assignEach [.Subscript (.Name x vpos) ke spos] X.env).map (·.2)=[assign (.Subscript (.Name x vpos) ke spos) X.env]:=by rfl) :
 DS1 X fl (.Assign [.Subscript (.Name x vpos) ke spos] e pos) (uF i fk f) :=
 PS.imp (Cr h (Ik (mQ hN hv hd hcd) hk set_list ha) hs hw h1) fun Dn σ H h=>by
 obtain ⟨G,ow,δ,o,R,hf,q⟩:=h
 obtain ⟨d,e2,hf1⟩:=bind1 hf
 obtain ⟨x,e1,hf2⟩:=bind1 hf1
 obtain ⟨k,e3,hf3⟩:=bind1 hf2
 clear hf hf1 hf2
 have hf:=hf3
 clear hf3
 split at hf
 case h_2=>cases hf
 next l j =>
 obtain ⟨n,e4,e5⟩:=bind1 hf
 cases e5
 obtain ⟨a,xs,ho,h1,h2,h3⟩:=CV R hfl e1
 refine ⟨G,ow,δ,d,R,e2,fun v H' s r=>⟨_,h1,G,ow,δ,_,R.grow s,e3,fun u H2 s2 r2=>?_⟩⟩
 obtain rfl:=RA.intE r2
 have R2:=R.grow (s.trans s2)
 refine ⟨a,xs,j,n,rfl,rfl,(s.trans s2) _ _ h2,by rw [h3.length];exact e4,?_⟩
 exact q ow σ _ (R2.mut hfl ho (RAs.set (RA.same s2 r) n (h3.same (s.trans s2))))
def QJ (K:PySem.W.Frag) (ow:Ow) (L:List Nat) (H1:Hp) (J:It) (l:List D):Prop:=∀ H2:Hp,(∀ b o,H1 b=some o→(∀ i,ow i=some b→i ∈ L)→(∀ i,b ∉ ow.n i)→H2 b=some o)→∀ i:Nat,
 (∀ d,l[i]? = some d→J.go i H2∧∀ x H3,J.yld i H2 x H3→Same H2 H3∧RA K (fun b=>okA ow b∧H1 b ≠ none) true H3 x d)∧(l.length ≤ i→J.stop i H2)
def tDI (K:PySem.W.Frag) (fl:List Fl) (L:List Nat) (fi:FA):TI:=fun σ H R'=>∃ G ow δ l,Rel K fl G ow σ H δ∧fi δ=some l∧∀ J H1,Same H H1→QJ K ow L H1 J l→R' J H1
abbrev DI (X:Cx) (fl:List Fl) (L:List Nat) (tg iter:Expr) (fi:FA):Prop:=PI X tg iter (tDI X.K fl L fi)
theorem PI.imp {tg iter:Expr} {t t':TI} (h:PI X tg iter t) (i:∀ σ H R',t' σ H R'→t σ H R'):PI X tg iter t':=fun pins s σ H R' I q=>h pins s σ H R' I (i σ H R' q)
section
variable {K:PySem.W.Frag} {ok:Ok} {pl:Bool} {H1 H2:Hp} {ow:Ow} {L:List Nat}
theorem nm {b:Addr} {o:HO} (hl:∀ i b,ow i=some b→∃ xs,H1 b=some (.lst xs)) (h:H1 b=some o) (hn:∀ xs,o ≠ .lst xs):∀ i,ow i=some b→i ∈ L:=fun i e=>by
 obtain ⟨xs,z⟩:=hl i b e
 rw [h] at z
 exact absurd (cV.inj z) (hn xs)
theorem nm2 {b:Addr} {o:HO} (hl:∀ i b,b ∈ ow.n i→Chd (H1 b)) (h:H1 b=some o) (hn:Chg o→False):∀ i,b ∉ ow.n i:=fun i e=>by
 obtain ⟨u,z,c⟩:=hl i b e
 rw [h] at z
 cases z
 exact hn c
mutual
theorem RA.keep (hk:∀ b o,H1 b=some o→(∀ i,ow i=some b→i ∈ L)→(∀ i,b ∉ ow.n i)→H2 b=some o) (hl:∀ i b,ow i=some b→∃ xs,H1 b=some (.lst xs)) (hm:∀ i b,b ∈ ow.n i→Chd (H1 b)) (ho:∀ b,ok b→okA ow b):∀ {v:V} {d:D},RA K ok pl H1 v d→RA K ok pl H2 v d
 | _,_,.non=>.non
 | _,_,.bl b=>.bl b
 | _,_,.int i=>.int i
 | _,_,.str x=>.str x
 | _,_,.lst e k q=>.lst (hk _ _ e (fun i z=>absurd z ((ho _ k).1 i)) (ho _ k).2) k (RAs.keep hk hl hm ho q)
 | _,_,.lsk e k q=>.lsk (by
  rcases e with ⟨o,e⟩ | e
  ·exact .inl ⟨o,hk _ _ e (nm hl e (by intro xs z;cases z)) (nm2 hm e Chg.frz)⟩
  ·exact .inr e) k (RAs.keep hk hl hm ho q)
 | _,_,.tup e q=>.tup (hk _ _ e (nm hl e (by intro xs z;cases z)) (nm2 hm e Chg.tup)) (RAs.keep hk hl hm ho q)
 | _,_,.dic e g k=>.dic (hk _ _ e (fun i z=>absurd z ((ho _ k).1 i)) (ho _ k).2) (g.imp fun _ _ t=>hk _ _ t (nm hl t (by intro xs z;cases z)) (nm2 hm t Chg.tup)) k
 | _,_,.dik e g k=>.dik (hk _ _ e (nm hl e (by intro xs z;cases z)) (nm2 hm e Chg.frz)) (g.imp fun _ _ t=>hk _ _ t (nm hl t (by intro xs z;cases z)) (nm2 hm t Chg.tup)) k
theorem RAs.keep (hk:∀ b o,H1 b=some o→(∀ i,ow i=some b→i ∈ L)→(∀ i,b ∉ ow.n i)→H2 b=some o) (hl:∀ i b,ow i=some b→∃ xs,H1 b=some (.lst xs)) (hm:∀ i b,b ∈ ow.n i→Chd (H1 b)) (ho:∀ b,ok b→okA ow b):∀ {v:List V} {d:List D},RAs K ok pl H1 v d→RAs K ok pl H2 v d
 | _,_,.nil=>.nil
 | _,_,.cons e q=>.cons (RA.keep hk hl hm ho e) (RAs.keep hk hl hm ho q)
end
end
theorem Rel.ownL {K:PySem.W.Frag} {G:Gh} {ow:Ow} {σ:St} {H:Hp} {δ:DS} (R:Rel K fl G ow σ H δ):∀ i b,ow i=some b→∃ xs,H b=some (.lst xs):=fun i b e=>by
 obtain ⟨_,_,xs,_,_,h2,_⟩:=R.own i b e
 exact ⟨xs,h2⟩
theorem Rel.ownC {K:PySem.W.Frag} {G:Gh} {ow:Ow} {σ:St} {H:Hp} {δ:DS} (R:Rel K fl G ow σ H δ):∀ i b,b ∈ ow.n i→Chd (H b):=fun i b e=>(R.nt i b e).2.1
theorem CW {K:PySem.W.Frag} {G:Gh} {ow:Ow} {σ:St} {H Hb:Hp} {δ:DS} {L:List Nat} {v:V} {l:List D} (R:Rel K fl G ow σ H δ) (r:Rs K G.H0 ow Hb H (.B L) v (.list l)):∃ a xs,v = .ref a∧SqL K H a xs ∧
 ∀ H2:Hp,(∀ b o,H b=some o→(∀ i,ow i=some b→i ∈ L)→(∀ i,b ∉ ow.n i)→H2 b=some o)→SqL K H2 a xs∧RAs K (fun b=>okA ow b∧H b ≠ none) true H2 xs l:=by
 rcases r with r | ⟨i,hi,a,xs,ds,ho,rfl,e,hx,hr⟩
 ·cases r with
  | lst e k q=>exact ⟨_,_,rfl,SqL.of e,fun H2 hk=>⟨SqL.of (hk _ _ e (fun i z=>absurd z (k.1 i)) k.2),RAs.keep hk R.ownL R.ownC (fun b z=>z.1) q.track⟩⟩
  | lsk e k q=>exact ⟨_,_,rfl,e.sq,fun H2 hk=>⟨SqK.sq (by
   rcases e with ⟨o,e⟩ | e
   ·exact .inl ⟨o,hk _ _ e (nm R.ownL e (by intro xs z;cases z)) (nm2 R.ownC e Chg.frz)⟩
   ·exact .inr e),RAs.keep hk R.ownL R.ownC (fun b z=>z.1) q.track⟩⟩
 ·cases e
  exact ⟨a,xs,rfl,SqL.of hx,fun H2 hk=>⟨SqL.of (hk _ _ hx (fun j z=>by rw [R.inj j i a z ho];exact hi) (fun j z=>R.ns j i a z ho)),RAs.keep hk R.ownL R.ownC (fun b z=>z.1) hr.track⟩⟩
theorem eO {tg:Expr} {L:List Nat} (h:DE X fl (.B L) e f):DI X fl L tg e (jP f):=PI.imp (Eo h) fun σ H R' h=>by
 obtain ⟨G,ow,δ,l,R,hf,q⟩:=h
 obtain ⟨d,e1,e2⟩:=bind1 hf
 cases d <;> first | (cases e2;done) | skip
 cases e2
 refine ⟨G,ow,δ,_,R,e1,fun v H1 s r=>?_⟩
 obtain ⟨a,xs,rfl,hx,keep⟩:=CW (R.grow s) r
 refine ⟨a,rfl,⟨xs,hx⟩,q _ _ s fun H2 k2 i=>?_⟩
 obtain ⟨k3,k4⟩:=keep H2 k2
 refine ⟨fun d hd=>?_,fun hl=>⟨xs,k3,by rw [k4.length];exact hl⟩⟩
 obtain ⟨y,hy,ry⟩:=k4.get hd
 refine ⟨⟨xs,y,k3,hy⟩,fun x H3 hyl=>?_⟩
 obtain ⟨e,hz⟩:=hyl
 subst e
 have:some y=some x:=hy.symm.trans (hz xs k3)
 cases this
 exact ⟨Same.refl _,ry⟩
theorem Jo (lo hi:Int):(gh lo hi).length=(hi - lo).toNat:=by simp [gh]
theorem Bb {K:PySem.W.Frag} {ow:Ow} {L:List Nat} {H1:Hp} (lo hi:Int):QJ K ow L H1 (Itr lo (hi - lo).toNat) (gh lo hi):=by
 intro H2 _ i
 refine ⟨fun d hd=>?_,fun hl=>by rw [Jo] at hl;exact hl⟩
 unfold gh at hd
 rw [aQ] at hd
 by_cases hi':i < (hi - lo).toNat
 ·rw [bZ hi'] at hd
  cases hd
  refine ⟨hi',fun x H3 hy=>?_⟩
  obtain ⟨e,e2⟩:=hy
  subst e e2
  exact ⟨Same.refl _,.int _⟩
 ·rw [bf (by simpa using hi')] at hd
  cases hd
theorem qW {i:Int} (h:rH i=true) : -(2 ^ 62) ≤ i∧i < 2 ^ 62:=by
 unfold rH at h
 rw [aL] at h
 exact ⟨of_decide_eq_true h.1,of_decide_eq_true h.2⟩
theorem iz {tg:Expr} {L:List Nat} {p:Pos} {fa:FA} (hg:Gl X "range") (hm:X.mg "range" = none) (h:DA X fl [a] fa) (hs:starEach [a] X.env=[(false,eval a X.env)]:=by rfl):DI X fl L tg (.Call (.Name "range" p) [a] [] pos) (jQ fa) :=
 PI.imp (Gm hg hm h hs) fun σ H R' h=>by
 obtain ⟨G,ow,δ,l,R,hf,q⟩:=h
 obtain ⟨ds,e1,e2⟩:=bind1 hf
 split at e2
 ·next j =>
  by_cases z:rH j=true
  ·rw [if_pos z] at e2
   cases e2
   refine ⟨G,ow,δ,_,R,e1,fun vs H1 s r=>?_⟩
   cases r with
   | cons r1 r2 =>
    cases r2
    obtain rfl:=r1.intE
    refine ⟨j,rfl,(qW z).1,(qW z).2,?_⟩
    have w:=Bb (K:=X.K) (ow:=ow) (L:=L) (H1:=H1) 0 j
    rw [sy] at w
    exact q _ _ s w
  ·rw [if_neg z] at e2
   cases e2
 ·cases e2
theorem GF {tg:Expr} {L:List Nat} {p:Pos} {fa:FA} (hg:Gl X "range") (hm:X.mg "range" = none) (h:DA X fl [a,b] fa) (hs:starEach [a,b] X.env=[(false,eval a X.env),(false,eval b X.env)]:=by rfl) (hs2:starEach [b] X.env=[(false,eval b X.env)]:=by rfl) :
 DI X fl L tg (.Call (.Name "range" p) [a,b] [] pos) (Et fa):=PI.imp (Gn hg hm h hs hs2) fun σ H R' h=>by
 obtain ⟨G,ow,δ,l,R,hf,q⟩:=h
 obtain ⟨ds,e1,e2⟩:=bind1 hf
 split at e2
 ·next i j =>
  by_cases z:(rH i && rH j)=true
  ·rw [if_pos z] at e2
   cases e2
   rw [aL] at z
   refine ⟨G,ow,δ,_,R,e1,fun vs H1 s r=>?_⟩
   cases r with
   | cons r1 r2 =>
    cases r2 with
    | cons r2 r3 =>
     cases r3
     obtain rfl:=r1.intE
     obtain rfl:=r2.intE
     exact ⟨i,j,rfl,⟨(qW z.1).1,(qW z.1).2,(qW z.2).1,(qW z.2).2⟩,q _ _ s (Bb i j)⟩
  ·rw [if_neg z] at e2
   cases e2
 ·cases e2
def lock (L:List Nat) (fl:List Fl):List Fl:=fl.mapIdx fun i x=>if x = .O∧i ∈ L then .L else x
theorem mz {L:List Nat} {i:Nat}:(lock L fl)[i]? = (fl[i]?).map fun x=>if x = .O∧i ∈ L then .L else x:=by
 unfold lock
 rw [jC]
theorem Jp {L:List Nat} {i:Nat}:(lock L fl)[i]? = some .A↔fl[i]? = some .A:=by
 rw [mz]
 cases h:fl[i]? with
 | none=>simp
 | some x =>
  cases x <;> simp
  by_cases z:i ∈ L <;> simp [z]
theorem CZ {L:List Nat} {i:Nat} (h:(lock L fl)[i]? = some .O):fl[i]? = some .O∧i ∉ L:=by
 rw [mz] at h
 cases e:fl[i]? with
 | none=>rw [e] at h;simp at h
 | some x =>
  rw [e] at h
  cases x <;> simp at h
  by_cases z:i ∈ L
  ·simp [z] at h
  ·exact ⟨rfl,z⟩
theorem C_ {L:List Nat} {i:Nat} (h:fl[i]? = some .L):(lock L fl)[i]? = some .L:=by
 rw [mz,h]
 simp
theorem Ew {L:List Nat} {i:Nat} (h:fl[i]? = some .O) (hi:i ∈ L):(lock L fl)[i]? = some .L:=by
 rw [mz,h]
 simp [hi]
theorem Ey {L:List Nat} {i:Nat} (h:fl[i]? = some .O) (hi:i ∉ L):(lock L fl)[i]? = some .O:=by
 rw [mz,h]
 simp [hi]
theorem yV {L:List Nat} {i:Nat}:(lock L fl)[i]? = some .N↔fl[i]? = some .N:=by
 rw [mz]
 cases h:fl[i]? with
 | none=>simp
 | some x =>
  cases x <;> simp
  by_cases z:i ∈ L <;> simp [z]
theorem Dc {L:List Nat} {i:Nat}:(lock L fl)[i]? = some .M↔fl[i]? = some .M:=by
 rw [mz]
 cases h:fl[i]? with
 | none=>simp
 | some x =>
  cases x <;> simp
  by_cases z:i ∈ L <;> simp [z]
theorem oV {L:List Nat} {i:Nat}:isN (lock L fl)[i]? = isN fl[i]?:=by
 rw [mz]
 cases h:fl[i]? with
 | none=>rfl
 | some x =>
  cases x <;> simp [isN]
  by_cases z:i ∈ L <;> simp [z]
def Let (fl':List Fl) (ow:Ow) (b:Addr):Prop:=(∃ j,ow j=some b∧fl'[j]? = some .O)∨∃ j,b ∈ ow.n j∧fl'[j]? = some .N
open Classical in
noncomputable def ghL (fl':List Fl) (G:Gh) (ow:Ow) (H:Hp):Gh:=⟨G.H0,fun b=>if Let fl' ow b then none else H b,ow,ow.n,G.tb⟩
open Classical in
theorem pJ {fl':List Fl} {G:Gh} {ow:Ow} {H:Hp} {b:Addr} (h:¬ Let fl' ow b):(ghL fl' G ow H).HF b=H b:=by
 unfold ghL
 dsimp only
 rw [if_neg h]
open Classical in
theorem Dh {fl':List Fl} {G:Gh} {ow:Ow} {H:Hp} {b:Addr} (h:Let fl' ow b):(ghL fl' G ow H).HF b=none:=by
 unfold ghL
 dsimp only
 rw [if_pos h]
theorem Rel.lock {K:PySem.W.Frag} {G:Gh} {ow:Ow} {σ:St} {H:Hp} {δ:DS} (L:List Nat) (R:Rel K fl G ow σ H δ):Rel K (lock L fl) (ghL (lock L fl) G ow H) ow σ H δ:=by
 refine ⟨fun b o hb=>?_,fun b o hb=>?_,R.len,fun i a h=>?_,R.inj,fun i h=>rfl,fun i d h1 hn h2=>R.dat i d h1 (by rw [oV] at hn;exact hn) h2,fun i d h1 hn h2 h3=>R.oo i d h1 (by rw [oV] at hn;exact hn) (fun z=>h2 (Jp.mpr z)) h3,fun i a h=>?_,R.nd,R.ns,fun i h=>rfl,fun i d hn h1=>R.nr i d (by rw [oV] at hn;exact hn) h1⟩
 ·have hb':G.H0 b=some o:=hb
  rw [pJ]
  ·exact R.same0 b o hb'
  ·rintro (⟨j,e,_⟩ | ⟨j,e,_⟩)
   ·have:=(R.own j b e).1
    rw [hb'] at this
    cases this
   ·have:=(R.nt j b e).1
    rw [hb'] at this
    cases this
 ·by_cases z:Let (D3.lock L fl) ow b
  ·rw [Dh z] at hb;cases hb
  ·rw [pJ z] at hb;exact hb
 ·obtain ⟨h0,hf,xs,ds,h1,h2,h3,h4⟩:=R.own i a h
  refine ⟨h0,?_,xs,ds,h1,h2,h3,h4⟩
  have out:(D3.lock L fl)[i]? = some .L→(ghL (D3.lock L fl) G ow H).HF a=H a:=fun hl=>pJ (by
   rintro (⟨j,e,hj⟩ | ⟨j,e,hj⟩)
   ·rw [R.inj j i a e h,hl] at hj
    cases hj
   ·exact R.ns j i a e h)
  rcases hf with ⟨hf,_⟩ | ⟨hf,_⟩
  ·by_cases hi:i ∈ L
   ·exact .inr ⟨Ew hf hi,xs,by rw [out (Ew hf hi)];exact h2⟩
   ·exact .inl ⟨Ey hf hi,Dh (.inl ⟨i,h,Ey hf hi⟩)⟩
  ·exact .inr ⟨C_ hf,xs,by rw [out (C_ hf)];exact h2⟩
 ·obtain ⟨g1,g2,g3⟩:=R.nt i a h
  refine ⟨g1,g2,?_⟩
  rcases g3 with ⟨z,_⟩ | z
  ·exact .inl ⟨yV.mpr z,Dh (.inr ⟨i,h,yV.mpr z⟩)⟩
  ·exact .inr (Dc.mpr z)
theorem Rel.unlock {K:PySem.W.Frag} {G:Gh} {ow ow':Ow} {σ σ':St} {H H':Hp} {δ δ':DS} {L:List Nat} (R:Rel K fl G ow σ H δ) (R':Rel K (D3.lock L fl) (ghL (D3.lock L fl) G ow H) ow' σ' H' δ'):Rel K fl G ow' σ' H' δ':=by
 have sub:Same G.HF (ghL (D3.lock L fl) G ow H).HF:=fun b o hb=>by
  rw [pJ]
  ·exact R.s1 b o hb
  ·rintro (⟨j,e,hj⟩ | ⟨j,e,hj⟩)
   ·rcases (R.own j b e).2.1 with ⟨_,z⟩ | ⟨z,_⟩
    ·rw [hb] at z;cases z
    ·have:=(CZ hj).1
     rw [z] at this
     cases this
   ·rcases (R.nt j b e).2.2 with ⟨_,z⟩ | z
    ·rw [hb] at z;cases z
    ·have:=yV.mp hj
     rw [z] at this
     cases this
 refine ⟨R.s0,sub.trans R'.s1,R'.len,fun i a h=>?_,R'.inj,fun i h=>?_,fun i d h1 hn h2=>R'.dat i d h1 (by rw [oV];exact hn) h2,fun i d h1 hn h2 h3=>R'.oo i d h1 (by rw [oV];exact hn) (fun z=>h2 (Jp.mp z)) h3,fun i a h=>?_,R'.nd,R'.ns,fun i h=>?_,fun i d hn h1=>R'.nr i d (by rw [oV];exact hn) h1⟩
 ·obtain ⟨h0,hf,rest⟩:=R'.own i a h
  refine ⟨h0,?_,rest⟩
  rcases hf with ⟨hf,hz⟩ | ⟨hf,_⟩
  ·exact .inl ⟨(CZ hf).1,sub.free hz⟩
  ·have e:ow' i=ow i:=R'.pin i hf
   rw [e] at h
   exact (R.own i a h).2.1
 ·have e:ow' i=ow i:=R'.pin i (C_ h)
  rw [e]
  exact R.pin i h
 ·obtain ⟨g1,g2,g3⟩:=R'.nt i a h
  rcases g3 with ⟨z,hz⟩ | z
  ·exact ⟨g1,g2,.inl ⟨yV.mp z,sub.free hz⟩⟩
  ·exact ⟨g1,g2,.inr (Dc.mp z)⟩
 ·have e:ow'.n i=ow.n i:=R'.np i (Dc.mpr h)
  rw [e]
  exact R.np i h
theorem iu {tg iter:Expr} {L:List Nat} {T:List Nat} {fi:FA} {g:FG} (hp:PassesOwn (model X.prog X.w) X.A X.env X.xe) (hc:X.calm=true) (hi:DI X fl L tg iter fi) (hg:DG X (lock L fl) T tg g) (hb:DSs X (lock L fl) body fs)
 (hs:∀ x,foldedSetIterable iter X.env x=pure x:=by intro _;rfl):DS1 X fl (.For tg iter body [] pos) (jD fi g fs):=PS.imp (Rt hp hc hi hg hb hs) fun Dn σ H h=>by
 obtain ⟨G,ow,δ,o,R0,hf,q⟩:=h
 obtain ⟨l,e1,e2⟩:=bind1 hf
 refine ⟨G,ow,δ,l,R0,e1,fun J H1 s wk=>?_⟩
 have R1:=R0.grow s
 have RL:=R1.lock L
 refine ⟨fun i m σ' H'=>m=l.length - i∧∃ ow' δ',Rel X.K (lock L fl) (ghL (lock L fl) G ow H1) ow' σ' H' δ'∧jB g fs (l.drop i) δ'=some o,⟨_,rfl,ow,δ,RL,by simpa using e2⟩,?_⟩
 rintro i m σ' H' ⟨rfl,ow',δ',R',hd⟩
 have kept:∀ b o,H1 b=some o→(∀ i,ow i=some b→i ∈ L)→(∀ i,b ∉ ow.n i)→H' b=some o:=fun b o hb hl hn=>R'.s1 b o (by
  rw [pJ]
  ·exact hb
  ·rintro (⟨j,e,hj⟩ | ⟨j,e,_⟩)
   ·exact (CZ hj).2 (hl j e)
   ·exact hn j e)
 obtain ⟨w1,w2⟩:=wk H' kept i
 by_cases hlt:i < l.length
 ·have hdrop:l.drop i=l[i] :: l.drop (i + 1):=nQ hlt
  rw [hdrop,jB] at hd
  obtain ⟨δ1,e3,hd⟩:=bind1 hd
  obtain ⟨o1,e4,hd⟩:=bind1 hd
  obtain ⟨go,yl⟩:=w1 l[i] (aN hlt)
  refine .inr ⟨go,fun σ' H'=>∃ ow' δ',Rel X.K (lock L fl) (ghL (lock L fl) G ow H1) ow' σ' H' δ'∧jB g fs (l.drop (i + 1)) δ'=some o,fun σ2 H2 ⟨ow2,δ2,R2,h2⟩=>⟨l.length - (i + 1),by omega,rfl,ow2,δ2,R2,h2⟩,fun x H3 hy=>?_⟩
  obtain ⟨s3,r3⟩:=yl x H3 hy
  have sub:∀ b,okA ow b∧H1 b ≠ none→okA ow' b:=fun b z=>by
   obtain ⟨z1,z2⟩:=z
   refine ⟨fun j e=>?_,fun j e=>?_⟩
   ·rcases (R'.own j b e).2.1 with ⟨_,hz⟩ | ⟨hz,_⟩
    ·have:(ghL (lock L fl) G ow H1).HF b=H1 b:=pJ (by rintro (⟨j',e',_⟩ | ⟨j',e',_⟩);exact z1.1 j' e';exact z1.2 j' e')
     rw [this] at hz
     exact z2 hz
    ·have e':ow' j=ow j:=R'.pin j hz
     rw [e'] at e
     exact z1.1 j e
   ·rcases (R'.nt j b e).2.2 with ⟨_,hz⟩ | w
    ·have:(ghL (lock L fl) G ow H1).HF b=H1 b:=pJ (by rintro (⟨j',e',_⟩ | ⟨j',e',_⟩);exact z1.1 j' e';exact z1.2 j' e')
     rw [this] at hz
     exact z2 hz
    ·have e':ow'.n j=ow.n j:=R'.np j w
     rw [e'] at e
     exact z1.2 j e
  refine ⟨_,ow',δ',_,δ1,R'.grow s3,r3.imp sub (fun z=>z),e3,fun σ4 R4 _=>⟨_,ow',δ1,o1,R4,e4,?_⟩⟩
  ·cases o1 with
   | nx δ2=>exact fun ow2 σ2 H2 R2=>⟨ow2,δ2,R2,hd⟩
   | ct δ2=>exact fun ow2 σ2 H2 R2=>⟨ow2,δ2,R2,hd⟩
   | bk δ2=>cases hd;exact fun ow2 σ2 H2 R2=>q ow2 σ2 H2 (R1.unlock R2)
   | rt d=>cases hd;exact q
   | ex c f v=>cases hd;exact q
 ·have e:l.drop i=[]:=o7 (by omega)
  rw [e,jB] at hd
  cases hd
  exact .inl ⟨w2 (by omega),q ow' σ' H' (R1.unlock R')⟩
theorem Jq (hp:PassesOwn (model X.prog X.w) X.A X.env X.xe) (hc:DT X fl c ft) (hb:DSs X fl body fs):DS1 X fl (.While c body [] pos) (tV ft fs):=PS.imp (Il hp hc hb) fun Dn σ H h=>by
 obtain ⟨G,ow,δ,o,R0,hf,q⟩:=h
 obtain ⟨n,hn⟩:=CJ hf
 refine ⟨fun m σ' H'=>∃ ow' δ',Rel X.K fl G ow' σ' H' δ'∧iw ft fs m δ'=some o,⟨n,ow,δ,R0,hn⟩,?_⟩
 rintro m σ' H' ⟨ow',δ',R',hw⟩
 cases m with
 | zero=>simp [iw] at hw
 | succ m =>
  rw [iw] at hw
  obtain ⟨t,e1,hw⟩:=bind1 hw
  refine ⟨G,ow',δ',t,R',e1,fun H1 s=>?_⟩
  cases t with
  | false =>
   rw [if_neg dN] at hw ⊢
   cases hw
   exact q ow' σ' H1 (R'.grow s)
  | true =>
   rw [if_pos rfl] at hw ⊢
   obtain ⟨o1,e2,hw⟩:=bind1 hw
   refine ⟨fun σ2 H2=>∃ ow2 δ2,Rel X.K fl G ow2 σ2 H2 δ2∧iw ft fs m δ2=some o,fun σ2 H2 ⟨ow2,δ2,R2,h2⟩=>⟨m,oH m,ow2,δ2,R2,h2⟩,G,ow',δ',o1,R'.grow s,e2,?_⟩
   cases o1 with
   | nx δ2=>exact fun ow2 σ2 H2 R2=>⟨ow2,δ2,R2,hw⟩
   | ct δ2=>exact fun ow2 σ2 H2 R2=>⟨ow2,δ2,R2,hw⟩
   | bk δ2=>cases hw;exact q
   | rt d=>cases hw;exact q
   | ex c f v=>cases hw;exact q
end
end D3
namespace D3
open PySem PySem.Spec PyProof.Rows L2 My
def notStar:Expr→Bool
 | .Starred _ _=>false
 | _=>true
theorem n_ {e:Expr} {es:List Expr} {env:Env} (h:notStar e=true):starEach (e :: es) env=(false,eval e env) :: starEach es env:=by
 cases e <;> first | rfl | cases h
theorem Ez {es:List Expr} {env:Env} {pos:Pos} (h:es.all notStar=true):(backTo pos (starEach es env)).any (·.1)=false:=by
 induction es with
 | nil=>rfl
 | cons e es ih =>
  rw [lN,aL] at h
  rw [n_ h.1]
  have:=ih h.2
  unfold backTo at this ⊢
  rw [bJ,lO,this]
  rfl
def isR:Kd→Bool
 | .P=>true
 | .A=>true
 | .R=>true
 | .C=>true
 | _=>false
def Jr (H0:Hp) (ow:Ow) (Hb:Hp):Kd→Ok
 | .P=>ok1
 | .A=>okA ow
 | .R=>okN H0
 | _=>okN Hb
def RX:Kd→Bool
 | .P=>true
 | .A=>true
 | _=>false
section
variable {K:PySem.W.Frag} {H0 Hb Hc H:Hp} {ow:Ow} {v:V} {d:D} {k:Kd}
theorem Rs.ra (hk:isR k=true) (h:Rs K H0 ow Hb H k v d):RA K (Jr H0 ow Hb k) (RX k) H v d:=by
 cases k <;> first | exact h | cases hk
theorem Rs.of_ra (hk:isR k=true) (h:RA K (Jr H0 ow Hb k) (RX k) H v d):Rs K H0 ow Hb H k v d:=by
 cases k <;> first | exact h | cases hk
theorem GJ (s:Same Hb Hc) (hk:isR k=true):∀ a,Jr H0 ow Hc k a→Jr H0 ow Hb k a:=fun a z=>by
 cases k <;> first | exact z | exact s.free z | cases hk
theorem Rs.of_flat (hf:flat d=true) (h:RA K ok0 false H v d):Rs K H0 ow Hb H k v d:=by
 cases k with
 | P=>exact RA.flat hf h
 | B L=>exact .inl (RA.flat hf h)
 | A=>exact RA.flat hf h
 | R=>exact RA.flat hf h
 | F=>exact .inl ⟨hf,h⟩
 | C=>exact RA.flat hf h
 | FC=>exact .inl ⟨hf,h⟩
 | T =>
  obtain ⟨as,h1,_,h3⟩:=RA.rt h
  cases as with
  | nil=>exact ⟨[],h1,.nil,fun _ z=>by cases z⟩
  | cons a r=>exact (h3 a aM).elim
theorem Rs.back (s:Same Hb Hc) (h:Rs K H0 ow Hc H k v d):Rs K H0 ow Hb H k v d:=by
 cases k with
 | P=>exact h
 | B L=>exact h
 | A=>exact h
 | R=>exact h
 | F =>
  rcases h with h | ⟨a,xs,ds,h1,h2,h3,h4⟩
  ·exact .inl h
  ·exact .inr ⟨a,xs,ds,h1,h2,s.free h3,h4⟩
 | C=>exact RA.imp (fun a z=>s.free z) (fun z=>z) h
 | FC =>
  rcases h with h | ⟨a,xs,ds,h1,h2,h3,h4,h5⟩
  ·exact .inl h
  ·exact .inr ⟨a,xs,ds,h1,h2,s.free h3,h4,h5.imp (fun b z=>⟨s.free z.1,z.2⟩) (fun z=>z)⟩
 | T =>
  obtain ⟨as,h1,h2,h3⟩:=h
  exact ⟨as,h1,h2,fun a z=>s.free (h3 a z)⟩
end
def tDB (K:PySem.W.Frag) (fl:List Fl) (k:Kd) (f:FA):TA:=fun σ H Q=>∃ G ow δ ds,Rel K fl G ow σ H δ∧f δ=some ds∧∀ vs H',Same H H'→RAs K (Jr G.H0 ow H k) (RX k) H' vs ds→Q vs H'
abbrev DB (X:Cx) (fl:List Fl) (k:Kd) (es:List Expr) (f:FA):Prop:=PA X es (tDB X.K fl k f)
section
variable {X:Cx} {fl:List Fl} {e a b c:Expr} {es rest:List Expr} {k:Kd} {f fa fb fc:FE} {ft gt:FT} {pos:Pos}
theorem Js:DB X fl k [] bh:=PA.imp tU fun σ H Q h=>by
 obtain ⟨G,ow,δ,ds,R,hf,q⟩:=h
 cases hf
 exact q [] H (Same.refl H) .nil
theorem Nj {fr:FA} (hk:isR k=true) (h:DE X fl k e f) (hr:DB X fl k es fr) (hs:starEach (e :: es) X.env=(false,eval e X.env) :: starEach es X.env:=by exact n_ rfl):DB X fl k (e :: es) (aF f fr):=PA.imp (nW h hr hs) fun σ H Q h=>by
 obtain ⟨G,ow,δ,ds,R,hf,q⟩:=h
 obtain ⟨d,e1,hf⟩:=bind1 hf
 obtain ⟨r,e2,hf⟩:=bind1 hf
 cases hf
 refine ⟨G,ow,δ,d,R,e1,fun v H1 s1 r1=>⟨G,ow,δ,r,R.grow s1,e2,fun vs H2 s2 r2=>?_⟩⟩
 exact q _ H2 (s1.trans s2) (.cons ((r1.ra hk).same s2) (r2.imp (GJ s1 hk) (fun z=>z)))
theorem oW (h:DB X fl .P es fa'):DA X fl es fa':=PA.imp h fun σ H Q h=>by
 obtain ⟨G,ow,δ,ds,R,hf,q⟩:=h
 exact ⟨G,ow,δ,ds,R,hf,fun vs H' s r=>q vs H' s r⟩
theorem oF {x1} {fa:FA} (hk:isR k=true) (h:DB X fl k es fa):DE X fl k (.Tuple es x1 pos) (dTup fa):=PE.imp (Ry h) fun σ H Q h=>by
 obtain ⟨G,ow,δ,d,R,hf,q⟩:=h
 obtain ⟨l,e1,e2⟩:=bind1 hf
 by_cases z:l.length ≤ sizeLine
 ·rw [if_pos z] at e2
  cases e2
  refine ⟨G,ow,δ,l,R,e1,fun vs H' s r=>⟨by rw [r.length];exact z,fun p hp=>?_⟩⟩
  have g:=dW hp (.tup vs)
  exact q _ _ (s.trans g) (Rs.of_ra hk (.tup dg (r.same g)))
 ·rw [if_neg z] at e2
  cases e2
theorem pK {fa:FA} (h:DB X fl .A es fa):DE X fl .F (.List es pos) (jA fa):=PE.imp (Iz h) fun σ H Q h=>by
 obtain ⟨G,ow,δ,d,R,hf,q⟩:=h
 obtain ⟨l,e1,e2⟩:=bind1 hf
 by_cases z:l.length ≤ sizeLine
 ·rw [if_pos z] at e2
  cases e2
  refine ⟨G,ow,δ,l,R,e1,fun vs H' s r=>⟨by rw [r.length];exact z,fun p hp=>?_⟩⟩
  have g:=dW hp (.lst vs)
  exact q _ _ (s.trans g) (.inr ⟨p,vs,l,rfl,rfl,s.free hp,dg,(r.track.imp (fun b w=>⟨w.1,fun e=>w.2 (e ▸ hp)⟩) (fun z=>z)).same g⟩)
 ·rw [if_neg z] at e2
  cases e2
theorem iU {fa:FA} (h:DB X fl .C es fa):DE X fl .FC (.List es pos) (jA fa):=PE.imp (Iz h) fun σ H Q h=>by
 obtain ⟨G,ow,δ,d,R,hf,q⟩:=h
 obtain ⟨l,e1,e2⟩:=bind1 hf
 by_cases z:l.length ≤ sizeLine
 ·rw [if_pos z] at e2
  cases e2
  refine ⟨G,ow,δ,l,R,e1,fun vs H' s r=>⟨by rw [r.length];exact z,fun p hp=>?_⟩⟩
  have g:=dW hp (.lst vs)
  exact q _ _ (s.trans g) (.inr ⟨p,vs,l,rfl,rfl,s.free hp,dg,(r.track.imp (fun b w=>⟨w.1,fun e=>w.2 (e ▸ hp)⟩) (fun z=>z)).same g⟩)
 ·rw [if_neg z] at e2
  cases e2
theorem RAs.at {K:PySem.W.Frag} {ok:Ok} {pl:Bool} {H:Hp} {vs:List V} {l:List D} {i:Int} {d:D} (r:RAs K ok pl H vs l) (h:pAt l i=some d):∃ v,atI vs i=some v∧RA K ok pl H v d:=by
 unfold pAt at h
 unfold atI
 obtain ⟨j,e1,e2⟩:=bind1 h
 obtain ⟨y,e3,ry⟩:=r.get e2
 exact ⟨y,by rw [r.length,show ixN l.length i=some j from e1];exact e3,ry⟩
theorem Vy {L:List Nat} (ha:DE X fl (.B L) a fa) (hb:DE X fl .P b fb) (hs:uI b):DE X fl .A (.Subscript a b pos) (dOp gIx fa fb):=PE.imp (QD IV ha hb hs) fun σ H Q h=>by
 obtain ⟨G,ow,δ,d,R,hf,q⟩:=h
 obtain ⟨x,y,e1,e2,e3⟩:=Ba hf
 refine ⟨G,ow,δ,x,R,e1,fun v H1 s1 r1=>⟨G,ow,δ,y,R.grow s1,e2,fun u H2 s2 r2=>?_⟩⟩
 unfold gIx at e3
 split at e3
 ·next l i =>
  obtain rfl:=RA.intE r2
  rcases r1 with r1 | ⟨i',_,p,xs,ds,ho,rfl,ez,hx,hr⟩
  ·obtain ⟨p,xs,rfl,hx,hr⟩:=RA.lstE (RA.same s2 r1)
   obtain ⟨z,ez,rz⟩:=hr.at e3
   exact .inl ⟨p,xs,i,z,rfl,rfl,hx,ez,q z H2 (s1.trans s2) rz⟩
  ·cases ez
   obtain ⟨z,ez,rz⟩:=(hr.same s2).at e3
   exact .inl ⟨p,xs,i,z,rfl,rfl,SqL.of (s2 _ _ hx),ez,q z H2 (s1.trans s2) rz⟩
 ·next l i =>
  obtain rfl:=RA.intE r2
  rcases r1 with r1 | ⟨i',_,p,xs,ds,ho,rfl,ez,hx,hr⟩
  ·obtain ⟨p,xs,rfl,hx,hr⟩:=RA.tupE (RA.same s2 r1)
   obtain ⟨z,ez,rz⟩:=hr.at e3
   exact .inr (.inl ⟨p,xs,i,z,rfl,rfl,hx,ez,q z H2 (s1.trans s2) rz⟩)
  ·cases ez
 ·cases e3
theorem qu {op:BoolOp} (h:DE X fl k a f):DE X fl k (.BoolOp op [a] pos) f:=Rg h
theorem mU (h1:DE X fl .P a fa) (h2:DE X fl k (.BoolOp .And (b :: rest) pos) fb):DE X fl k (.BoolOp .And (a :: b :: rest) pos) (rP fa fb):=PE.imp (Rh h1 h2) fun σ H Q h=>by
 obtain ⟨G,ow,δ,d,R,hf,q⟩:=h
 obtain ⟨x,e1,e2⟩:=bind1 hf
 refine ⟨G,ow,δ,x,R,e1,fun v H1 s1 r1=>?_⟩
 split at e2
 ·obtain rfl:=RA.blE r1
  exact ⟨true,rfl,Av ⟨G,ow,δ,d,R.grow s1,e2,fun u H2 s2 r2=>q u H2 (s1.trans s2) (r2.back s1)⟩⟩
 ·obtain rfl:=RA.blE r1
  cases e2
  exact ⟨false,rfl,Ar (q _ H1 s1 (Rs.of_flat rfl (.bl _)))⟩
 ·cases e2
theorem Jt (h1:DE X fl .P a fa):DE X fl .FC (.UnaryOp .Not a pos) (Ji fa):=PE.imp (Ri h1) fun σ H Q h=>by
 obtain ⟨G,ow,δ,d,R,hf,q⟩:=h
 obtain ⟨x,e1,e2⟩:=bind1 hf
 refine ⟨G,ow,δ,x,R,e1,fun v H1 s1 r1=>?_⟩
 split at e2
 ·next c =>
  obtain rfl:=RA.blE r1
  cases e2
  exact ⟨c,rfl,q _ H1 s1 (Rs.of_flat rfl (.bl _))⟩
 ·cases e2
theorem jF (h:DT X fl a ft):DT X fl (.UnaryOp .Not a pos) (jW ft):=PT.imp (Rf h) fun σ H Q h=>by
 obtain ⟨G,ow,δ,t,R,hf,q⟩:=h
 unfold jW at hf
 cases e:ft δ with
 | none=>rw [e] at hf;cases hf
 | some x =>
  rw [e] at hf
  cases hf
  exact ⟨G,ow,δ,x,R,e,fun H' s=>q H' s⟩
theorem lW (h:DT X fl a ft):DW X fl (.BoolOp .And [a] pos) ft:=Ml h
theorem oG (h:DT X fl a ft):DW X fl (.BoolOp .Or [a] pos) ft:=Ra h
theorem lG (h1:DT X fl a ft) (h2:DW X fl (.BoolOp .And (b :: rest) pos) gt):DW X fl (.BoolOp .And (a :: b :: rest) pos) (iG ft gt):=PW.imp (Rc h1 h2) fun σ H Q h=>by
 obtain ⟨G,ow,δ,t,R,hf,q⟩:=h
 obtain ⟨x,e1,e2⟩:=bind1 hf
 refine ⟨G,ow,δ,x,R,e1,fun H1 s1=>?_⟩
 cases x with
 | true=>exact Av ⟨G,ow,δ,t,R.grow s1,e2,fun H2 s2=>q H2 (s1.trans s2)⟩
 | false=>cases e2;exact Ar (q H1 s1)
theorem mC (h1:DT X fl a ft) (h2:DW X fl (.BoolOp .Or (b :: rest) pos) gt):DW X fl (.BoolOp .Or (a :: b :: rest) pos) (tOr ft gt):=PW.imp (U6 h1 h2) fun σ H Q h=>by
 obtain ⟨G,ow,δ,t,R,hf,q⟩:=h
 obtain ⟨x,e1,e2⟩:=bind1 hf
 refine ⟨G,ow,δ,x,R,e1,fun H1 s1=>?_⟩
 cases x with
 | true=>cases e2;exact Av (q H1 s1)
 | false=>exact Ar ⟨G,ow,δ,t,R.grow s1,e2,fun H2 s2=>q H2 (s1.trans s2)⟩
theorem oX (h:DW X fl a ft):DT X fl a ft:=PW.pt h
theorem Bc {op op':CmpOp} {r r':R2} {g g':D→D→Option D} (ho:OpR X (compareOp op) r) (ho':OpR X (compareOp op') r') (hb:BrO X.K r g) (hb':BrO X.K r' g') (h1:DE X fl .P a fa) (h2:DE X fl .P b fb) (h3:DE X fl .P c fc)
 (hm:lastMarks [op,op'] [b,c]=false:=by with_unfolding_all rfl):DE X fl .FC (.Compare a [op,op'] [b,c] pos) (oE g g' fa fb fc):=PE.imp (Iv ho ho' h1 h2 h3 hm) fun σ H Q h=>by
 obtain ⟨G,ow,δ,d,R,hf,q⟩:=h
 obtain ⟨x,e1,hf⟩:=bind1 hf
 obtain ⟨y,e2,hf⟩:=bind1 hf
 obtain ⟨z,e3,hf⟩:=bind1 hf
 refine ⟨G,ow,δ,x,R,e1,fun v H1 s1 r1=>⟨G,ow,δ,y,R.grow s1,e2,fun u H2 s2 r2=>?_⟩⟩
 refine hb H2 v u x y z _ (RA.same s2 r1) r2 e3 fun zv hz rz=>?_
 split at hf
 ·obtain rfl:=rz.blE
  obtain ⟨w,e4,e5⟩:=bind1 hf
  refine ⟨true,rfl,Av ⟨G,ow,δ,w,R.grow (s1.trans s2),e4,fun wv H3 s3 r3=>?_⟩⟩
  exact hb' H3 u wv y w d Q (RA.same s3 r2) r3 e5 fun z hz rz=>q z H3 (s1.trans (s2.trans s3)) (.inl ⟨hz,rz⟩)
 ·obtain rfl:=rz.blE
  cases hf
  exact ⟨false,rfl,Ar (q _ H2 (s1.trans s2) (.inl ⟨rfl,.bl _⟩))⟩
 ·cases hf
theorem GK {op op' op'':CmpOp} {r r' r'':R2} {g g' g'':D→D→Option D} {d:Expr} {fd:FE} (ho:OpR X (compareOp op) r) (ho':OpR X (compareOp op') r') (ho'':OpR X (compareOp op'') r'') (hb:BrO X.K r g) (hb':BrO X.K r' g') (hb'':BrO X.K r'' g'') (h1:DE X fl .P a fa) (h2:DE X fl .P b fb) (h3:DE X fl .P c fc) (h4:DE X fl .P d fd)
 (hm:lastMarks [op,op',op''] [b,c,d]=false:=by with_unfolding_all rfl):DE X fl .FC (.Compare a [op,op',op''] [b,c,d] pos) (uJ g g' g'' fa fb fc fd):=PE.imp (Gy ho ho' ho'' h1 h2 h3 h4 hm) fun σ H Q h=>by
 obtain ⟨G,ow,δ,dd,R,hf,q⟩:=h
 obtain ⟨x,e1,hf⟩:=bind1 hf
 obtain ⟨y,e2,hf⟩:=bind1 hf
 obtain ⟨z,e3,hf⟩:=bind1 hf
 refine ⟨G,ow,δ,x,R,e1,fun v H1 s1 r1=>⟨G,ow,δ,y,R.grow s1,e2,fun u H2 s2 r2=>?_⟩⟩
 refine hb H2 v u x y z _ (RA.same s2 r1) r2 e3 fun zv hz rz=>?_
 split at hf
 ·obtain rfl:=rz.blE
  obtain ⟨w,e4,hf⟩:=bind1 hf
  obtain ⟨z',e5,hf⟩:=bind1 hf
  refine ⟨true,rfl,Av ⟨G,ow,δ,w,R.grow (s1.trans s2),e4,fun wv H3 s3 r3=>?_⟩⟩
  refine hb' H3 u wv y w z' _ (RA.same s3 r2) r3 e5 fun zv' hz' rz'=>?_
  split at hf
  ·obtain rfl:=rz'.blE
   obtain ⟨t,e6,e7⟩:=bind1 hf
   refine ⟨true,rfl,Av ⟨G,ow,δ,t,R.grow (s1.trans (s2.trans s3)),e6,fun tv H4 s4 r4=>?_⟩⟩
   exact hb'' H4 wv tv w t dd Q (RA.same s4 r3) r4 e7 fun z hz rz=>q z H4 (s1.trans (s2.trans (s3.trans s4))) (.inl ⟨hz,rz⟩)
  ·obtain rfl:=rz'.blE
   cases hf
   exact ⟨false,rfl,Ar (q _ H3 (s1.trans (s2.trans s3)) (.inl ⟨rfl,.bl _⟩))⟩
  ·cases hf
 ·obtain rfl:=rz.blE
  cases hf
  exact ⟨false,rfl,Ar (q _ H2 (s1.trans s2) (.inl ⟨rfl,.bl _⟩))⟩
 ·cases hf
theorem Di {K:PySem.W.Frag} {ok:Ok} {pl:Bool} {H:Hp} {v:V} {d:D} (r:RA K ok pl H v d):decide (v = .non)=isNone d:=by
 cases r <;> rfl
theorem RZ {j pos'} (h:DE X fl .P a f):DE X fl .FC (.Compare a [.Is] [.Constant .none j pos'] pos) (dUn nA f):=PE.imp (Q9 (H_ h)) fun σ H Q h=>by
 obtain ⟨G,ow,δ,d,R,hf,q⟩:=h
 obtain ⟨x,e1,e2⟩:=bind1 hf
 cases e2
 refine ⟨G,ow,δ,x,R,e1,fun v H1 s1 r1=>?_⟩
 show Q (.bl (decide (v = .non))) H1
 rw [Di (RA.same (Same.refl H1) r1)]
 exact q _ H1 s1 (.inl ⟨rfl,.bl _⟩)
def BrC (K:PySem.W.Frag) (r:List V→Hp→VK→Prop) (g:List D→Option D):Prop:=∀ (H:Hp) (xs:List V) (ds:List D) (d:D) (Q:VK),RAs K ok1 true H xs ds→g ds=some d→(∀ v,flat d=true→RA K ok0 false H v d→Q v H)→r xs H Q
theorem dR {id:String} {r:List V→Hp→VK→Prop} {g:List D→Option D} {x:Str} {p:Pos} {fa:FA} (hc:nu X (.builtin id) r) (hb:BrC X.K r g) (hg:Gl X x) (hm:X.mg x=none) (hv:bootBuiltins x=some (.builtin id)) (ha:DB X fl .P (e :: es) fa) (hn:x ≠ "__name__" := by decide) (hdb:(x == ("__debug__" : Str))=false:=by decide)
 (he:starEach (e :: es) X.env=(false,eval e X.env) :: starEach es X.env:=by exact n_ rfl) (hpl:(backTo pos (starEach es X.env)).any (·.1)=false:=by exact Ez rfl):DE X fl .FC (.Call (.Name x p) (e :: es) [] pos) (dCall g fa) :=
 PE.imp (oN hc hg hm hv ha hn hdb he hpl) fun σ H Q h=>by
 obtain ⟨G,ow,δ,d,R,hf,q⟩:=h
 obtain ⟨ds,e1,e2⟩:=bind1 hf
 exact ⟨G,ow,δ,ds,R,e1,fun vs H' s r'=>hb H' vs ds d Q r' e2 fun v hv rv=>q v H' s (.inl ⟨hv,rv⟩)⟩
theorem i_ {K:PySem.W.Frag}:BrC K (fun xs H Q=>∃ p ys,xs=[.ref p]∧(SqL K H p ys∨SqT K H p ys)∧Q (.int ys.length) H) ju:=by
 intro H xs ds d Q r e q
 unfold ju at e
 split at e
 ·next l =>
  cases e
  cases r with
  | cons r1 r2 =>
   cases r2
   obtain ⟨a,ys,rfl,hx,hr⟩:=r1.lstE
   refine ⟨a,ys,rfl,.inl hx,?_⟩
   rw [hr.length]
   exact q _ rfl (.int _)
 ·next l =>
  cases e
  cases r with
  | cons r1 r2 =>
   cases r2
   obtain ⟨a,ys,rfl,hx,hr⟩:=r1.tupE
   refine ⟨a,ys,rfl,.inr hx,?_⟩
   rw [hr.length]
   exact q _ rfl (.int _)
 ·cases e
theorem Ju {K:PySem.W.Frag}:BrC K (fun xs H Q=>∃ i j,xs=[.int i,.int j]∧Q (.int (if j > i then j else i)) H) yh:=by
 intro H xs ds d Q r e q
 unfold yh at e
 split at e
 ·cases e
  cases r with
  | cons r1 r2 =>
   cases r2 with
   | cons r2 r3 =>
    cases r3
    obtain rfl:=r1.intE
    obtain rfl:=r2.intE
    exact ⟨_,_,rfl,q _ rfl (.int _)⟩
 ·cases e
theorem Dj {K:PySem.W.Frag}:BrC K (fun xs H Q=>∃ i j,xs=[.int i,.int j]∧Q (.int (if j < i then j else i)) H) yj:=by
 intro H xs ds d Q r e q
 unfold yj at e
 split at e
 ·cases e
  cases r with
  | cons r1 r2 =>
   cases r2 with
   | cons r2 r3 =>
    cases r3
    obtain rfl:=r1.intE
    obtain rfl:=r2.intE
    exact ⟨_,_,rfl,q _ rfl (.int _)⟩
 ·cases e
theorem Nk (d:D):tyD d = "NoneType" ∨ tyD d = "bool" ∨ tyD d = "int" ∨ tyD d = "str" ∨ tyD d = "list" ∨ tyD d = "tuple" ∨ tyD d = "dict" := by
 cases d <;> simp [tyD]
def XH (K:PySem.W.Frag):List V→Hp→VK→Prop:=fun xs H Q=>∃ x c d,xs=[x,.ty c]∧(c = "int" ∨ c = "bool" ∨ c = "tuple" ∨ c = "list" ∨ c = "str")∧RA K ok1 true H x d∧Q (.bl (isT c (tyD d))) H
theorem Jv:nu X (.builtin "isinstance") (XH X.K):=by
 intro pins s σ H xs us Q I r h
 obtain ⟨x,c,d,rfl,hc,ra,q⟩:=h
 obtain ⟨u,w',rfl,rx,rc⟩:=vals2 r
 cases rc
 have kn:=RK (K:=X.K) hc (Nk d)
 have fin:∀ tk,EP X pins σ Q (.bool (isT c (tyD d))) { s with toks:=tk }:=fun tk=>⟨.bl _,H,I.tok _,rfl,q⟩
 cases ra with
 | non=>cases (show u=Value.none from rx);exact PySem.W.kia_one PySem.W.kitx_none I.kIn True.intro kn (fun z=>nomatch z) fin
 | bl b=>cases (show u=Value.bool b from rx);exact PySem.W.kia_one PySem.W.kitx_bool I.kIn True.intro kn (fun z=>nomatch z) fin
 | int i=>obtain ⟨t,z⟩:=(show ∃ t,u=Value.int i t from rx);cases z;exact PySem.W.kia_one PySem.W.kitx_int I.kIn True.intro kn (fun z=>nomatch z) fin
 | str y=>obtain ⟨t,z⟩:=(show ∃ t,u=Value.str y t from rx);cases z;exact PySem.W.kia_one PySem.W.kitx_str I.kIn True.intro kn (fun z=>nomatch z) fin
 | @lst a xs ds e k q' =>
  cases (show u=Value.ref a from rx)
  obtain ⟨its,_,⟨o,n,e1,e2,_⟩,_⟩:=I.list (SqL.of e)
  exact PySem.W.kia_one PySem.W.kitx_list I.kIn ⟨_,e1,e2⟩ kn (fun z=>nomatch z) fin
 | @lsk a xs ds e k q' =>
  cases (show u=Value.ref a from rx)
  obtain ⟨its,_,⟨o,n,e1,e2,_⟩,_⟩:=I.list e.sq
  exact PySem.W.kia_one PySem.W.kitx_list I.kIn ⟨_,e1,e2⟩ kn (fun z=>nomatch z) fin
 | @tup a xs ds e q' =>
  cases (show u=Value.ref a from rx)
  obtain ⟨its,_,⟨o,e1,e2,_⟩,_⟩:=I.tuple e.sq
  exact PySem.W.kia_one PySem.W.kitx_tuple I.kIn ⟨_,e1,e2⟩ kn (fun z=>nomatch z) fin
 | @dic a u0 kvs e g k =>
  rcases g.or with ⟨ks,z⟩ | ⟨ks,z⟩
  ·rw [z] at e;exact xV I rx (TyOf.dK e) kn fin
  ·rw [z] at e;exact xV I rx (TyOf.dT e) kn fin
 | @dik a u0 kvs ob e g k =>
  cases (show u=Value.ref a from rx)
  have ob:=(show gZ X.prog X.w H s.heap a u0 from (show L2.Rd H a u0 from .inr ⟨_,e⟩).ok I.hok)
  rcases g.or with ⟨ks,z⟩ | ⟨ks,z⟩
  ·rw [z] at ob
   obtain ⟨_,_,vs,_,dd⟩:=ob
   obtain ⟨o1,_,_,h1,h2,_⟩:=dd
   exact PySem.W.kia_one PySem.W.kitx_dict I.kIn ⟨_,h1,h2.1⟩ kn (fun z=>nomatch z) fin
  ·rw [z] at ob
   obtain ⟨_,_,xs,_,o1,_,_,h1,h2,_⟩:=ob
   exact PySem.W.kia_one PySem.W.kitx_dict I.kIn ⟨_,h1,h2.1⟩ kn (fun z=>nomatch z) fin
theorem nC {T:String} {x:Str} {p p':Pos} (hc:T = "int" ∨ T = "bool" ∨ T = "tuple" ∨ T = "list" ∨ T = "str") (h:DE X fl .P a f) (hg:Gl X "isinstance") (hm:X.mg "isinstance" = none) (hg':Gl X x) (hm':X.mg x=none) (hv':bootBuiltins x=some (.type T))
 (hn':x ≠ "__name__" := by decide) (hd':(x == ("__debug__" : Str))=false:=by decide)
 (he:starEach [a,.Name x p'] X.env=(false,eval a X.env) :: starEach [.Name x p'] X.env:=by rfl) (he2:starEach [.Name x p'] X.env=(false,eval (.Name x p') X.env) :: starEach [] X.env:=by rfl) (hpl:(backTo pos (starEach [.Name x p'] X.env)).any (·.1)=false:=by rfl) :
 DE X fl .FC (.Call (.Name "isinstance" p) [a,.Name x p'] [] pos) (dUn (gIs T) f) :=
 PE.imp (oN Jv hg hm boot_isinstance (nW h (nW (Mi (v:=.ty T) hg' hm' hv' rfl hn' hd') tU he2) he) (by decide) (by decide) he hpl) fun σ H Q h=>by
 obtain ⟨G,ow,δ,d,R,hf,q⟩:=h
 obtain ⟨x,e1,e2⟩:=bind1 hf
 cases e2
 exact ⟨G,ow,δ,x,R,e1,fun v H1 s1 r1=>⟨v,T,x,rfl,hc,r1,q _ H1 s1 (.inl ⟨rfl,.bl _⟩)⟩⟩
theorem Jw (h:DE X fl .P a f):DE X fl .FC (.UnaryOp .USub a pos) (dUn yP f):=PE.imp (Vf Rx h) fun σ H Q h=>by
 obtain ⟨G,ow,δ,d,R,hf,q⟩:=h
 obtain ⟨x,e1,e2⟩:=bind1 hf
 refine ⟨G,ow,δ,x,R,e1,fun v H1 s1 r1=>?_⟩
 unfold yP at e2
 split at e2
 ·cases e2
  obtain rfl:=RA.intE r1
  exact ⟨_,rfl,q _ H1 s1 (.inl ⟨rfl,.int _⟩)⟩
 ·cases e2
end
def spD (K:PySem.W.Frag) (F:List D→Option D):Sp:=fun vs H Q _=>∃ ds d,(Tb H∧RAs K ok1 true H vs ds)∧F ds=some d∧∀ v H',Same H H'→RA K (okN H) false H' v d→Q v H'
section
variable {P:Program} {w:World} {K:PySem.W.Frag} {mg:Str→Option Value} {base:Heap} {x:Str} {ps N:List Str} {st:Stmt} {k n:Nat} {fs:FS} {fl:List Fl}
theorem lH {vs:List V} {ds:List D} {H:Hp} (p:Nat) (hp:∀ i,i < p→fl[i]? = some .A) (hl:ds.length=p) (hN:p ≤ N.length) (r':Tb H∧RAs K ok1 true H vs ds) :
 Rel K fl ⟨H,H,fun _=>none,fun _=>[],r'.1⟩ ow0 (L2.start N vs) H (ds.map (fun d=>some (.d d))++bG (N.length - p) none):=by
 have r:=r'.2
 have hv:vs.length=p:=by rw [r.length];exact hl
 have get:∀ i d,(ds.map (fun d=>some (U.d d))++bG (N.length - p) none)[i]? = some (some (.d d))→i < p∧ds[i]? = some d:=fun i d h=>by
  by_cases hi:i < p
  ·rw [dw (by rw [aG,hl];exact hi),aQ] at h
   cases e:ds[i]? with
   | none=>rw [e] at h;cases h
   | some z=>rw [e] at h;cases h;exact ⟨hi,rfl⟩
  ·rw [cM (by rw [aG,hl];omega),gB] at h
   split at h <;> cases h
 refine ⟨Same.refl H,Same.refl H,?_,fun i a h=>(by cases h),fun i j a h=>(by cases h),fun i h=>rfl,fun i d h _ _=>?_,fun i d h _ h2 _=>?_,fun i a h=>(by cases h),fun i j a h=>(by cases h),fun i j a h=>(by cases h),fun i h=>rfl,fun i d hn h=>?_⟩
 ·unfold L2.start
  simp only [bH,aG,cA,hv,hl]
 ·obtain ⟨hi,e⟩:=get i d h
  obtain ⟨v,e1,e2⟩:=r.get e
  refine ⟨v,?_,e2.imp (fun _ _=>⟨fun i z=>(by cases z),fun i z=>(by cases z)⟩) (fun z=>z)⟩
  unfold L2.start
  rw [dw (by rw [aG,hv];exact hi),aQ,e1]
  rfl
 ·exact absurd (hp i (get i d h).1) h2
 ·rw [hp i (get i d h).1] at hn
  cases hn
end
section
variable {X:Cx} {fl:List Fl} {e:Expr} {es:List Expr} {pos p:Pos} {x:Str} {ps:List Str} {n:Nat} {F:List D→Option D} {fa:FA}
theorem bK (h:Has X.prog X.w X.K X.mg X.base n x ps (spD X.K F)) (hr:Room n X.A) (ha:DB X fl .P (e :: es) fa) (hg:Gl X x:=by rfl) (hdb:(x == ("__debug__" : Str))=false:=by decide)
 (he:starEach (e :: es) X.env=(false,eval e X.env) :: starEach es X.env:=by exact n_ rfl) (hpl:(backTo pos (starEach es X.env)).any (·.1)=false:=by exact Ez rfl) :
 DE X fl .C (.Call (.Name x p) (e :: es) [] pos) (dCall F fa):=PE.imp (Aw h hr ha hg hdb he hpl) fun σ H Q h=>by
 obtain ⟨G,ow,δ,d,R,hf,q⟩:=h
 obtain ⟨ds,e1,e2⟩:=bind1 hf
 refine ⟨G,ow,δ,ds,R,e1,fun vs H' s r=>?_⟩
 show spD X.K F (vs++[]) H' Q E0
 rw [cH]
 exact ⟨ds,d,⟨R.tb.same s,r⟩,e2,fun v H2 s2 r2=>q v H2 (s.trans s2) (RA.imp (fun a z=>s.free z) (fun z=>z) r2)⟩
end
end D3
namespace D3
open PySem PySem.Spec PyProof.Rows L2 My
section
variable {X:Cx} {fl fl':List Fl} {e a b c elt tg iter:Expr} {es ifs:List Expr} {k:Kd} {f fa fb fc:FE} {ft gt:FT} {pos:Pos} {scope:Scope} {ix L TT:List Nat} {fi:FA} {g:FG}
theorem lX:PTs X [] (tDT X.K fl D3.jX):=fun pins s σ H Q I h=>by
 obtain ⟨G,ow,δ,b,R,hf,q⟩:=h
 cases hf
 exact M6 pins s σ H Q I (q H (Same.refl H))
theorem Nm {K:PySem.W.Frag} {G:Gh} {ow:Ow} {σ:St} {H H1:Hp} {δ:DS} (t:Nat) (ix:List Nat) (hfl:∀ i,i < t + ix.length→fl'[i]? = some .A) (R:Rel K fl G ow σ H δ) (s:Same H H1) :
 Rel K fl' ⟨H,H,fun _=>none,fun _=>[],R.tb⟩ ow0 (wQ t ix σ) H1 (jM t ix δ):=by
 have get:∀ i d,(jM t ix δ)[i]? = some (some (.d d))→i < t + ix.length∧∃ j,ix[i - t]? = some j∧t ≤ i∧δ[j]? = some (some (.d d)):=fun i d h=>by
  unfold jM at h
  by_cases hi:i < t
  ·rw [dw (by rw [cA];exact hi),gB,if_pos hi] at h
   cases h
  ·rw [cM (by rw [cA];omega),cA,aQ] at h
   cases e:ix[i - t]? with
   | none=>rw [e] at h;cases h
   | some j =>
    rw [e] at h
    have hl:i - t < ix.length:=by
     rcases fW (i - t) ix.length with z | z
     ·exact z
     ·rw [bf z] at e;cases e
    refine ⟨by omega,j,rfl,by omega,?_⟩
    have h':(δ[j]?).getD none=some (.d d):=by simpa using h
    cases q:δ[j]? with
    | none=>rw [q] at h';cases h'
    | some o=>rw [q] at h';simp at h';rw [h']
 refine ⟨Same.refl H,s,?_,fun i a h=>(by cases h),fun i j a h=>(by cases h),fun i h=>rfl,fun i d h _ _=>?_,fun i d h _ h2 _=>absurd (hfl i (get i d h).1) h2,fun i a h=>(by cases h),fun i j a h=>(by cases h),fun i j a h=>(by cases h),fun i h=>rfl,fun i d hn h=>(by rw [hfl i (get i d h).1] at hn;cases hn)⟩
 ·unfold wQ jM
  simp
 ·obtain ⟨hi,j,ej,ht,ed⟩:=get i d h
  have key:∃ v,σ[j]? = some (some v)∧RA K ok1 true H v d:=by
   cases hN:isN fl[j]? with
   | true =>
    obtain ⟨v,h1,h2,_⟩:=R.nr j d hN ed
    exact ⟨v,h1,h2.ra fun _ _=>trivial⟩
   | false =>
   cases ho:ow j with
   | none =>
    obtain ⟨v,h1,h2⟩:=R.dat j d ed hN ho
    exact ⟨v,h1,h2.imp (fun _ _=>trivial) (fun z=>z)⟩
   | some a =>
    obtain ⟨_,_,xs,ds,h1,h2,h3,h4⟩:=R.own j a ho
    rw [ed] at h4
    cases h4
    exact ⟨_,h1,.lst h2 trivial (h3.imp (fun _ _=>trivial) (fun z=>z))⟩
  obtain ⟨v,h1,h2⟩:=key
  refine ⟨v,?_,(h2.imp (fun _ _=>⟨fun i z=>(by cases z),fun i z=>(by cases z)⟩) (fun z=>z)).same s⟩
  unfold wQ
  rw [cM (by rw [cA];omega),cA,aQ,ej]
  show some ((σ[j]?).getD none)=_
  rw [h1]
  rfl
theorem qw {σ:St} {H:Hp} {Q:VK} {t:Nat} (hfl:∀ i,i < t + ix.length→fl'[i]? = some .A) (htg:∀ j ∈ TT,j < t)
 (h:tD X.K fl .FC (iT fi g ft f t ix) σ H Q):Er (tDI X.K fl L fi) (tDG X.K fl' TT g) (tDT X.K fl' ft) (tD X.K fl' .C f) t (wQ t ix) σ H Q:=by
 obtain ⟨G,ow,δ,d,R,hf,q⟩:=h
 obtain ⟨l,e1,e2⟩:=bind1 hf
 by_cases hl:l.length ≤ 100000
 case neg=>rw [if_neg hl] at e2;cases e2
 rw [if_pos hl] at e2
 obtain ⟨r,e3,e4⟩:=bind1 e2
 cases e4
 refine ⟨G,ow,δ,l,R,e1,fun J H1 s1 wk Dl hD=>?_⟩
 have R1:=R.grow s1
 let okD:Ok:=fun b=>okN H b∧b ≠ Dl
 refine ⟨fun i m xs H2=>m=l.length - i∧H2 Dl=some (.lst xs)∧Same H1 H2∧xs.length ≤ i∧i ≤ l.length∧∃ ds rest,RAs X.K okD false H2 xs ds∧fJ g ft f (jM t ix δ) (l.drop i)=some rest∧r=ds++rest,
  ⟨_,rfl,dg,dW hD _,aZ _,eY _,[],r,.nil,by simpa using e3,rfl⟩,?_⟩
 rintro i m xs H2 ⟨rfl,hDl,s2,hxl,hil,ds,rest,hr,hc,rfl⟩
 refine ⟨hDl,?_⟩
 obtain ⟨w1,w2⟩:=wk H2 (fun b o hb _ _=>s2 b o hb) i
 by_cases hlt:i < l.length
 ·have hdrop:l.drop i=l[i] :: l.drop (i + 1):=nQ hlt
  rw [hdrop,fJ] at hc
  obtain ⟨δ1,e5,hc⟩:=bind1 hc
  obtain ⟨bb,e6,hc⟩:=bind1 hc
  obtain ⟨go,yl⟩:=w1 l[i] (aN hlt)
  refine .inr ⟨go,Nat.lt_of_le_of_lt (bM hxl (bM hil hl)) (by decide),fun x H3 hy=>?_⟩
  obtain ⟨s3,r3⟩:=yl x H3 hy
  have s13:=s2.trans s3
  have Rb:=(Nm t ix hfl R1 (Same.refl H1)).grow s13
  refine ⟨_,_,_,_,δ1,Rb,r3.imp (fun _ _=>⟨fun i z=>(by cases z),fun i z=>(by cases z)⟩) (fun z=>z),e5,fun σ4 R4 keep4=>⟨?_,?_⟩⟩
  ·apply dY
   intro n
   rw [nj,nj]
   exact keep4 (t + n) fun z=>absurd (htg _ z) (by omega)
  ·refine ⟨_,_,δ1,bb,R4,e6,fun H5 s5=>?_⟩
   cases bb with
   | false =>
    rw [if_neg dN] at hc ⊢
    have s35:=s3.trans s5
    exact ⟨l.length - (i + 1),by omega,rfl,s35 _ _ hDl,s2.trans s35,by omega,hlt,ds,rest,hr.same s35,hc,rfl⟩
   | true =>
    rw [if_pos rfl] at hc ⊢
    obtain ⟨y,e7,hc⟩:=bind1 hc
    obtain ⟨l',e8,hc⟩:=bind1 hc
    cases hc
    refine ⟨_,_,δ1,y,R4.grow s5,e7,fun v H6 s6 r6=>?_⟩
    have s35:=s3.trans s5
    have s36:=s35.trans s6
    refine ⟨s36 _ _ hDl,l.length - (i + 1),by omega,rfl,dg,?_,by rw [bH,p7];omega,hlt,ds++[y],l',?_,e8,by simp⟩
    ·intro b o hb
     rw [cI (fun z=>by subst z;rw [hD] at hb;cases hb)]
     exact (s2.trans s36) b o hb
    ·have nd:¬ okD Dl:=fun z=>z.2 rfl
     have s05:Same H H5:=s1.trans (s2.trans s35)
     have ry:RA X.K okD false H6 v y:=RA.imp (fun b z=>⟨s05.free z,fun e=>by subst e;rw [okN,s35 _ _ hDl] at z;cases z⟩) (fun z=>z) r6
     exact ((hr.same s36).append (.cons ry .nil)).upd (s36 _ _ hDl) nd
 ·have ed:l.drop i=[]:=o7 (by omega)
  rw [ed,fJ] at hc
  cases hc
  refine .inl ⟨w2 (by omega),?_⟩
  rw [cH] at q
  exact q (.ref Dl) H2 (s1.trans s2) (.inr ⟨Dl,xs,ds,rfl,rfl,s1.free hD,hDl,hr⟩)
theorem iV (hc:X.calm=true) (T Vn:List Str) (ix:List Nat) (hi:DI X fl L tg iter fi)
 (hg:∀ cl C s3 H3 fp,DG (blk X (T++Vn) scope cl C s3 H3 fp) fl' TT tg g) (ht:∀ cl C s3 H3 fp,PTs (blk X (T++Vn) scope cl C s3 H3 fp) ifs (tDT X.K fl' ft)) (he:∀ cl C s3 H3 fp,DE (blk X (T++Vn) scope cl C s3 H3 fp) fl' .C elt f)
 (hfl:∀ i,i < T.length + ix.length→fl'[i]? = some .A:=by decide) (htg:∀ j ∈ TT,j < T.length:=by decide)
 (hB:uE X.N X.env.scope.names scope.names Vn ix=true:=by rfl) (hk:scope.kind = .function:=by rfl) (hcell:∀ y ∈ scope.names,y.2 ≠ .cell:=by decide +kernel)
 (hnames:∀ x ∈ scope.names,x.2 = .local→scope.names.lookup x.1=some .local:=by decide +kernel)
 (hfr:∀ x ∈ scope.names,x.2 = .free→x.1 ∈ Vn:=by decide +kernel) (hs:∀ x,foldedSetIterable iter X.env x=pure x:=by intro _;rfl) :
 DE X fl .FC (.ListComp elt [⟨tg,iter,ifs,0⟩] scope pos) (iT fi g ft f T.length ix) :=
 PE.imp (M7 hc T Vn ix hi hg ht he hB hk hcell hnames hfr hs) fun _ _ _ h=>qw hfl htg h
theorem Bd {i:Nat} {x:Str} {pos' spos:Pos} (hfx:fl[i]? = some .A) (hN:X.N.Nodup) (hi':X.N[i]? = some x) (hx:X.env.scope.names.lookup x=some .local) (hc:X.calm=true) (T Vn:List Str) (ix:List Nat) (hi:DI X fl L tg iter fi)
 (hg:∀ cl C s3 H3 fp,DG (blk X (T++Vn) scope cl C s3 H3 fp) fl' TT tg g) (ht:∀ cl C s3 H3 fp,PTs (blk X (T++Vn) scope cl C s3 H3 fp) ifs (tDT X.K fl' ft)) (he:∀ cl C s3 H3 fp,DE (blk X (T++Vn) scope cl C s3 H3 fp) fl' .C elt f)
 (hfl:∀ i,i < T.length + ix.length→fl'[i]? = some .A:=by decide) (htg:∀ j ∈ TT,j < T.length:=by decide)
 (hsw:swapsWith (.ListComp elt [⟨tg,iter,ifs,0⟩] scope pos) (some (.Name x pos')) spos.line X.env=pure true:=by rfl)
 (hB:uE X.N X.env.scope.names scope.names Vn ix=true:=by rfl) (hk:scope.kind = .function:=by rfl) (hcell:∀ y ∈ scope.names,y.2 ≠ .cell:=by decide +kernel)
 (hnames:∀ x ∈ scope.names,x.2 = .local→scope.names.lookup x.1=some .local:=by decide +kernel)
 (hfr:∀ x ∈ scope.names,x.2 = .free→x.1 ∈ Vn:=by decide +kernel) (hs:∀ x,foldedSetIterable iter X.env x=pure x:=by intro _;rfl) :
 DS1 X fl (.Assign [.Name x pos'] (.ListComp elt [⟨tg,iter,ifs,0⟩] scope pos) spos) (cD i (iT fi g ft f T.length ix)) :=
 PS.imp (Es hN hi' hx hc T Vn ix hi hg ht he hsw hB hk hcell hnames hfr hs) fun Dn σ H h=>by
 obtain ⟨G,ow,δ,o,R,hf,q⟩:=h
 unfold cD at hf
 by_cases hl:i < δ.length
 ·rw [if_pos hl] at hf
  obtain ⟨d,e1,e2⟩:=bind1 hf
  cases e2
  exact qw (fl:=fl) hfl htg ⟨G,ow,δ,d,R,e1,fun v H' s r=>q ow _ H' ((R.grow s).setA hfx (n8 R hl) ((r.FC_F R).F_A R))⟩
 ·rw [if_neg hl] at hf
  cases hf
theorem Bf {i:Nat} {x:Str} {pos' spos:Pos} (hfx:fl[i]? = some .O) (hN:X.N.Nodup) (hi':X.N[i]? = some x) (hx:X.env.scope.names.lookup x=some .local) (hc:X.calm=true) (T Vn:List Str) (ix:List Nat) (hi:DI X fl L tg iter fi)
 (hg:∀ cl C s3 H3 fp,DG (blk X (T++Vn) scope cl C s3 H3 fp) fl' TT tg g) (ht:∀ cl C s3 H3 fp,PTs (blk X (T++Vn) scope cl C s3 H3 fp) ifs (tDT X.K fl' ft)) (he:∀ cl C s3 H3 fp,DE (blk X (T++Vn) scope cl C s3 H3 fp) fl' .C elt f)
 (hfl:∀ i,i < T.length + ix.length→fl'[i]? = some .A:=by decide) (htg:∀ j ∈ TT,j < T.length:=by decide)
 (hsw:swapsWith (.ListComp elt [⟨tg,iter,ifs,0⟩] scope pos) (some (.Name x pos')) spos.line X.env=pure true:=by rfl)
 (hB:uE X.N X.env.scope.names scope.names Vn ix=true:=by rfl) (hk:scope.kind = .function:=by rfl) (hcell:∀ y ∈ scope.names,y.2 ≠ .cell:=by decide +kernel)
 (hnames:∀ x ∈ scope.names,x.2 = .local→scope.names.lookup x.1=some .local:=by decide +kernel)
 (hfr:∀ x ∈ scope.names,x.2 = .free→x.1 ∈ Vn:=by decide +kernel) (hs:∀ x,foldedSetIterable iter X.env x=pure x:=by intro _;rfl) :
 DS1 X fl (.Assign [.Name x pos'] (.ListComp elt [⟨tg,iter,ifs,0⟩] scope pos) spos) (cD i (iT fi g ft f T.length ix)) :=
 PS.imp (Es hN hi' hx hc T Vn ix hi hg ht he hsw hB hk hcell hnames hfr hs) fun Dn σ H h=>by
 obtain ⟨G,ow,δ,o,R,hf,q⟩:=h
 unfold cD at hf
 by_cases hl:i < δ.length
 ·rw [if_pos hl] at hf
  obtain ⟨d,e1,e2⟩:=bind1 hf
  cases e2
  refine qw (fl:=fl) hfl htg ⟨G,ow,δ,d,R,e1,fun v H' s r=>?_⟩
  obtain ⟨ow',R'⟩:=R.setO s hfx (n8 R hl) (r.FC_F R)
  exact q ow' _ H' R'
 ·rw [if_neg hl] at hf
  cases hf
theorem Bg {K:PySem.W.Frag} {G:Gh} {ow:Ow} {H H1:Hp} {p:Addr} {vs:List V} {l:List D} (s:Same H H1) (hp:H1 p=none) (r:RAs K (okA ow) true H1 vs l):Rs K G.H0 ow H (upd H1 p (.lst vs)) .F (.ref p) (.list l) :=
 .inr ⟨p,vs,l,rfl,rfl,s.free hp,dg,(r.track.imp (fun b w=>⟨w.1,fun e=>w.2 (e ▸ hp)⟩) (fun z=>z)).same (dW hp _)⟩
theorem yW {K:PySem.W.Frag} {H0:Hp} {ow:Ow} {Hb H:Hp} {L:List Nat} {v:V} {l:List D} (r:Rs K H0 ow Hb H (.B L) v (.list l)):∃ a xs,v = .ref a∧SqL K H a xs∧RAs K (okA ow) true H xs l:=by
 rcases r with r | ⟨i,hi,a,xs,ds,ho,rfl,e,hx,hr⟩
 ·exact r.lstE
 ·cases e
  exact ⟨a,xs,rfl,SqL.of hx,hr⟩
def Vz (K:PySem.W.Frag):R2:=fun x y H Q=>∃ l b xs zs,x = .ref l∧y = .ref b∧SqL K H l xs∧SqL K H b zs∧xs.length + zs.length ≤ sizeLine∧∀ p,H p=none→Q (.ref p) (upd H p (.lst (xs++zs)))
theorem Np:OpR X (binaryOp .Add) (Vz X.K):=by
 intro pins s σ H x y v u Q I rx ry h
 obtain ⟨l,b,xs,zs,rfl,rfl,hH,hB,hz,q⟩:=h
 cases rx
 cases ry
 obtain ⟨its,r,p,_⟩:=I.list hH
 obtain ⟨its2,r2,p2,_⟩:=I.list hB
 obtain ⟨⟨cls,dd,data,sl⟩,ho,hc,n,hd⟩:=p.isList
 obtain ⟨⟨cls2,dd2,data2,sl2⟩,ho2,hc2,n2,hd2⟩:=p2.isList
 simp only at hc hd hc2 hd2
 subst hc hd hc2 hd2
 have e1:=r.length
 have e2:=r2.length
 have e:its.toArray++its2.toArray=(its++its2).toArray:=by simp
 refine concat_meets ⟨_,ho,rfl⟩ ⟨_,ho2,rfl⟩ noFill_list_add seq_list_add PySem.F.slot_list_add PySem.F.entry_list_add (PySem.F.args_list_add_2 _ _) (list_addW l b its.toArray its2.toArray n n2 dd dd2 sl sl2 (by simp;omega)) ⟨ho,ho2,?_⟩
 rw [e]
 exact ⟨.ref _,_,I.lnew (t':=s.toks) (r.append r2) (by rw [bH];omega),rfl,q _ I.fresh⟩
theorem tY {L L':List Nat} (h1:DE X fl (.B L) a fa) (h2:DE X fl (.B L') b fb):DE X fl .F (.BinOp a .Add b pos) (dOp nR fa fb):=PE.imp (Io Np h1 h2) fun σ H Q h=>by
 obtain ⟨G,ow,δ,d,R,hf,q⟩:=h
 obtain ⟨x,y,e1,e2,e3⟩:=Ba hf
 refine ⟨G,ow,δ,x,R,e1,fun v H1 s1 r1=>⟨G,ow,δ,y,R.grow s1,e2,fun u H2 s2 r2=>?_⟩⟩
 unfold nR at e3
 split at e3
 ·next l m =>
  by_cases z:l.length + m.length ≤ 1000000
  ·rw [if_pos z] at e3
   cases e3
   obtain ⟨p,xs,rfl,hx,hr⟩:=yW r1
   obtain ⟨p',ys,rfl,hy,hr'⟩:=yW r2
   refine ⟨p,p',xs,ys,rfl,rfl,s2.seq hx,hy,?_,fun pn hp=>q _ _ ((s1.trans s2).trans (dW hp _)) (Bg (G:=G) (s1.trans s2) hp ((hr.same s2).append hr'))⟩
   rw [hr.length,hr'.length]
   exact bM z (by decide)
  ·rw [if_neg z] at e3
   cases e3
 ·cases e3
theorem RAs.rep {K:PySem.W.Frag} {ok:Ok} {pl:Bool} {H:Hp} {vs:List V} {l:List D} (r:RAs K ok pl H vs l):∀ n:Nat,RAs K ok pl H (bG n vs).flatten (bG n l).flatten
 | 0=>.nil
 | n + 1=>by
  rw [cY,cY,gC,gC]
  exact r.append (RAs.rep r n)
theorem R3 (h1:DE X fl .F a fa) (h2:DE X fl .P b fb):DE X fl .F (.BinOp a .Mult b pos) (dOp Jj fa fb):=PE.imp (Io RJ h1 h2) fun σ H Q h=>by
 obtain ⟨G,ow,δ,d,R,hf,q⟩:=h
 obtain ⟨x,y,e1,e2,e3⟩:=Ba hf
 refine ⟨G,ow,δ,x,R,e1,fun v H1 s1 r1=>⟨G,ow,δ,y,R.grow s1,e2,fun u H2 s2 r2=>?_⟩⟩
 unfold Jj at e3
 split at e3
 ·next l k =>
  by_cases z:l.length * k.toNat ≤ 1000000∧-(2 ^ 63) ≤ k∧k < 2 ^ 63
  ·rw [if_pos z] at e3
   cases e3
   obtain rfl:=RA.intE r2
   rcases r1 with ⟨hz,_⟩ | ⟨p,xs,ds,rfl,ez,h3,h4,h5⟩
   ·simp [flat] at hz
   ·cases ez
    refine ⟨p,k,xs,rfl,rfl,s2 _ _ h4,z.2.1,z.2.2,?_,fun pn hp=>q _ _ ((s1.trans s2).trans (dW hp _)) (Bg (G:=G) (s1.trans s2) hp (((h5.imp (fun b w=>w.1) (fun z=>z)).same s2).rep _))⟩
    rw [h5.length]
    exact bM z.1 (by decide)
  ·rw [if_neg z] at e3
   cases e3
 ·cases e3
theorem yX {L:List Nat} {p:Pos} (h:DE X fl (.B L) a f) (hg:Gl X "list") (hm:X.mg "list" = none)
 (he:starEach [a] X.env=(false,eval a X.env) :: starEach [] X.env:=by rfl) (hpl:(backTo pos (starEach [] X.env)).any (·.1)=false:=by rfl):DE X fl .F (.Call (.Name "list" p) [a] [] pos) (dUn sW f) :=
 PE.imp (yc yO hg hm boot_list (nW h tU he) (by decide) (by decide) he hpl) fun σ H Q h=>by
 obtain ⟨G,ow,δ,d,R,hf,q⟩:=h
 obtain ⟨x,e1,e2⟩:=bind1 hf
 refine ⟨G,ow,δ,x,R,e1,fun v H1 s1 r1=>?_⟩
 unfold sW at e2
 split at e2
 ·cases e2
  obtain ⟨p,xs,rfl,hx,hr⟩:=yW r1
  exact ⟨p,xs,rfl,.inl hx,fun pn hp=>q _ _ (s1.trans (dW hp _)) (Bg (G:=G) s1 hp hr)⟩
 ·cases e2
  rcases r1 with r1 | ⟨i,hi,a,xs,ds,ho,rfl,e,hx,hr⟩
  ·obtain ⟨p,xs,rfl,hx,hr⟩:=r1.tupE
   exact ⟨p,xs,rfl,.inr hx,fun pn hp=>q _ _ (s1.trans (dW hp _)) (Bg (G:=G) s1 hp hr)⟩
  ·cases e
 ·cases e2
def tDO (K:PySem.W.Frag) (fl:List Fl) (f:FO):TO:=fun σ H Q=>∃ G ow δ o,Rel K fl G ow σ H δ∧f δ=some o∧∀ H',Same H H'→Q o H'
theorem PO.imp {o:Option Expr} {t t':TO} (h:PO X o t) (i:∀ σ H Q,t' σ H Q→t σ H Q):PO X o t':=fun pins s σ H Q I q=>h pins s σ H Q I (i σ H Q q)
theorem Nq:PO X none (tDO X.K fl yp):=PO.imp MF fun σ H Q h=>by
 obtain ⟨G,ow,δ,o,R,hf,q⟩:=h
 cases hf
 exact q H (Same.refl H)
theorem Nr (h:DE X fl .P e f):PO X (some e) (tDO X.K fl (vp f)):=PO.imp (MJ h) fun σ H Q h=>by
 obtain ⟨G,ow,δ,o,R,hf,q⟩:=h
 obtain ⟨d,e1,e2⟩:=bind1 hf
 split at e2
 ·cases e2
  refine ⟨G,ow,δ,_,R,e1,fun v H1 s1 r1=>?_⟩
  obtain rfl:=RA.intE r1
  exact ⟨_,rfl,q H1 s1⟩
 ·cases e2
theorem Jx (n d:Nat) (o:Option Int):HT.sIx n d o=pSx n d o:=by
 cases o <;> rfl
theorem RAs.cut {K:PySem.W.Frag} {ok:Ok} {pl:Bool} {H:Hp} {vs:List V} {l:List D} (r:RAs K ok pl H vs l) (lo hi:Option Int):RAs K ok pl H (Gv vs lo hi) (cutD l lo hi):=by
 unfold Gv cutD
 rw [r.length,Jx,Jx]
 exact (r.drop _).take _
theorem VB {L:List Nat} {lo hi:Option Expr} {p2:Pos} {fl1 fh:FO} (h:DE X fl (.B L) a f) (h1:PO X lo (tDO X.K fl fl1)) (h2:PO X hi (tDO X.K fl fh)):DE X fl .F (.Subscript a (.Slice lo hi none p2) pos) (dSl f fl1 fh):=PE.imp (IK MN h h1 h2) fun σ H Q h=>by
 obtain ⟨G,ow,δ,d,R,hf,q⟩:=h
 obtain ⟨x,e1,hf⟩:=bind1 hf
 obtain ⟨o1,e2,hf⟩:=bind1 hf
 obtain ⟨o2,e3,e4⟩:=bind1 hf
 refine ⟨G,ow,δ,x,R,e1,fun v H1 s1 r1=>⟨G,ow,δ,o1,R.grow s1,e2,fun H2 s2=>⟨G,ow,δ,o2,R.grow (s1.trans s2),e3,fun H3 s3=>?_⟩⟩⟩
 split at e4
 ·cases e4
  obtain ⟨p,xs,rfl,hx,hr⟩:=yW r1
  have s13:=s2.trans s3
  exact ⟨p,xs,rfl,s13.seq hx,fun pn hp=>q _ _ ((s1.trans s13).trans (dW hp _)) (Bg (G:=G) (s1.trans s13) hp ((hr.same s13).cut o1 o2))⟩
 ·cases e4
theorem qx {st:Stmt}:DS1 X fl st (fun _=>none):=PS.imp Ih fun Dn σ H h=>by
 obtain ⟨G,ow,δ,o,R,hf,q⟩:=h
 cases hf
end
end D3
namespace D3
open PySem PySem.Spec PyProof.Rows L2 My
section
variable {X:Cx} {pins:List (Addr × Obj)} {σ:St} {H:Hp} {s:Shared} {h':Heap}
theorem Inv.turnedL {t':Nat} {ch:List Addr} (I:Inv X pins σ H s) (k:∀ b o,b ∉ ch→s.heap.get? b=some o→h'.get? b=some o) (hf:∀ b ∈ ch,tO X pins H b):Inv X pins σ H { s with heap:=h',toks:=t' }:=by
 have nit:∀ b u,H b=some u→b ∉ ch:=fun b u e z=>by rw [(hf b z).1] at e;cases e
 refine I.step (g':=s.gens) (d':=s.drawn) (ch:=ch) (fun b hb=>?_) (fun b o _ _ hc e _=>k b o hc e) (fun b o _ _ hc e _=>⟨o.slots,k b o hc e⟩) (fun _ _ _ _ n=>n)
  (fun b o hc e=>⟨o,k b o hc e⟩) (fun _ _ e=>e) (fun _ _ _ e=>e) (fun _ _ _ e=>e) (fun m hm=>?_) (fun b u e=>?_) I.bare
 ·obtain ⟨f0,f1,f2,f3,f4,f5⟩:=hf b hb
  exact ⟨f3,f1,f4,f5⟩
 ·obtain ⟨o,es,ep,ho,r⟩:=hm
  exact ⟨o,es,ep,k _ o (fun z=>(hf _ z).2.1 rfl) ho,r⟩
 ·refine (I.hok b u e).stay (fun c v hc q=>k c v ?_ q) (fun _ q=>q) fun _ _ q=>q
  rcases hc with z | z
  ·rw [z];exact nit b u e
  ·exact nit c _ z
end
def Ite (K:PySem.W.Frag) (a:Addr):It :=
 ⟨fun i H=>∃ xs x,SqL K H a xs∧xs[i]? = some x,fun i H x H'=>∃ p y,H p=none∧H'=upd H p (.tup [.int i,y])∧x = .ref p∧∀ xs,SqL K H a xs→xs[i]? = some y,fun i H=>∃ xs,SqL K H a xs∧xs.length ≤ i⟩
theorem GP {P:Program} {w:World} {K:PySem.W.Frag} {elts:List Expr} {x1} {tpos:Pos} (a it:Addr) :
 Turn P w K (.Tuple elts x1 tpos) (Ite K a) [it + 1,it] (it + 1) (fun i h=>∃ old,IsEnum h (it + 1) it (i:Int) old∧h.IsListIter it a i) where
 mem:=by simp
 obj:=fun i h st b hb=>by
  obtain ⟨old,he,o,e,c,d⟩:=st
  rcases bF.mp hb with z | z
  ·subst z
   exact ⟨_,he,fun v z=>by cases z⟩
  ·have z:b=it:=by simpa using z
   subst z
   exact ⟨o,e,fun v z=>by rw [d] at z;cases z⟩
 keep:=fun i h h' st k=>by
  obtain ⟨old,he,hi⟩:=st
  exact ⟨old,k _ (by simp) _ he,hi.at fun o e=>k it (by simp) o e⟩
 item:=by
  intro X hP hw hK hc i pins s σ H E I hf st hg
  subst hP hw hK
  obtain ⟨xs,x,hq,hx⟩:=hg
  obtain ⟨its,rv,p,hz⟩:=I.list hq
  obtain ⟨u,hu,ru⟩:=rv.get hx
  obtain ⟨old,he,hi⟩:=st
  have fe:=hf (it + 1) (by simp)
  have fi:=hf it (by simp)
  have hlt:it + 1 < s.heap.objs.size:=Heap.lt_size he
  refine wpAny_pyNext_enum_item he hi p.isList (x:=u) (by simpa using hu) (Nat.succ_ne_self it) fun h1 ho hi1 ht hsz hk=>?_
  refine ⟨_,rfl,wpAny_letOwnedTupleGo_enum ho fun h2 he2 hs2=>?_⟩
  replace hs2:Heap.SameBut (it + 1) h1 h2:=hs2
  have hn:H s.heap.objs.size=none:=I.hok.fresh (aZ _)
  have I0:Inv X pins σ (upd H s.heap.objs.size (.tup [.int (i:Int),x])) { s with heap:=s.heap.push { cls:=.type "tuple", data:=.seq #[.int (i:Int) s.toks,u] } } :=
   I.laid (t':=s.toks) (fun b o e=>Heap.get?_push_of_some _ e) (aZ _) ⟨show 2 ≤ sizeLine by decide,[.int (i:Int) s.toks,u],.cons ⟨_,rfl⟩ (.cons ru .nil),⟨_,Heap.get?_push_size _ rfl,rfl,_,rfl⟩⟩
  have ne:∀ b,b ∈ [it + 1,it]→b ≠ s.heap.objs.size:=fun b hb=>by
   rcases bF.mp hb with w' | w'
   ·rw [w'];exact bO hlt
   ·rw [show b=it by simpa using w'];exact bO (Nat.lt_of_succ_lt hlt)
  have I1:Inv X pins σ (upd H s.heap.objs.size (.tup [.int (i:Int),x])) { s with heap:=h2,toks:=s.toks + 1 }:=by
   refine Inv.turnedL (s:={ s with heap:=s.heap.push { cls:=.type "tuple", data:=.seq #[.int (i:Int) s.toks,u] } }) (ch:=[it + 1,it]) I0 (fun b o hb e=>?_) fun b hb=>⟨by rw [cI (ne b hb)];exact (hf b hb).1,(hf b hb).2⟩
   have b1:b ≠ it + 1:=fun z=>hb (by simp [z])
   have b2:b ≠ it:=fun z=>hb (by simp [z])
   rcases Heap.get?_push_cases e with ⟨e1,e2⟩ | e1
   ·subst e1 e2
    exact (hs2.2 _ b1).trans ht
   ·exact (hs2.2 _ b1).trans (hk b o b1 b2 e1)
  refine ⟨.ref s.heap.objs.size,_,I1,rfl,⟨_,x,hn,rfl,rfl,fun ys hy=>by rw [I.list_inj hy hq];exact hx⟩,⟨_,he2,hi1.at fun o e=>(hs2.2 _ (bO (oH it))).trans e⟩,fun b hb=>?_⟩
  rw [cI (ne b hb)]
  exact (hf b hb).1
 done:=by
  intro X hP hw hK hc i pins s σ H E I hf st hg
  subst hP hw hK
  obtain ⟨xs,hq,hx⟩:=hg
  obtain ⟨its,rv,p,hz⟩:=I.list hq
  obtain ⟨old,he,hi⟩:=st
  have hl:=rv.length
  refine wpAny_pyNext_enum_end (I.ok.hd hc) he hi p.isList (by simp;omega) fun h' eb=>⟨rfl,Inv.turnedL (t':=s.toks) (ch:=[it + 1,it]) I (fun b o hb e=>eb b o (fun z=>hb (by simp [z])) e) hf⟩
 self:=fun _ _ _ _ _ st h=>by
  obtain ⟨old,he,_⟩:=st
  exact wpAny_pyIter_enum he h
section
variable {X:Cx} {fl:List Fl} {a:Expr} {f:FE} {pos:Pos}
def VD (K:PySem.W.Frag) (tl:TE):TI:=fun σ H R=>tl σ H fun x H1=>∃ a,x = .ref a∧(∃ xs,SqL K H1 a xs)∧R (Ite K a) H1
theorem Nt {elts:List Expr} {x1} {tpos p:Pos} {tl:TE} (hg:Gl X "enumerate") (hm:X.mg "enumerate" = none) (hl:PE X a tl) (he:starEach [a] X.env=(false,eval a X.env) :: starEach [] X.env:=by rfl)
 (hpl:(backTo pos (starEach [] X.env)).any (·.1)=false:=by rfl):PI X (.Tuple elts x1 tpos) (.Call (.Name "enumerate" p) [a] [] pos) (VD X.K tl):=by
 intro pins s σ H R I h
 refine wpAny_Call_Name_kw (rN I hg hm boot_enumerate (PyProof.Rows.callWith_type1 (thn ((nW hl tU he) pos pins s σ H (fun vs H1=>match vs with | [x]=>∃ a,x = .ref a∧(∃ xs,SqL X.K H1 a xs)∧R (Ite X.K a) H1 | _=>False) I h) fun us s1 ⟨vs,H1,I1,r1,q1⟩=>?_) he hpl))
 cases r1 with
 | nil=>exact q1.elim
 | cons r rr =>
  cases rr with
  | cons _ _=>exact q1.elim
  | nil =>
  obtain ⟨l,e,⟨xs,hq⟩,q⟩:=q1
  subst e
  cases r
  obtain ⟨its,rv,pl,hz⟩:=I1.list hq
  refine call_enumerate_list pl.isList fun h' he' hi' hsz hk=>?_
  have I2:Inv X pins σ H1 { s1 with heap:=h' }:=I1.kept (t':=s1.toks) hk
  refine wpAny_pyIter_enum (s:={ s1 with heap:=h' }) he' ?_
  refine ⟨s1.heap.objs.size + 1,[s1.heap.objs.size + 1,s1.heap.objs.size],_,_,H1,rfl,I2,GP l s1.heap.objs.size,⟨_,he',hi'⟩,fun b hb=>?_,q⟩
  have hb':s1.heap.objs.size ≤ b:=by
   rcases bF.mp hb with z | z
   ·rw [z];exact lZ _
   ·rw [show b=s1.heap.objs.size by simpa using z];exact aZ _
  exact I1.fpOk hb' (I1.hok.fresh hb')
theorem uL {elts:List Expr} {x1} {tpos p:Pos} {L:List Nat} (h:DE X fl (.B L) a f) (hg:Gl X "enumerate") (hm:X.mg "enumerate" = none) (he:starEach [a] X.env=(false,eval a X.env) :: starEach [] X.env:=by rfl)
 (hpl:(backTo pos (starEach [] X.env)).any (·.1)=false:=by rfl):DI X fl L (.Tuple elts x1 tpos) (.Call (.Name "enumerate" p) [a] [] pos) (vq f):=PI.imp (Nt hg hm h he hpl) fun σ H R' h=>by
 obtain ⟨G,ow,δ,l,R,hf,q⟩:=h
 obtain ⟨d,e1,e2⟩:=bind1 hf
 cases d <;> first | (cases e2;done) | skip
 next l0 =>
 cases e2
 refine ⟨G,ow,δ,_,R,e1,fun v H1 s r=>?_⟩
 obtain ⟨a,xs,rfl,hx,keep⟩:=CW (R.grow s) r
 refine ⟨a,rfl,⟨xs,hx⟩,q _ _ s fun H2 k2 i=>?_⟩
 obtain ⟨k3,k4⟩:=keep H2 k2
 refine ⟨fun d hd=>?_,fun hl=>⟨xs,k3,by rw [k4.length];simpa [lF] using hl⟩⟩
 have hd':(l0[i]?).map (fun x=>PyData.tuple [.int (i:Int),x])=some d:=by
  have:=hd
  unfold lF at this
  rw [jC] at this
  exact this
 cases e:l0[i]? with
 | none=>rw [e] at hd';cases hd'
 | some x0 =>
  rw [e] at hd'
  cases hd'
  obtain ⟨y,hy,ry⟩:=k4.get e
  refine ⟨⟨xs,y,k3,hy⟩,fun x H3 hyl=>?_⟩
  obtain ⟨p,y',hp,rfl,rfl,hz⟩:=hyl
  have:some y=some y':=hy.symm.trans (hz xs k3)
  cases this
  have g:=dW hp (.tup [.int (i:Int),y])
  exact ⟨g,.tup dg (.cons (.int _) (.cons (ry.same g) .nil))⟩
end
structure Bl (mg:Str→Option Value):Prop where
 len_:mg "len" = none
 range_:mg "range" = none
 abs_:mg "abs" = none
 isinstance_:mg "isinstance" = none
 int_:mg "int" = none
 bool_:mg "bool" = none
 tuple_:mg "tuple" = none
 list_:mg "list" = none
 str_:mg "str" = none
 max_:mg "max" = none
 min_:mg "min" = none
 sorted_:mg "sorted" = none
 sum_:mg "sum" = none
 reversed_:mg "reversed" = none
 enumerate_:mg "enumerate" = none
 zip_:mg "zip" = none
 set_:mg "set" = none
 any_:mg "any" = none
 all_:mg "all" = none
 dict_:mg "dict" = none
end D3
namespace D3
open PySem PySem.Spec PyProof.Rows L2 My
structure FunD (K:PySem.W.Frag) (x:Str) (st:Stmt) (f:Addr) (fd:FuncData):Prop where
 ex:∃ (oc:Value) (od:Option Addr) (dV kV doc pm:Value) (an:Option Addr) (cdv ct:Value) (osl:Array (Option Value)),
  fd=PySem.W.fnOf x x (lQ st) (iH st) (bA st) dV kV doc pm an cdv ct∧K.lookup f=some ⟨oc,od,.func fd,osl⟩∧PySem.W.codeIn K cdv x=true
 kp:PySem.W.keepIn K (.ref f)=true
structure Dg (K:PySem.W.Frag) (mg:Str→Option Value) (x:Str) (st:Stmt) (ps:List Str):Prop where
 ex:∃ (f:Addr) (fd:FuncData),FunD K x st f fd∧Binds K fd ps []∧mg x=some (.ref f)
theorem R5 {K:PySem.W.Frag} {h:Heap} {mg:Str→Option Value} {f T:Addr} {oc kV dc pm cd ct:Value} {od an:Option Addr} {sl:Array (Option Value)} {x:Str} {st:Stmt} {ps:List Str} {o:Obj} {items:Array Value} {n:Nat} (X:K.In h) (G:h.Ns mainGlobals mg)
 (hb:∀ (kV doc pm:Value) (an:Option Addr) (cdv ct:Value) (us:List Value),us.length=ps.length→∃ k,bindArgs (PySem.W.fnOf x x (lQ st) (iH st) (bA st) (.ref T) kV doc pm an cdv ct) ⟨us,[]⟩=(seqItems? (.ref T) >>= k)∧k (some items)=pure (ps.zip us))
 (a:PySem.W.nsIn K mainGlobals x=some (some (.ref f))) (l:K.lookup f=some ⟨oc,od,.func (PySem.W.fnOf x x (lQ st) (iH st) (bA st) (.ref T) kV dc pm an cd ct),sl⟩) (c:PySem.W.codeIn K cd x=true) (k:PySem.W.keepIn K (.ref f)=true)
 (hT:K.lookup T=some o) (hs:o.data = .seq items n):Dg K mg x st ps :=
 ⟨_,_,⟨⟨oc,od,.ref T,kV,dc,pm,an,cd,ct,sl,rfl,l,c⟩,k⟩,fun s us KX hl=>by
  rw [cH] at hl ⊢
  obtain ⟨k,h1,h2⟩:=hb kV dc pm an cd ct us hl
  exact BindsTo.of_defaults (T:=T) rfl (KX T o hT) hs h1 h2,PySem.W.mg_of X G a⟩
theorem fj {K:PySem.W.Frag} {h:Heap} {mg:Str→Option Value} {f:Addr} {oc kV dc pm cd ct:Value} {od an:Option Addr} {sl:Array (Option Value)} {x:Str} {st:Stmt} {ps:List Str} (X:K.In h) (G:h.Ns mainGlobals mg)
 (hb:∀ (kV doc pm:Value) (an:Option Addr) (cdv ct:Value) (us:List Value),us.length=ps.length→bindArgs (PySem.W.fnOf x x (lQ st) (iH st) (bA st) .none kV doc pm an cdv ct) ⟨us,[]⟩=pure (ps.zip us))
 (a:PySem.W.nsIn K mainGlobals x=some (some (.ref f))) (l:K.lookup f=some ⟨oc,od,.func (PySem.W.fnOf x x (lQ st) (iH st) (bA st) .none kV dc pm an cd ct),sl⟩) (c:PySem.W.codeIn K cd x=true) (k:PySem.W.keepIn K (.ref f)=true):Dg K mg x st ps :=
 ⟨_,_,⟨⟨oc,od,.none,kV,dc,pm,an,cd,ct,sl,rfl,l,c⟩,k⟩,.all (hb kV dc pm an cd ct),PySem.W.mg_of X G a⟩
structure Dl (K:PySem.W.Frag) (mg:Str→Option Value) (x y:Str) (st:Stmt):Prop where
 ex:∃ (f:Addr) (fd:FuncData),FunD K x st f fd∧(∀ (s:Shared) (u:Value),BindsTo s fd ⟨[u],[]⟩ [(y,u)])∧mg x=some (.ref f)
theorem VF {K:PySem.W.Frag} {h:Heap} {mg:Str→Option Value} {f:Addr} {oc kV dc pm cd ct:Value} {od an:Option Addr} {sl:Array (Option Value)} {x y:Str} {st:Stmt} (X:K.In h) (G:h.Ns mainGlobals mg)
 (hb:∀ (kV doc pm:Value) (an:Option Addr) (cdv ct:Value) (u:Value),bindArgs (PySem.W.fnOf x x (lQ st) (iH st) (bA st) .none kV doc pm an cdv ct) ⟨[u],[]⟩=pure [(y,u)])
 (a:PySem.W.nsIn K mainGlobals x=some (some (.ref f))) (l:K.lookup f=some ⟨oc,od,.func (PySem.W.fnOf x x (lQ st) (iH st) (bA st) .none kV dc pm an cd ct),sl⟩) (c:PySem.W.codeIn K cd x=true) (k:PySem.W.keepIn K (.ref f)=true):Dl K mg x y st :=
 ⟨_,_,⟨⟨oc,od,.none,kV,dc,pm,an,cd,ct,sl,rfl,l,c⟩,k⟩,fun s u=>.of_eq (hb kV dc pm an cd ct u),PySem.W.mg_of X G a⟩
section
variable {P:Program} {w:World} {K:PySem.W.Frag} {mg:Str→Option Value} {base:Heap} {x:Str} {ps N:List Str} {st:Stmt} {k n:Nat} {fs:FS} {fl:List Fl}
theorem FunD.ok {f:Addr} {fd:FuncData} {sp:Sp} (F:FunD K x st f fd) (S:FnScope N ps (bA st)) (len:∀ vs H Q E,sp vs H Q E→vs.length=ps.length)
 (hbody:∀ (cdv:Value) (A:Around) (outer:List Env) (s:Shared) (H:Hp) (vs:List V) (Q:VK) (E:XK),Room k (A.deeper (envOfC x (bA st) s.heap.objs.size f cdv))→sp vs H Q E →
  ∃ t,PSs (Al CX0 P w K mg base N x (bA st) f cdv A outer s H E).nox (iH st) t∧t { nx:=fun _ H'=>Q .non H',rt:=Q } (L2.start N vs) H):FnOk P w K mg base CX0 (k + 1) f fd ps sp:=by
 obtain ⟨oc,od,dV,kV,doc,pm,an,cdv,ct,osl,rfl,lk,hcd⟩:=F.ex
 refine QC lk hcd S len fun A outer s H vs Q E hr hsp=>?_
 obtain ⟨t,h,q⟩:=hbody cdv A outer s H vs Q E hr hsp
 exact ⟨t,h.nox,q⟩
theorem Jy {f:Addr} {fd:FuncData} (Fn:FunD K x st f fd) (S:FnScope N ps (bA st)) (hp:∀ i,i < ps.length→fl[i]? = some .A) (hN:ps.length ≤ N.length)
 (hbody:∀ (f:Addr) (cdv:Value) (A:Around) (outer:List Env) (s:Shared) (H:Hp) (E:XK),Room k (A.deeper (envOfC x (bA st) s.heap.objs.size f cdv))→DSs (cx P w K mg base N x st f cdv A outer s H E) fl (iH st) fs) :
 FnOk P w K mg base CX0 (k + 1) f fd ps (spD K (fnD ps.length (N.length - ps.length) fs)):=by
 refine Fn.ok S (fun vs H Q E h=>?_) (fun cdv A outer s H vs Q E hr h=>?_)
 ·obtain ⟨ds,d,r,hf,_⟩:=h
  unfold fnD at hf
  by_cases z:ds.length=ps.length
  ·rw [r.2.length];exact z
  ·rw [if_neg z] at hf;cases hf
 ·obtain ⟨ds,d,r,hf,q⟩:=h
  refine ⟨_,hbody f cdv A outer s H E hr,?_⟩
  unfold fnD at hf
  by_cases z:ds.length=ps.length
  ·rw [if_pos z] at hf
   split at hf
   ·next d' e =>
    cases hf
    exact ⟨_,_,_,_,lH ps.length hp z hN r,e,fun v H' s r=>q v H' s r⟩
   ·next δ' e =>
    cases hf
    exact ⟨_,_,_,_,lH ps.length hp z hN r,e,fun ow' σ' H' R'=>q .non H' R'.same0 .non⟩
   ·cases hf
  ·rw [if_neg z] at hf;cases hf
theorem fu (Dd:Dg K mg x st ps) (S:FnScope N ps (bA st)) (hp:∀ i,i < ps.length→fl[i]? = some .A) (hN:ps.length ≤ N.length)
 (hbody:∀ (f:Addr) (cdv:Value) (A:Around) (outer:List Env) (s:Shared) (H:Hp) (E:XK),Room k (A.deeper (envOfC x (bA st) s.heap.objs.size f cdv))→DSs (cx P w K mg base N x st f cdv A outer s H E) fl (iH st) fs) :
 Has P w K mg base (k + 1) x ps (spD K (fnD ps.length (N.length - ps.length) fs)):=by
 obtain ⟨f,fd,Fn,b,m⟩:=Dd.ex
 exact ⟨f,fd,Jy Fn S hp hN hbody,b,Fn.kp,m⟩
end
def Jz (K:PySem.W.Frag):Sp:=fun vs H Q _=>∃ (a:Addr) (ns:List Int),Tb H∧vs=[.ref a]∧SqL K H a (ns.map V.int)∧ns.length ≤ 63∧∀ H',Q (.bl true) H'
theorem qY {K:PySem.W.Frag} {ok:Ok} {pl:Bool} {H:Hp}:∀ ns:List Int,RAs K ok pl H (ns.map V.int) (ns.map PyData.int)
 | []=>.nil
 | n :: r=>.cons (.int n) (qY r)
theorem Nu {K:PySem.W.Frag} {F:List D→Option D} (hF:∀ ns:List Int,ns.length ≤ 63→F [.list (ns.map .int)]=some (.bool true)) (vs:List V) (H:Hp) (Q:VK) (E:XK) (h:Jz K vs H Q E):spD K F vs H Q E:=by
 obtain ⟨a,ns,tb,rfl,hS,hl,q⟩:=h
 refine ⟨_,_,⟨tb,.cons ?_ .nil⟩,hF ns hl,fun v H' s r=>?_⟩
 ·rcases hS with (h | ⟨o,h⟩) | h
  ·exact .lst h trivial (qY ns)
  ·exact .lsk (.inl ⟨o,h⟩) rfl (qY ns)
  ·exact .lsk (.inr h) rfl (qY ns)
 ·obtain rfl:=r.blE
  exact q H'
end D3
namespace D3
open PySem PySem.Spec PyProof.Rows L2 My
section
variable {prog:Program} {w:World} {A:Around} {E:Value→Shared→Prop} {s:Shared}
end
section
variable {X:Cx} {fl:List Fl} {a:Expr} {f:FE} {pos p p2 pos2:Pos}
end
section
variable {X:Cx} {fl:List Fl} {a b:Expr} {pos p p2 pos2:Pos} {fa:FA}
end
end D3
namespace D3
open PySem PySem.Spec PyProof.Rows L2 My
section
variable {X:Cx}
theorem Bh:∀ {ns:List Int} {its:List Value},Vals (ns.map V.int) its→IntsAre its ns
 | [],_,.nil=>.nil
 | n :: r,_,.cons h t=>by
  obtain ⟨k,rfl⟩:=h
  exact .cons _ _ (Bh t)
theorem vJ {K:PySem.W.Frag} {ok:Ok} {pl:Bool} {H:Hp}:∀ {l:List D} {ns:List Int} {ys:List V},jE l=some ns→RAs K ok pl H ys l→ys=ns.map V.int
 | [],_,_,e,.nil=>by cases e;rfl
 | d :: r,ns,_,e,.cons h t=>by
  cases d <;> first | (cases e;done) | skip
  obtain rfl:=h.intE
  cases e2:jE r with
  | none=>rw [jE,e2] at e;cases e
  | some m =>
   rw [jE,e2] at e
   cases e
   rw [vJ e2 t]
   rfl
theorem QK {K:PySem.W.Frag}:BrC K (fun xs H Q=>∃ (p:Addr) (ns:List Int),xs=[.ref p]∧SqL K H p (ns.map V.int)∧Q (.int ns.sum) H) Vt:=by
 intro H xs ds d Q r e q
 unfold Vt at e
 split at e
 ·next l =>
  cases e2:jE l with
  | none=>rw [e2] at e;cases e
  | some ns =>
   rw [e2] at e
   cases e
   cases r with
   | cons r1 r2 =>
    cases r2
    obtain ⟨a,ys,rfl,hx,hr⟩:=r1.lstE
    obtain rfl:=vJ e2 hr
    exact ⟨a,ns,rfl,hx,q _ rfl (.int _)⟩
 ·cases e
theorem tZ:∀ {l m:List Int},l.Perm m→l.Pairwise (· ≤ ·)→m.Pairwise (· ≤ ·)→l=m
 | [],m,p,_,_=>p.nil_eq
 | a :: l,m,p,h1,h2=>by
  cases m with
  | nil=>exact absurd p.length_eq (by simp)
  | cons b m =>
   obtain ⟨a1,a2⟩:=fM.mp h1
   obtain ⟨b1,b2⟩:=fM.mp h2
   have e:a=b:=by
    have x1:a ∈ b :: m:=p.mem_iff.mp aM
    have x2:b ∈ a :: l:=p.mem_iff.mpr aM
    rcases bF.mp x1 with z | z
    ·exact z
    ·rcases bF.mp x2 with y | y
     ·exact y.symm
     ·exact Int.le_antisymm (a1 b y) (b1 a z)
   subst e
   rw [tZ (List.Perm.cons_inv p) a2 b2]
theorem m8:∀ {ns:List Int} {its:List Value},IntsAre its ns→Vals (ns.map V.int) its
 | _,_,.nil=>.nil
 | _,_,.cons n t r=>.cons ⟨t,rfl⟩ (m8 r)
theorem yZ:nu X (.builtin "sorted") (fun xs H Q=>∃ (p:Addr) (ns:List Int),xs=[.ref p]∧SqL X.K H p (ns.map V.int)∧ns.length < 64∧∀ l,H l=none→Q (.ref l) (upd H l (.lst ((oO ns).map V.int)))):=by
 intro pins s σ H xs us Q I r h
 obtain ⟨p,ns,rfl,hx,h64,q⟩:=h
 obtain ⟨u,rfl,rx⟩:=vals1 r
 cases rx
 obtain ⟨its,rvs,pl,hz⟩:=I.list hx
 have hi:=Bh rvs
 refine sorted_ints pl.isList hi (by rw [hi.length];exact h64) fun out ns' a1 a2 a3=>?_
 obtain rfl:=tZ (a2.trans (iZ ns).symm) a3 (nZ ns)
 obtain ⟨e,he⟩:=sortedAll_at s.heap its out
 have hn:H (s.heap.objs.size + 1)=none:=I.hok.fresh (lZ _)
 have ll:(oO ns).length=ns.length:=(iZ ns).length_eq
 have I2:=I.laid (h':=sortedAll s.heap its out) (t':=s.toks) (a:=s.heap.objs.size + 1) (o:=.lst ((oO ns).map V.int)) (fun b u e=>sortedAll_old e) (lZ _)
  ⟨by rw [aG,ll];exact bM (fV h64) (by decide),out.toList,e,m8 a1,by simpa [seqObj] using he⟩
 exact ⟨.ref _,_,I2,rfl,q _ hn⟩
theorem t_ {fl:List Fl} {e:Expr} {fa:FA} {p pos:Pos} (ha:DB X fl .P [e] fa) (hg:Gl X "sorted") (hm:X.mg "sorted" = none)
 (he:starEach [e] X.env=(false,eval e X.env) :: starEach [] X.env:=by rfl) (hpl:(backTo pos (starEach [] X.env)).any (·.1)=false:=by rfl):DE X fl .FC (.Call (.Name "sorted" p) [e] [] pos) (dCall sV fa) :=
 PE.imp (oN yZ hg hm (show bootBuiltins "sorted" = some (.builtin "sorted") by decide +kernel) ha (by decide) (by decide) he hpl) fun σ H Q h=>by
 obtain ⟨G,ow,δ,d,R,hf,q⟩:=h
 obtain ⟨ds,e1,e2⟩:=bind1 hf
 refine ⟨G,ow,δ,ds,R,e1,fun vs H' s r'=>?_⟩
 unfold sV at e2
 split at e2
 ·next l =>
  cases e3:jE l with
  | none=>rw [e3] at e2;cases e2
  | some ns =>
   rw [e3,aJ] at e2
   by_cases h64:ns.length < 64
   ·rw [if_pos h64] at e2
    cases e2
    cases r' with
    | cons r1 r2 =>
     cases r2
     obtain ⟨a,ys,rfl,hx,hr⟩:=r1.lstE
     obtain rfl:=vJ e3 hr
     exact ⟨a,ns,rfl,hx,h64,fun l hn=>q _ _ (s.trans (dW hn _)) (.inr ⟨_,_,_,rfl,rfl,s.free hn,dg,qY _⟩)⟩
   ·rw [if_neg h64] at e2;cases e2
 ·cases e2
end
end D3
namespace D3
open PySem PySem.Spec PyProof.Rows L2 My
def gK (n:Nat) (us ws:List α):List α:=if ws.length=n then us++ws else []
structure HasD (P:Program) (w:World) (K:PySem.W.Frag) (mg:Str→Option Value) (base:Heap) (n:Nat) (x:Str) (ps:List Str) (sp:Sp) (dvs:List V) (ks:List Str):Prop where
 ex:∃ (f:Addr) (fd:FuncData) (ds:List Value),FnOk P w K mg base CX0 n f fd ps sp∧Binds K fd ps ds∧Vals dvs ds∧KBinds K fd ps ks (gK ks.length) (gK ks.length)∧PySem.W.keepIn K (.ref f)=true∧mg x=some (.ref f)
structure DgD (K:PySem.W.Frag) (mg:Str→Option Value) (x:Str) (st:Stmt) (ps:List Str) (dvs:List V) (ks:List Str):Prop where
 ex:∃ (f:Addr) (fd:FuncData) (ds:List Value),FunD K x st f fd∧Binds K fd ps ds∧Vals dvs ds∧KBinds K fd ps ks (gK ks.length) (gK ks.length)∧mg x=some (.ref f)
section
variable {P:Program} {w:World} {K:PySem.W.Frag} {mg:Str→Option Value} {base:Heap} {x:Str} {ps N ks:List Str} {st:Stmt} {k n:Nat} {fs:FS} {fl:List Fl} {dvs:List V}
end
section
variable {X:Cx} {fl:List Fl} {e ke:Expr} {es:List Expr} {pos p kpos:Pos} {x kn:Str} {ps:List Str} {n:Nat} {F:List D→Option D} {fa:FA} {fk:FE} {i:Int} {dvs:List V}
theorem R6 {K:PySem.W.Frag}:BrC K (fun xs H Q=>(∃ i,xs=[.int i]∧Q (.int i) H)∨∃ k,xs=[.bl k]∧Q (.int (if k then 1 else 0)) H) Az:=by
 intro H xs ds d Q r e q
 unfold Az at e
 split at e
 ·cases e
  cases r with
  | cons r1 r2 =>
   cases r2
   obtain rfl:=r1.intE
   exact .inl ⟨_,rfl,q _ rfl (.int _)⟩
 ·cases e
  cases r with
  | cons r1 r2 =>
   cases r2
   obtain rfl:=r1.blE
   exact .inr ⟨_,rfl,q _ rfl (.int _)⟩
 ·cases e
theorem qy {j pos'} {a:Expr} {f:FE} (h:DE X fl .P a f):DT X fl (.Compare a [.Is] [.Constant .none j pos'] pos) (aW (dUn nA f)):=PT.imp (Ia (H_ h)) fun σ H Q h=>by
 obtain ⟨G,ow,δ,c,R,hf,q⟩:=h
 obtain ⟨d,e1,e2⟩:=bind1 hf
 obtain ⟨x,e3,e4⟩:=bind1 e1
 cases e4
 cases e2
 refine ⟨G,ow,δ,x,R,e3,fun v H1 s1 r1=>?_⟩
 refine ⟨decide (v = .non),rfl,?_⟩
 rw [Di (RA.same (Same.refl H1) r1)]
 exact q H1 s1
theorem EY {p:Pos} (ha:DB X fl .P [e] fa) (hg:Gl X "int") (hm:X.mg "int" = none)
 (he:starEach [e] X.env=(false,eval e X.env) :: starEach [] X.env:=by rfl) (hpl:(backTo pos (starEach [] X.env)).any (·.1)=false:=by rfl):DE X fl .FC (.Call (.Name "int" p) [e] [] pos) (dCall Az fa) :=
 PE.imp (yc Gq hg hm boot_int ha (by decide) (by decide) he hpl) fun σ H Q h=>by
 obtain ⟨G,ow,δ,d,R,hf,q⟩:=h
 obtain ⟨ds,e1,e2⟩:=bind1 hf
 exact ⟨G,ow,δ,ds,R,e1,fun vs H' s r'=>R6 H' vs ds d Q r' e2 fun v hv rv=>q v H' s (.inl ⟨hv,rv⟩)⟩
end
end D3
namespace D3
open PySem PySem.Spec PyProof.Rows L2 My
section
variable {X:Cx}
theorem vK:∀ {bs:List Bool} {its:List Value},Vals (bs.map V.bl) its→its=bs.map Value.bool
 | [],_,.nil=>rfl
 | b :: r,_,.cons h t=>by
  cases h
  rw [vK t]
  rfl
theorem all_range (bs:List Bool):(aH bs.length).all (fun i=>bs.getD i false)=bs.all id:=by
 rw [mO,eZ,eZ]
 constructor
 ·intro h b hb
  obtain ⟨i,hi,rfl⟩:=gM hb
  have:=h i (aY.mpr hi)
  rw [aP,aN hi] at this
  exact this
 ·intro h i hi
  have hi:=aY.mp hi
  rw [aP,aN hi]
  exact h _ (jJ hi)
theorem any_range (bs:List Bool):(aH bs.length).any (fun i=>bs.getD i false)=bs.any id:=by
 rw [mO,jK,jK]
 constructor
 ·rintro ⟨i,hi,h⟩
  have hi:=aY.mp hi
  rw [aP,aN hi] at h
  exact ⟨_,jJ hi,h⟩
 ·rintro ⟨b,hb,h⟩
  obtain ⟨i,hi,rfl⟩:=gM hb
  refine ⟨i,aY.mpr hi,?_⟩
  rw [aP,aN hi]
  exact h
theorem ur {prog:Program} {w:World} {A:Around} (bs:List Bool):TruthOf prog w A (fun i v=>(bs.map Value.bool).toArray[i]? = some v) (fun i=>bs.getD i false):=by
 intro i v s Q E hv hQ
 have hv':(bs.map Value.bool)[i]? = some v:=by simpa using hv
 rw [aQ] at hv'
 cases e:bs[i]? with
 | none=>rw [e] at hv';cases hv'
 | some b =>
  rw [e] at hv'
  cases hv'
  have eb:bs.getD i false=b:=by rw [aP,e];rfl
  have hQ':Q (bs.getD i false) s:=hQ
  rw [eb] at hQ'
  exact wpAny_truthy_bool hQ'
theorem q_ (hc:X.calm=true):nu X (.builtin "all") (fun xs H Q=>∃ (p:Addr) (bs:List Bool),xs=[.ref p]∧SqL X.K H p (bs.map V.bl)∧Q (.bl (bs.all id)) H):=by
 intro pins s σ H xs us Q I r h
 obtain ⟨p,bs,rfl,hx,q⟩:=h
 obtain ⟨u,rfl,rx⟩:=vals1 r
 cases rx
 obtain ⟨its,rvs,pl,hz⟩:=I.list hx
 obtain rfl:=vK rvs
 have hl:s.heap.IsList p (bs.map Value.bool).toArray:=pl.isList
 have hlt:p < s.heap.objs.size:=by obtain ⟨_,e,_⟩:=id hl;exact Heap.lt_size e
 refine call_all_walk (wpAny_pyIter_list hl ?_)
 refine ⟨_,_,_,_,_,_,_,rfl,Walks.list (A:=X.A.in1) (I.ok.hd hc) _ p (bO hlt) (bs.map Value.bool).toArray,⟨⟨_,Heap.get?_push_size _ rfl,rfl,rfl⟩,hl.push _⟩,ur bs,fun h' tk hk=>?_⟩
 have e:(bs.map Value.bool).toArray.size=bs.length:=by simp
 rw [e,all_range]
 exact ⟨.bl _,H,I.kept (old_kept hk),rfl,q⟩
theorem GQ (hc:X.calm=true):nu X (.builtin "any") (fun xs H Q=>∃ (p:Addr) (bs:List Bool),xs=[.ref p]∧SqL X.K H p (bs.map V.bl)∧Q (.bl (bs.any id)) H):=by
 intro pins s σ H xs us Q I r h
 obtain ⟨p,bs,rfl,hx,q⟩:=h
 obtain ⟨u,rfl,rx⟩:=vals1 r
 cases rx
 obtain ⟨its,rvs,pl,hz⟩:=I.list hx
 obtain rfl:=vK rvs
 have hl:s.heap.IsList p (bs.map Value.bool).toArray:=pl.isList
 have hlt:p < s.heap.objs.size:=by obtain ⟨_,e,_⟩:=id hl;exact Heap.lt_size e
 refine call_any_walk (wpAny_pyIter_list hl ?_)
 refine ⟨_,_,_,_,_,_,_,rfl,Walks.list (A:=X.A.in1) (I.ok.hd hc) _ p (bO hlt) (bs.map Value.bool).toArray,⟨⟨_,Heap.get?_push_size _ rfl,rfl,rfl⟩,hl.push _⟩,ur bs,fun h' tk hk=>?_⟩
 have e:(bs.map Value.bool).toArray.size=bs.length:=by simp
 rw [e,any_range]
 exact ⟨.bl _,H,I.kept (old_kept hk),rfl,q⟩
theorem uc {K:PySem.W.Frag} {ok:Ok} {pl:Bool} {H:Hp}:∀ {l:List D} {bs:List Bool} {ys:List V},jY l=some bs→RAs K ok pl H ys l→ys=bs.map V.bl
 | [],_,_,e,.nil=>by cases e;rfl
 | d :: r,bs,_,e,.cons h t=>by
  cases d <;> first | (cases e;done) | skip
  obtain rfl:=h.blE
  cases e2:jY r with
  | none=>rw [jY,e2] at e;cases e
  | some m =>
   rw [jY,e2] at e
   cases e
   rw [uc e2 t]
   rfl
theorem yr {K:PySem.W.Frag}:BrC K (fun xs H Q=>∃ (p:Addr) (bs:List Bool),xs=[.ref p]∧SqL K H p (bs.map V.bl)∧Q (.bl (bs.all id)) H) vC:=by
 intro H xs ds d Q r e q
 unfold vC at e
 split at e
 ·next l =>
  cases e2:jY l with
  | none=>rw [e2] at e;cases e
  | some bs =>
   rw [e2] at e
   cases e
   cases r with
   | cons r1 r2 =>
    cases r2
    obtain ⟨a,ys,rfl,hx,hr⟩:=r1.lstE
    obtain rfl:=uc e2 hr
    exact ⟨a,bs,rfl,hx,q _ rfl (.bl _)⟩
 ·cases e
theorem JB {K:PySem.W.Frag}:BrC K (fun xs H Q=>∃ (p:Addr) (bs:List Bool),xs=[.ref p]∧SqL K H p (bs.map V.bl)∧Q (.bl (bs.any id)) H) M8:=by
 intro H xs ds d Q r e q
 unfold M8 at e
 split at e
 ·next l =>
  cases e2:jY l with
  | none=>rw [e2] at e;cases e
  | some bs =>
   rw [e2] at e
   cases e
   cases r with
   | cons r1 r2 =>
    cases r2
    obtain ⟨a,ys,rfl,hx,hr⟩:=r1.lstE
    obtain rfl:=uc e2 hr
    exact ⟨a,bs,rfl,hx,q _ rfl (.bl _)⟩
 ·cases e
end
section
variable {X:Cx} {fl:List Fl} {a:Expr} {f:FE} {pos:Pos} {ta:TE}
end
section
variable {X:Cx} {fl:List Fl} {a b c:Expr} {f fa fb fc:FE} {pos:Pos}
theorem Bj {op op':CmpOp} {r r':R2} {g g':D→D→Option D} (ho:OpR X (compareOp op) r) (ho':OpR X (compareOp op') r') (hb:BrO X.K r g) (hb':BrO X.K r' g') (h1:DE X fl .P a fa) (h2:DE X fl .P b fb) (h3:DE X fl .P c fc)
 (hm:lastMarks [op,op'] [b,c]=false:=by with_unfolding_all rfl):DT X fl (.Compare a [op,op'] [b,c] pos) (aW (oE g g' fa fb fc)):=PT.imp (Iw ho ho' h1 h2 h3 hm) fun σ H Q h=>by
 obtain ⟨G,ow,δ,bb,R,hf,q⟩:=h
 obtain ⟨d,hf,hd⟩:=bind1 hf
 have hd':d = .bool bb:=by cases d <;> first | (cases hd;rfl) | (cases hd;done)
 subst hd'
 obtain ⟨x,e1,hf⟩:=bind1 hf
 obtain ⟨y,e2,hf⟩:=bind1 hf
 obtain ⟨z,e3,hf⟩:=bind1 hf
 refine ⟨G,ow,δ,x,R,e1,fun v H1 s1 r1=>⟨G,ow,δ,y,R.grow s1,e2,fun u H2 s2 r2=>?_⟩⟩
 refine hb H2 v u x y z _ (RA.same s2 r1) r2 e3 fun zv hz rz=>?_
 split at hf
 ·obtain rfl:=rz.blE
  obtain ⟨w,e4,e5⟩:=bind1 hf
  refine ⟨true,rfl,Av ⟨G,ow,δ,w,R.grow (s1.trans s2),e4,fun wv H3 s3 r3=>?_⟩⟩
  refine hb' H3 u wv y w _ _ (RA.same s3 r2) r3 e5 fun z hz rz=>?_
  obtain rfl:=rz.blE
  exact ⟨_,rfl,q H3 (s1.trans (s2.trans s3))⟩
 ·obtain rfl:=rz.blE
  cases hf
  exact ⟨false,rfl,Ar ⟨_,rfl,q H2 (s1.trans s2)⟩⟩
 ·cases hf
theorem mZ {j pos'} (h:DE X fl .P a f):DT X fl (.Compare a [.IsNot] [.Constant .none j pos'] pos) (aW (dUn kE f)):=PT.imp (Ia (Mj h)) fun σ H Q h=>by
 obtain ⟨G,ow,δ,bb,R,hf,q⟩:=h
 obtain ⟨d,hf,hd⟩:=bind1 hf
 obtain ⟨x,e1,e2⟩:=bind1 hf
 cases e2
 cases hd
 refine ⟨G,ow,δ,x,R,e1,fun v H1 s1 r1=>?_⟩
 refine ⟨!decide (v = .non),rfl,?_⟩
 rw [Di (RA.same (Same.refl H1) r1)]
 exact q H1 s1
end
section
variable {X:Cx} {fl:List Fl} {a b:Expr} {f g:FE} {pos:Pos}
end
end D3
namespace D3
open PySem PySem.Spec PyProof.Rows L2 My
theorem RTs.length {K:PySem.W.Frag} {H:Hp}:∀ {v:List V} {d:List D} {as:List Addr},RTs K H v d as→v.length=d.length
 | _,_,_,.nil=>rfl
 | _,_,_,.cons _ q=>by simp [RTs.length q]
section
variable {X:Cx} {fl:List Fl} {e a b c:Expr} {es rest:List Expr} {k:Kd} {f fa fb fc:FE} {ft gt:FT} {pos:Pos}
theorem Nv:DE X fl .T (.Dict [] [] pos) (dC (.dict [])):=PE.imp Jg fun σ H Q h=>by
 obtain ⟨G,ow,δ,d,R,hf,q⟩:=h
 cases hf
 intro p hp
 exact q _ _ (dW hp _) ⟨[p],.dic dg (.inl ⟨rfl,rfl⟩),bU.mpr ⟨g_,.nil⟩,fun x hx=>by rw [aK.mp hx];exact hp⟩
theorem zc (i:Nat) (hn:isN fl[i]? = true) {x:Str} (hN:X.N[i]? = some x:=by rfl) (hv:Vis X.env.scope x:=by first | exact Or.inl rfl | exact Or.inr (Or.inl rfl) | exact Or.inr (Or.inr rfl)) (hd:(x == ("__debug__" : Str))=false:=by decide)
 (hcd:(x == ("__classdict__" : Str))=false:=by decide):DE X fl .P (.Name x pos) (aD i):=by
 refine PE.imp (mQ hN hv hd hcd) fun σ H Q h=>?_
 obtain ⟨G,ow,δ,d,R,hf,q⟩:=h
 obtain ⟨v,h1,h2,_⟩:=R.nr i d hn (lq hf)
 exact ⟨v,h1,q v H (Same.refl H) (h2.ra fun _ _=>trivial)⟩
theorem JC (i:Nat) (hn:isN fl[i]? = true) {x:Str} (hN:X.N[i]? = some x:=by rfl) (hv:Vis X.env.scope x:=by first | exact Or.inl rfl | exact Or.inr (Or.inl rfl) | exact Or.inr (Or.inr rfl)) (hd:(x == ("__debug__" : Str))=false:=by decide)
 (hcd:(x == ("__classdict__" : Str))=false:=by decide):DE X fl .R (.Name x pos) (aD i):=by
 refine PE.imp (mQ hN hv hd hcd) fun σ H Q h=>?_
 obtain ⟨G,ow,δ,d,R,hf,q⟩:=h
 obtain ⟨v,h1,h2,_⟩:=R.nr i d hn (lq hf)
 exact ⟨v,h1,q v H (Same.refl H) (h2.ra fun a ha=>(R.nt i a ha).1)⟩
end
section
variable {K:PySem.W.Frag} {fl:List Fl}
def owN (ow:Ow) (i:Nat) (as:List Addr):Ow:=⟨ow.s,fun j=>if j=i then as else ow.n j⟩
theorem lJ {ow:Ow} {i:Nat} {as:List Addr}:(owN ow i as).n i=as:=if_pos rfl
theorem jZ {ow:Ow} {i j:Nat} {as:List Addr} (h:j ≠ i):(owN ow i as).n j=ow.n j:=if_neg h
theorem Rel.setN {G:Gh} {ow:Ow} {σ:St} {H H':Hp} {δ:DS} {i:Nat} {v:V} {d:D} (R:Rel K fl G ow σ H δ) (s:Same H H') (hfl:fl[i]? = some .N) (hi:i < σ.length) (r:Rs K G.H0 ow H H' .T v d) :
 ∃ ow',Rel K fl G ow' (σ.set i (some v)) H' (δ.set i (some (.d d))):=by
 have R':=R.grow s
 obtain ⟨as,h1,h2,h3⟩:=r
 have no:∀ a,ow i ≠ some a:=fun a z=>by
  obtain ⟨_,hz,_⟩:=R.own i a z
  rw [hfl] at hz
  rcases hz with ⟨z,_⟩ | ⟨z,_⟩ <;> cases z
 have sub:∀ b,okA ow b∧H b ≠ none→okA (owN ow i as) b:=fun b z=>⟨z.1.1,fun j e=>by
  by_cases hj:j=i
  ·subst hj
   rw [lJ] at e
   exact z.2 (h3 b e)
  ·rw [jZ hj] at e
   exact z.1.2 j e⟩
 have old:∀ {v:V} {d:D},RA K (okA ow) true H v d→RA K (okA (owN ow i as)) true H' v d:=fun r=>(r.track.imp sub (fun z=>z)).same s
 have olds:∀ {v:List V} {d:List D},RAs K (okA ow) true H v d→RAs K (okA (owN ow i as)) true H' v d:=fun r=>(r.track.imp sub (fun z=>z)).same s
 refine ⟨owN ow i as,R'.s0,R'.s1,by rw [dF,dF];exact R.len,fun j a h=>?_,R.inj,R.pin,fun j d' g1 gn g2=>?_,fun j d' g1 gn g2 g3=>?_,fun j a h=>?_,fun j j' a h h'=>?_,fun j j' a h=>?_,fun j h=>?_,fun j d' gn g1=>?_⟩
 ·have hj:j ≠ i:=fun z=>no a (z ▸ h)
  obtain ⟨h0,hf,xs,ds,g1,g2,g3,g4⟩:=R.own j a h
  exact ⟨h0,hf,xs,ds,by rw [bD (Ne.symm hj)];exact g1,s _ _ g2,olds g3,by rw [bD (Ne.symm hj)];exact g4⟩
 ·rcases iI g1 with ⟨rfl,e⟩ | ⟨hj,e⟩
  ·rw [hfl] at gn;cases gn
  ·obtain ⟨v',g3,g4⟩:=R.dat j d' e gn g2
   exact ⟨v',by rw [bD (Ne.symm hj)];exact g3,old g4⟩
 ·rcases iI g1 with ⟨rfl,e⟩ | ⟨hj,e⟩
  ·rw [hfl] at gn;cases gn
  ·exact R.oo j d' e gn g2 g3
 ·by_cases hj:j=i
  ·subst hj
   rw [lJ] at h
   exact ⟨R.same0.free (h3 a h),h1.chd a h,.inl ⟨hfl,R.s1.free (h3 a h)⟩⟩
  ·rw [jZ hj] at h
   exact R'.nt j a h
 ·by_cases hj:j=i
  ·by_cases hj':j'=i
   ·rw [hj,hj']
   ·subst hj
    rw [lJ] at h
    rw [jZ hj'] at h'
    exact absurd (h3 a h) (R.nt j' a h').2.1.ne
  ·rw [jZ hj] at h
   by_cases hj':j'=i
   ·subst hj'
    rw [lJ] at h'
    exact absurd (h3 a h') (R.nt j a h).2.1.ne
   ·rw [jZ hj'] at h'
    exact R.nd j j' a h h'
 ·by_cases hj:j=i
  ·subst hj
   rw [lJ] at h
   exact fun z=>by
    obtain ⟨_,_,_,_,_,g2,_⟩:=R.own j' a z
    rw [h3 a h] at g2
    cases g2
  ·rw [jZ hj] at h
   exact R.ns j j' a h
 ·have hj:j ≠ i:=fun z=>by subst z;rw [hfl] at h;cases h
  rw [jZ hj]
  exact R.np j h
 ·rcases iI g1 with ⟨rfl,e⟩ | ⟨hj,e⟩
  ·cases e
   exact ⟨v,by rw [dD hi],by rw [lJ];exact h1,by rw [lJ];exact h2⟩
  ·obtain ⟨v',g3,g4⟩:=R'.nr j d' gn e
   exact ⟨v',by rw [bD (Ne.symm hj)];exact g3,by rw [jZ hj];exact g4⟩
theorem Rel.mutN {G:Gh} {ow:Ow} {σ:St} {H:Hp} {δ:DS} {i:Nat} {a:Addr} {u u':HO} [cu:Chg u] [cu':Chg u'] {d:D} {v:V} {as:List Addr} (R:Rel K fl G ow σ H δ) (hfl:fl[i]? = some .N) (hi:i < δ.length) (ha:a ∈ ow.n i) (hx:H a=some u) (hv:σ[i]? = some (some v))
 (hr:RT K (upd H a u') v d as) (hs:∀ b ∈ as,b ∈ ow.n i) (hd:as.Nodup):∃ ow',Rel K fl G ow' σ (upd H a u') (δ.set i (some (.d d))):=by
 have na:¬ okA ow a:=fun z=>z.2 i ha
 have hF:G.HF a=none:=by
  rcases (R.nt i a ha).2.2 with ⟨_,z⟩ | z
  ·exact z
  ·rw [hfl] at z;cases z
 have no:∀ a,ow i ≠ some a:=fun a z=>by
  obtain ⟨_,hz,_⟩:=R.own i a z
  rw [hfl] at hz
  rcases hz with ⟨z,_⟩ | ⟨z,_⟩ <;> cases z
 have sub:∀ b,okA ow b→okA (owN ow i as) b:=fun b z=>⟨z.1,fun j e=>by
  by_cases hj:j=i
  ·subst hj
   rw [lJ] at e
   exact z.2 j (hs b e)
  ·rw [jZ hj] at e
   exact z.2 j e⟩
 have tr:∀ b,Chd (H b)→Chd (upd H a u' b):=fun b z=>by
  by_cases hb:b=a
  ·rw [hb,dg];exact ⟨_,rfl,cu'⟩
  ·rw [cI hb];exact z
 refine ⟨owN ow i as,R.s0,fun b o hb=>?_,by rw [dF];exact R.len,fun j b h=>?_,R.inj,R.pin,fun j d' g1 gn g2=>?_,fun j d' g1 gn g2 g3=>?_,fun j b h=>?_,fun j j' b h h'=>?_,fun j j' b h=>?_,fun j h=>?_,fun j d' gn g1=>?_⟩
 ·rw [cI (fun z=>by subst z;rw [hF] at hb;cases hb)]
  exact R.s1 b o hb
 ·have hj:j ≠ i:=fun z=>no b (z ▸ h)
  obtain ⟨h0,hf,zs,ds,g1,g2,g3,g4⟩:=R.own j b h
  have hb:b ≠ a:=fun z=>R.ns i j a ha (z ▸ h)
  exact ⟨h0,hf,zs,ds,g1,by rw [cI hb];exact g2,(g3.upd hx na).imp sub (fun z=>z),by rw [bD (Ne.symm hj)];exact g4⟩
 ·rcases iI g1 with ⟨rfl,e⟩ | ⟨hj,e⟩
  ·rw [hfl] at gn;cases gn
  ·obtain ⟨v',g3,g4⟩:=R.dat j d' e gn g2
   exact ⟨v',g3,(g4.upd hx na).imp sub (fun z=>z)⟩
 ·rcases iI g1 with ⟨rfl,e⟩ | ⟨hj,e⟩
  ·rw [hfl] at gn;cases gn
  ·exact R.oo j d' e gn g2 g3
 ·by_cases hj:j=i
  ·subst hj
   rw [lJ] at h
   obtain ⟨g1,g2,g3⟩:=R.nt j b (hs b h)
   exact ⟨g1,tr b g2,g3⟩
  ·rw [jZ hj] at h
   obtain ⟨g1,g2,g3⟩:=R.nt j b h
   exact ⟨g1,tr b g2,g3⟩
 ·have old:∀ j b,b ∈ (owN ow i as).n j→b ∈ ow.n j:=fun j b h=>by
   by_cases hj:j=i
   ·subst hj;rw [lJ] at h;exact hs b h
   ·rw [jZ hj] at h;exact h
  exact R.nd j j' b (old j b h) (old j' b h')
 ·by_cases hj:j=i
  ·subst hj;rw [lJ] at h;exact R.ns j j' b (hs b h)
  ·rw [jZ hj] at h;exact R.ns j j' b h
 ·have hj:j ≠ i:=fun z=>by subst z;rw [hfl] at h;cases h
  rw [jZ hj]
  exact R.np j h
 ·rcases iI g1 with ⟨rfl,e⟩ | ⟨hj,e⟩
  ·cases e
   exact ⟨v,hv,by rw [lJ];exact hr,by rw [lJ];exact hd⟩
  ·obtain ⟨v',g3,g4,g5⟩:=R.nr j d' gn e
   exact ⟨v',g3,by rw [jZ hj];exact g4.upd hx (fun z=>hj (R.nd j i a z ha)),by rw [jZ hj];exact g5⟩
end
section
variable {K:PySem.W.Frag} {H:Hp}
theorem RTs.part {m:List D}:∀ {vs:List V} {ds:List D} {as:List Addr} {k:Nat},RTs K H vs ds as→ds[k]? = some (.list m)→∃ a xs bs,vs[k]? = some (.ref a)∧H a=some (.lst xs)∧RTs K H xs m bs∧a ∈ as∧(∀ b ∈ bs,b ∈ as) ∧
 (as.Nodup→a ∉ bs∧bs.Nodup∧∀ ys m' bs',RTs K (L2.upd H a (.lst ys)) ys m' bs'→(∀ b ∈ bs',b ∈ bs)→bs'.Nodup→∃ as',RTs K (L2.upd H a (.lst ys)) vs (ds.set k (.list m')) as'∧as'.Nodup∧∀ b ∈ as',b ∈ as)
 | _,_,_,_,.nil,h=>by simp at h
 | _,_,_,0,.cons e q,h=>by
  simp at h
  subst h
  cases e with
  | lst hx r =>
   rename_i bs2 a xs as
   refine ⟨a,xs,as,rfl,hx,r,by simp,fun b hb=>by simp [hb],fun nd=>?_⟩
   obtain ⟨n1,n2,n3⟩:=iB.mp nd
   obtain ⟨n4,n5⟩:=bU.mp n1
   refine ⟨n4,n5,fun ys m' bs' h1 h2 h3=>⟨(a :: bs')++bs2,?_,?_,?_⟩⟩
   ·exact .cons (.lst dg h1) (RTs.upd hx (fun z=>n3 a aM a z rfl) q)
   ·refine iB.mpr ⟨bU.mpr ⟨fun z=>n4 (h2 a z),h3⟩,n2,fun x hx y hy=>?_⟩
    rcases bF.mp hx with rfl | z
    ·exact n3 x aM y hy
    ·exact n3 x (aO _ (h2 x z)) y hy
   ·intro b hb
    rcases aX.mp hb with z | z
    ·rcases bF.mp z with rfl | z
     ·simp
     ·simp [h2 b z]
    ·simp [z]
 | _,_,_,k + 1,.cons (as:=as1) (bs:=bs2) e q,h=>by
  obtain ⟨a,xs,bs,h1,h2,h3,h4,h5,h6⟩:=RTs.part (k:=k) q (by simpa using h)
  refine ⟨a,xs,bs,by simpa using h1,h2,h3,aU _ h4,fun b hb=>aU _ (h5 b hb),fun nd=>?_⟩
  obtain ⟨n1,n2,n3⟩:=iB.mp nd
  obtain ⟨g1,g2,g3⟩:=h6 n2
  refine ⟨g1,g2,fun ys m' bs' k1 k2 k3=>?_⟩
  obtain ⟨as',r1,r2,r3⟩:=g3 ys m' bs' k1 k2 k3
  refine ⟨as1++as',.cons (RT.upd h2 (fun z=>n3 a z a h4 rfl) e) r1,iB.mpr ⟨n1,r2,fun x hx y hy=>n3 x hx y (r3 y hy)⟩,fun b hb=>?_⟩
  rcases aX.mp hb with z | z
  ·exact bx _ z
  ·exact aU _ (r3 b z)
theorem RT.flat0 {ok:Ok} {pl:Bool} {v:V} {d:D} (hf:flat d=true) (h:RA K ok pl H v d):RT K H v d []:=by
 obtain ⟨as,h1,_,h3⟩:=RA.rt (RA.flat (ok':=ok0) (pl':=false) hf h)
 cases as with
 | nil=>exact h1
 | cons a r=>exact (h3 a aM).elim
end
section
variable {X:Cx} {fl:List Fl} {e ke:Expr} {f fk:FE} {pos:Pos}
theorem zf {i:Nat} {x:Str} {pos':Pos} (hfl:fl[i]? = some .N) (hN:X.N.Nodup) (hi:X.N[i]? = some x) (hv:X.env.scope.names.lookup x=some .local∨X.env.scope.names.lookup x=some .cell) (h:DE X fl .T e f)
 (hs:swapsWith e (some (.Name x pos')) pos.line X.env=pure false:=by rfl) (hfn:X.fn x=true∨X.env.scope.names.lookup x=some .local:=by first | exact .inl rfl | exact .inr rfl) :
 DS1 X fl (.Assign [.Name x pos'] e pos) (cD i f):=PS.imp (uW (i:=i) hN hi hv h hs hfn) fun Dn σ H h=>by
 obtain ⟨G,ow,δ,o,R,hf,q⟩:=h
 unfold cD at hf
 by_cases hl:i < δ.length
 ·rw [if_pos hl] at hf
  obtain ⟨d,e1,e2⟩:=bind1 hf
  cases e2
  refine ⟨G,ow,δ,d,R,e1,fun v H' s r=>?_⟩
  obtain ⟨ow',R'⟩:=R.setN s hfl (n8 R hl) r
  exact q ow' _ H' R'
 ·rw [if_neg hl] at hf
  cases hf
theorem Rel.part {K:PySem.W.Frag} {G:Gh} {ow:Ow} {σ:St} {H:Hp} {δ:DS} {i:Nat} {x:D} {l m:List D} {n:Nat} (R:Rel K fl G ow σ H δ) (hfl:fl[i]? = some .N) (hx:aD i δ=some x) (hl:CN x=some l) (hm:l[n]? = some (.list m)) :
 ∃ p vs a xs,σ[i]? = some (some (.ref p))∧vs.length=l.length∧(∀ H',Same H H'→SqL K H' p vs∨SqT K H' p vs)∧vs[n]? = some (.ref a)∧(∀ H',Same H H'→H' a=some (.lst xs))∧xs.length=m.length ∧
  ∀ H',Same H H'→∃ bs,RTs K H' xs m bs∧a ∉ bs∧bs.Nodup∧∀ ys m' bs',RTs K (L2.upd H' a (.lst ys)) ys m' bs'→(∀ b ∈ bs',b ∈ bs)→bs'.Nodup→∃ ow',Rel K fl G ow' σ (L2.upd H' a (.lst ys)) (δ.set i (some (.d (putAt x n (.list m'))))):=by
 have e:=lq hx
 have hi:i < δ.length:=by
  rcases fW i δ.length with z | z
  ·exact z
  ·rw [bf z] at e;cases e
 obtain ⟨v,h1,h2,h3⟩:=R.nr i x (by rw [hfl];rfl) e
 generalize hN:ow.n i=as at h2 h3
 cases h2 with
 | lst hp r =>
  rename_i p vs ds bs0
  cases hl
  obtain ⟨n1,n2⟩:=bU.mp h3
  obtain ⟨a,xs,bs,g1,g2,g3,g4,g5,g6⟩:=r.part hm
  have pa:p ≠ a:=fun z=>n1 (z ▸ g4)
  refine ⟨p,vs,a,xs,h1,r.length,fun H' s=>.inl (SqL.of (s _ _ hp)),g1,fun H' s=>s _ _ g2,g3.length,fun H' s=>?_⟩
  obtain ⟨a',xs',bs',f1,f2,f3,f4,f5,f6⟩:=(r.same s).part hm
  rw [g1] at f1
  cases f1
  rw [s _ _ g2] at f2
  cases f2
  obtain ⟨k1,k2,k3⟩:=f6 n2
  refine ⟨bs',f3,k1,k2,fun ys m' bs'' q1 q2 q3=>?_⟩
  obtain ⟨as',r1,r2,r3⟩:=k3 ys m' bs'' q1 q2 q3
  refine (R.grow s).mutN hfl hi (by rw [hN];exact aO _ g4) (s _ _ g2) h1 (.lst (by rw [cI pa];exact s _ _ hp) r1) (fun b hb=>?_) (bU.mpr ⟨fun z=>n1 (r3 p z),r2⟩)
  rw [hN]
  rcases bF.mp hb with rfl | z
  ·exact aM
  ·exact aO _ (r3 b z)
 | tup hp r =>
  rename_i p vs ds
  cases hl
  obtain ⟨a,xs,bs,g1,g2,g3,g4,g5,g6⟩:=r.part hm
  refine ⟨p,vs,a,xs,h1,r.length,fun H' s=>.inr (Jf s hp.sq),g1,fun H' s=>s _ _ g2,g3.length,fun H' s=>?_⟩
  obtain ⟨a',xs',bs',f1,f2,f3,f4,f5,f6⟩:=(r.same s).part hm
  rw [g1] at f1
  cases f1
  rw [s _ _ g2] at f2
  cases f2
  obtain ⟨k1,k2,k3⟩:=f6 h3
  refine ⟨bs',f3,k1,k2,fun ys m' bs'' q1 q2 q3=>?_⟩
  obtain ⟨as',r1,r2,r3⟩:=k3 ys m' bs'' q1 q2 q3
  exact (R.grow s).mutN hfl hi (by rw [hN];exact g4) (s _ _ g2) h1 (.tup (jR.upd (s _ _ g2) (jR.same s hp)) r1) (fun b hb=>by rw [hN];exact r3 b hb) r2
 | non=>cases hl
 | bl _=>cases hl
 | int _=>cases hl
 | str _=>cases hl
 | dic _ _=>cases hl
theorem R7 {vs:List V} {j:Int} {n:Nat} {v:V} (hj:pIx vs.length j=some n) (h:vs[n]? = some v):atI vs j=some v:=by
 unfold atI
 rw [show ixN vs.length j=some n from hj]
 exact h
theorem JD {g:List D→D→Option (List D)} {i:Nat} {δ:DS} {o:Oc} (h:RQ g i fk f δ=some o):∃ y j d l n m m',aD i δ=some y∧fk δ=some (.int j)∧f δ=some d∧CN y=some l∧pIx l.length j=some n∧l[n]? = some (.list m)∧g m d=some m'∧o = .nx (δ.set i (some (.d (putAt y n (.list m'))))):=by
 obtain ⟨y,e1,h⟩:=bind1 h
 obtain ⟨kd,e2,h⟩:=bind1 h
 obtain ⟨d,e3,h⟩:=bind1 h
 obtain ⟨l,e4,h⟩:=bind1 h
 obtain ⟨j,rfl⟩:∃ j,kd = .int j:=by cases kd <;> first | exact ⟨_,rfl⟩ | (cases h;done)
 obtain ⟨n,e5,h⟩:=bind1 h
 cases e6:l[n]? with
 | none=>rw [e6] at h;cases h
 | some z =>
  rw [e6] at h
  obtain ⟨m,rfl⟩:∃ m,z = .list m:=by cases z <;> first | exact ⟨_,rfl⟩ | (cases h;done)
  obtain ⟨m',e7,h⟩:=bind1 h
  cases h
  exact ⟨y,j,d,l,n,m,m',e1,e2,e3,e4,e5,e6,e7,rfl⟩
theorem Nx {i:Nat} {x:Str} {vpos spos apos cpos:Pos} (hfl:fl[i]? = some .N) (hk:DE X fl .P ke fk) (hN:X.N[i]? = some x) (hsx:uI ke) (hv:Vis X.env.scope x:=by first | exact Or.inl rfl | exact Or.inr (Or.inl rfl) | exact Or.inr (Or.inr rfl)) (hd:(x == ("__debug__" : Str))=false:=by decide)
 (hcd:(x == ("__classdict__" : Str))=false:=by decide)
 (hs:swapsWith (.Call (.Attribute (.Subscript (.Name x vpos) ke spos) "clear" apos) [] [] cpos) none pos.line X.env=pure false:=by rfl)
 (hbase:attributeBase (.Subscript (.Name x vpos) ke spos) "clear" X.env (eval (.Subscript (.Name x vpos) ke spos) X.env)=eval (.Subscript (.Name x vpos) ke spos) X.env:=by rfl)
 (hline:(apos.endLine == cpos.line)=true:=by rfl) :
 DS1 X fl (.Expr (.Call (.Attribute (.Subscript (.Name x vpos) ke spos) "clear" apos) [] [] cpos) pos) (vm i fk) :=
 PS.imp (sJ (RG PySem.F.plainAttrs_list PySem.F.slot_list_clear PySem.F.type_list_clear Jb (QD IV (mQ hN hv hd hcd) hk hsx) hbase hline) hs) fun Dn σ H hh=>by
 obtain ⟨G,ow,δ,o,R,hf,q⟩:=hh
 obtain ⟨y,jj,d,l,n,m,m',e1,e2,e3,e4,e5,em,e6,rfl⟩:=JD hf
 cases e6
 obtain ⟨p,vs,a,xs,c1,c2,c3,c4,c5,c6,c7⟩:=R.part hfl e1 e4 em
 refine ⟨_,c1,G,ow,δ,_,R,e2,fun u H1 s1 r1=>?_⟩
 obtain rfl:=RA.intE r1
 have at1:atI vs jj=some (.ref a):=R7 (by rw [c2];exact e5) c4
 have fin:Ja (.ref a) [] H1 fun _ H3=>Dn.nx σ H3:=by
  obtain ⟨bs,d7,d8,d9,d10⟩:=c7 H1 s1
  refine ⟨a,xs,rfl,rfl,c5 H1 s1,?_⟩
  obtain ⟨ow',R'⟩:=d10 [] [] [] .nil (fun b hb=>by cases hb) .nil
  exact q ow' σ _ R'
 rcases c3 H1 s1 with b3 | b3
 ·exact .inl ⟨p,vs,jj,.ref a,rfl,rfl,b3,at1,.inl ⟨rfl,_,SqL.of (c5 H1 s1)⟩,fin⟩
 ·exact .inr (.inl ⟨p,vs,jj,.ref a,rfl,rfl,b3,at1,.inl ⟨rfl,_,SqL.of (c5 H1 s1)⟩,fin⟩)
end
end D3
namespace D3
open PySem
def qM (g:List D→Option (List D)) (i:Nat) (x:Option D) (δ:DS):Option Oc:=match x with
 | some (.list l)=>match g l with
  | some m=>some (.nx (δ.set i (some (.d (.list m)))))
  | none=>none
 | _=>none
def Bk (n:Nat) (j:Int):Nat:=if j < 0 then (j + n).toNat else min j.toNat n
def Dk (j:Int) (d:D) (l:List D):Option (List D):=if l.length < 1000000∧-(2 ^ 62) ≤ j∧j < 2 ^ 62 then some (l.take (Bk l.length j)++d :: l.drop (Bk l.length j)) else none
def qIn (i:Nat) (k d x:Option D) (δ:DS):Option Oc:=match k,d with
 | some (.int j),some d=>qM (Dk j d) i x δ
 | _,_=>none
def wR (i:Nat) (fk f:FE):FS:=fun δ=>qIn i (fk δ) (f δ) (aD i δ) δ
def iiD:List (D × D)→Option (List (Int × Int))
 | []=>some []
 | (.int i,.int j) :: r=>(iiD r).map ((i,j) :: ·)
 | _=>none
def QL:D→Option (List D)
 | .list l=>some l
 | .tuple l=>some l
 | _=>none
def qSq (x:Option D):Option (List D):=x.bind QL
def R8 (f:FE):FA:=fun δ=>(f δ).bind QL
theorem XJ {f:FE} {δ:DS}:R8 f δ=qSq (f δ):=rfl
theorem R9 {l:List D}:qSq (some (.tuple l))=some l:=rfl
theorem R_ {g:List D→Option (List D)} {i:Nat} {x:Option D} {δ:DS} {o:Oc} (h:qM g i x δ=some o):∃ l m,x=some (.list l)∧g l=some m∧o = .nx (δ.set i (some (.d (.list m)))):=by
 unfold qM at h
 split at h
 ·next l =>
  split at h
  ·next m e=>cases h;exact ⟨l,m,rfl,e,rfl⟩
  ·cases h
 ·cases h
theorem JF {i:Nat} {fk f:FE} {δ:DS}:wR i fk f δ=qIn i (fk δ) (f δ) (aD i δ) δ:=rfl
theorem zj {i:Nat} {j:Int} {d:D} {x:Option D} {δ:DS}:qIn i (some (.int j)) (some d) x δ=qM (Dk j d) i x δ:=rfl
theorem Sd {g:List D→Option (List D)} {i:Nat} {l m:List D} {δ:DS} (h:g l=some m):qM g i (some (.list l)) δ=some (.nx (δ.set i (some (.d (.list m))))):=by
 show (match g l with
  | some m=>some (Oc.nx (δ.set i (some (.d (.list m)))))
  | none=>none)=_
 rw [h]
def gIn:D→D→Option D:=fun x y=>match y with
 | .list l=>if (SeqAt.shaped x && SeqAt.shaped (.list l))=true then some (.bool (l.any fun z=>PyData.eqv z x)) else none
 | .tuple l=>if (SeqAt.shaped x && SeqAt.shaped (.tuple l))=true then some (.bool (l.any fun z=>PyData.eqv z x)) else none
 | _=>none
def rT:D→D→Option D:=fun x y=>match y with
 | .list l=>if (SeqAt.shaped x && SeqAt.shaped (.list l))=true then some (.bool (!l.any fun z=>PyData.eqv z x)) else none
 | .tuple l=>if (SeqAt.shaped x && SeqAt.shaped (.tuple l))=true then some (.bool (!l.any fun z=>PyData.eqv z x)) else none
 | _=>none
def qRL (a:Option D):Option Oc:=match a with
 | some d=>some (.ex "" "" d)
 | none=>none
def E_ (fe:FE):FS:=fun δ=>(fe δ).bind fun d=>some (.ex "" "" d)
theorem Sg {fe:FE} {δ:DS}:E_ fe δ=qRL (fe δ):=by
 unfold E_ qRL
 cases fe δ <;> rfl
theorem JG {d:D}:qRL (some d)=some (.ex "" "" d):=rfl
def Ny (o:Option Oc):Option D:=match o with
 | some (.rt d)=>some d
 | some (.ex _ _ d)=>some d
 | some (.nx _)=>some .none
 | _=>none
def fnL (p q:Nat) (b:FS):List D→Option D:=fun ds=>if ds.length=p then Ny (b (ds.map (fun d=>some (.d d))++bG q none)) else none
theorem VG {p q:Nat} {b:FS} {ds:List D}:fnL p q b ds=if ds.length=p then Ny (b (ds.map (fun d=>some (.d d))++bG q none)) else none:=rfl
theorem JH {c f:Str} {d:D}:Ny (some (.ex c f d))=some d:=rfl
end D3
namespace D3
open PySem PySem.Spec PyProof.Rows L2 My
section
variable {X:Cx}
def Nz:V→List V→Hp→VK→Prop:=fun x vs H Q=>∃ l xs i y,x = .ref l∧vs=[.int i,y]∧H l=some (.lst xs)∧-(2 ^ 63) ≤ i∧i < 2 ^ 63∧xs.length < sizeLine∧Q .non (upd H l (.lst (xs.take (Bk xs.length i)++y :: xs.drop (Bk xs.length i))))
theorem NK (li:List Value) (k:Nat) (y:Value):(li.toArray.extract 0 k).push y++li.toArray.extract k=(li.take k++y :: li.drop k).toArray:=by
 apply Array.ext'
 simp [List.extract_eq_drop_take]
 exact List.take_of_length_le (by simp)
theorem GR:MtM X "list.insert" Nz:=by
 intro pins s σ H x vs v us Q I rx rv h
 obtain ⟨l,xs,i,y,rfl,rfl,hH,h1,h2,hz,q⟩:=h
 cases rx
 obtain ⟨u1,u2,rfl,ru1,ru2⟩:=rv.two
 obtain ⟨t,rfl⟩:=ru1
 obtain ⟨z,its,n,r,hl,e⟩:=I.lstM hH
 refine call_meets F.slot_list_insert ⟨_,e,rfl⟩ F.entry_list_insert (F.args_list_insert_3 _ _ _) (AutoSeq1.list_insert_list_int_val_1 l its.toArray n i t u2 (by simp [fitsIndex_both h1 h2]) (by rw [bI];omega)) ⟨e,?_⟩
 refine ⟨.non,_,I.lset (its':=its.take (Bk xs.length i)++u2 :: its.drop (Bk xs.length i)) hH e ?_ ((r.take _).append (.cons ru2 (r.drop _))) ?_,rfl,q⟩
 ·show (its.toArray.extract 0 (if i < 0 then (i + (its.toArray.size:Int)).toNat else min i.toNat its.toArray.size)).push u2++its.toArray.extract (if i < 0 then (i + (its.toArray.size:Int)).toNat else min i.toNat its.toArray.size)=_
  rw [hl]
  exact NK its (Bk its.length i) u2
 ·rw [bH,bQ,iW,List.length_drop]
  omega
end
section
variable {X:Cx} {fl:List Fl} {e ke:Expr} {f fk:FE} {pos:Pos}
theorem RAs.erase {K:PySem.W.Frag} {ok:Ok} {pl:Bool} {H:Hp} {v:List V} {d:List D} (n:Nat) (r:RAs K ok pl H v d):RAs K ok pl H (v.eraseIdx n) (d.eraseIdx n):=by
 rw [lE,lE]
 exact (r.take n).append (r.drop (n + 1))
theorem Dm {i:Nat} {x:Str} {vpos apos cpos:Pos} (hfl:fl[i]? = some .O) (hk:DE X fl .P ke fk) (h:DE X fl .A e f) (hN:X.N[i]? = some x) (hv:Vis X.env.scope x:=by first | exact Or.inl rfl | exact Or.inr (Or.inl rfl) | exact Or.inr (Or.inr rfl)) (hd:(x == ("__debug__" : Str))=false:=by decide)
 (hcd:(x == ("__classdict__" : Str))=false:=by decide)
 (hs:swapsWith (.Call (.Attribute (.Name x vpos) "insert" apos) [ke,e] [] cpos) none pos.line X.env=pure false:=by rfl)
 (hbase:attributeBase (.Name x vpos) "insert" X.env (eval (.Name x vpos) X.env)=eval (.Name x vpos) X.env:=by rfl)
 (hfew:((backTo cpos (starEach [ke,e] X.env)).all (fun x=>!x.1) && (backToKw cpos (keywordEach [] X.env)).all (fun x=>x.1.isSome)
  && decide (([ke,e]:List Expr).length + ([]:List Keyword).length + (if ([]:List Keyword).isEmpty then 0 else 1) < 30))=true:=by rfl)
 (hline:(apos.endLine == cpos.line)=true:=by rfl) (hst:starEach [ke,e] X.env=(false,eval ke X.env) :: starEach [e] X.env:=by exact n_ rfl) (hst2:starEach [e] X.env=(false,eval e X.env) :: starEach [] X.env:=by exact n_ rfl) (hplain:(backTo cpos (starEach [e] X.env)).any (·.1)=false:=by exact Ez rfl) :
 DS1 X fl (.Expr (.Call (.Attribute (.Name x vpos) "insert" apos) [ke,e] [] cpos) pos) (wR i fk f) :=
 PS.imp (sJ (QF PySem.F.plainAttrs_list PySem.F.slot_list_insert PySem.F.type_list_insert GR (mQ hN hv hd hcd) (nW hk (nW h tU hst2) hst) hbase hfew hline hst hplain) hs) fun Dn σ H hh=>by
 obtain ⟨G,ow,δ,o,R,hf,q⟩:=hh
 unfold wR qIn at hf
 split at hf
 case h_2=>cases hf
 next j d ek ed =>
 obtain ⟨l,m,e1,e2,rfl⟩:=R_ hf
 unfold Dk at e2
 by_cases hl:l.length < 1000000∧-(2 ^ 62) ≤ j∧j < 2 ^ 62
 case neg=>rw [if_neg hl] at e2;cases e2
 rw [if_pos hl] at e2
 cases e2
 obtain ⟨a,xs,ho,h1,h2,h3⟩:=CV R hfl e1
 refine ⟨_,h1,.inl ⟨rfl,_,SqL.of h2⟩,G,ow,δ,_,R,ek,fun v H' s r=>?_⟩
 obtain rfl:=RA.intE r
 refine ⟨G,ow,δ,d,R.grow s,ed,fun u H2 s2 r2=>?_⟩
 have S:=s.trans s2
 refine ⟨a,xs,j,u,rfl,rfl,S _ _ h2,by omega,by omega,by rw [h3.length];exact jH hl.1 (by decide),?_⟩
 have R':=R.grow S
 have h3':=h3.same S
 refine q ow σ _ (R'.mut hfl ho ?_)
 rw [h3.length]
 exact (h3'.take _).append (.cons r2 (h3'.drop _))
end
section
variable {X:Cx} {fl:List Fl} {a:Expr} {pos p p2 pos2:Pos} {fa:FA}
end
end D3
namespace D3
open PySem PySem.Spec PyProof.Rows L2 My
section
variable {X:Cx} {pins:List (Addr × Obj)} {σ:L2.St} {H:Hp} {s:Shared}
end
section
variable {X:Cx} {K:PySem.W.Frag}
end
section
variable {X:Cx} {fl:List Fl} {es:List Expr} {pos:Pos}
end
section
variable {X:Cx} {fl:List Fl} {e:Expr} {f:FE}
theorem VH {tg l:Expr} {t1 t2:TI} (h1:PI X tg l t1) (h2:PI X tg l t2):PI X tg l (fun σ H R=>t1 σ H R∨t2 σ H R):=fun pins s σ H R I h=>by
 rcases h with h | h
 ·exact h1 pins s σ H R I h
 ·exact h2 pins s σ H R I h
theorem Sq {K:PySem.W.Frag} {G:Gh} {ow:Ow} {σ:St} {H Hb:Hp} {δ:DS} {L:List Nat} {v:V} {l:List D} (R:Rel K fl G ow σ H δ) (r:Rs K G.H0 ow Hb H (.B L) v (.tuple l)):∃ a xs,v = .ref a∧SqT K H a xs ∧
 ∀ H2:Hp,(∀ b o,H b=some o→(∀ i,ow i=some b→i ∈ L)→(∀ i,b ∉ ow.n i)→H2 b=some o)→SqT K H2 a xs∧RAs K (fun b=>okA ow b∧H b ≠ none) true H2 xs l:=by
 rcases r with r | ⟨i,hi,a,xs,ds,ho,rfl,e,hx,hr⟩
 ·cases r with
  | tup e q =>
   refine ⟨_,_,rfl,e.sq,fun H2 hk=>⟨?_,RAs.keep hk R.ownL R.ownC (fun b z=>z.1) q.track⟩⟩
   exact .inl (.inl (hk _ _ e (nm R.ownL e (by intro xs z;cases z)) (nm2 R.ownC e Chg.tup)))
 ·cases e
theorem Sv {tg:Expr} {L:List Nat} (h:DE X fl (.B L) e f):DI X fl L tg e (R8 f):=PI.imp (VH (Eo h) (Rr h)) fun σ H R' h=>by
 obtain ⟨G,ow,δ,l,R,hf,q⟩:=h
 obtain ⟨d,e1,e2⟩:=bind1 hf
 cases d with
 | list l' =>
  cases e2
  refine .inl ⟨G,ow,δ,_,R,e1,fun v H1 s r=>?_⟩
  obtain ⟨a,xs,rfl,hx,keep⟩:=CW (R.grow s) r
  refine ⟨a,rfl,⟨xs,hx⟩,q _ _ s fun H2 k2 i=>?_⟩
  obtain ⟨k3,k4⟩:=keep H2 k2
  refine ⟨fun d hd=>?_,fun hl=>⟨xs,k3,by rw [k4.length];exact hl⟩⟩
  obtain ⟨y,hy,ry⟩:=k4.get hd
  refine ⟨⟨xs,y,k3,hy⟩,fun x H3 hyl=>?_⟩
  obtain ⟨e,hz⟩:=hyl
  subst e
  have:some y=some x:=hy.symm.trans (hz xs k3)
  cases this
  exact ⟨Same.refl _,ry⟩
 | tuple l' =>
  cases e2
  refine .inr ⟨G,ow,δ,_,R,e1,fun v H1 s r=>?_⟩
  obtain ⟨a,xs,rfl,hx,keep⟩:=Sq (R.grow s) r
  refine ⟨a,rfl,⟨xs,hx⟩,q _ _ s fun H2 k2 i=>?_⟩
  obtain ⟨k3,k4⟩:=keep H2 k2
  refine ⟨fun d hd=>?_,fun hl=>⟨xs,k3,by rw [k4.length];exact hl⟩⟩
  obtain ⟨y,hy,ry⟩:=k4.get hd
  refine ⟨⟨xs,y,k3,hy⟩,fun x H3 hyl=>?_⟩
  obtain ⟨e,hz⟩:=hyl
  subst e
  have:some y=some x:=hy.symm.trans (hz xs k3)
  cases this
  exact ⟨Same.refl _,ry⟩
 | none=>cases e2
 | bool _=>cases e2
 | int _=>cases e2
 | str _=>cases e2
 | dict _=>cases e2
end
section
variable {X:Cx} {fl:List Fl} {a:Expr} {f:FE} {pos p:Pos}
end
section
variable {X:Cx} {fl:List Fl} {a b:Expr} {fa fb:FE} {pos:Pos}
end
end D3
namespace D3
open PySem PySem.Spec PyProof.Rows L2 My
section
variable {X:Cx} {K:PySem.W.Frag}
def VJ (K:PySem.W.Frag):R2:=fun x y H Q=>∃ da l,RdV K H x da∧((RdV K H y (.list l)∧SeqAt.shaped (.list l)=true)∨(RdV K H y (.tuple l)∧SeqAt.shaped (.tuple l)=true))∧SeqAt.shaped da=true∧Q (.bl (l.any fun z=>PyData.eqv z da)) H
def Fb (K:PySem.W.Frag):R2:=fun x y H Q=>∃ da l,RdV K H x da∧((RdV K H y (.list l)∧SeqAt.shaped (.list l)=true)∨(RdV K H y (.tuple l)∧SeqAt.shaped (.tuple l)=true))∧SeqAt.shaped da=true∧Q (.bl (!l.any fun z=>PyData.eqv z da)) H
theorem uM {A:Around} {l:List D} {d:D} (hu:A.units + 64 < cLine) (h:PyData.depthAll l + 1 ≤ 64):A.units + 1 + min (PyData.depthAll l) d.depth < cLine:=by
 have:=Nat.min_le_left (PyData.depthAll l) d.depth
 omega
theorem oh {l:List D} (h:SeqAt.shaped (.list l)=true):PyData.canLayAll0 l=true∧PyData.depthAll l + 1 ≤ 64:=by
 unfold SeqAt.shaped at h
 rw [aL] at h
 refine ⟨by simpa [PyData.canLay0] using h.1,?_⟩
 have:=of_decide_eq_true h.2
 simpa [PyData.depth] using this
theorem m5 {l:List D} (h:SeqAt.shaped (.tuple l)=true):PyData.canLayAll0 l=true∧PyData.depthAll l + 1 ≤ 64:=by
 unfold SeqAt.shaped at h
 rw [aL] at h
 refine ⟨by simpa [PyData.canLay0] using h.1,?_⟩
 have:=of_decide_eq_true h.2
 simpa [PyData.depth] using this
theorem Sw (hu:X.A.units + 64 < cLine):OpR X (compareOp .In) (VJ X.K):=by
 intro pins s σ H x y v u Q I rx ry h
 obtain ⟨da,l,ha,hb,sa,q⟩:=h
 obtain ⟨as,za⟩:=ha.reads I rx
 rcases hb with ⟨hb,sb⟩ | ⟨hb,sb⟩
 ·obtain ⟨bs,zb⟩:=hb.reads I ry
  exact SeqAt.in_list_reads zb za (oh sb).1 (SeqAt.canLay_of_shaped sa) (uM hu (oh sb).2) ⟨.bl _,H,I,rfl,q⟩
 ·obtain ⟨bs,zb⟩:=hb.reads I ry
  exact SeqAt.in_tuple_reads zb za (m5 sb).1 (SeqAt.canLay_of_shaped sa) (uM hu (m5 sb).2) ⟨.bl _,H,I,rfl,q⟩
theorem yt (hu:X.A.units + 64 < cLine):OpR X (compareOp .NotIn) (Fb X.K):=by
 intro pins s σ H x y v u Q I rx ry h
 obtain ⟨da,l,ha,hb,sa,q⟩:=h
 obtain ⟨as,za⟩:=ha.reads I rx
 rcases hb with ⟨hb,sb⟩ | ⟨hb,sb⟩
 ·obtain ⟨bs,zb⟩:=hb.reads I ry
  exact SeqAt.notIn_list_reads zb za (oh sb).1 (SeqAt.canLay_of_shaped sa) (uM hu (oh sb).2) ⟨.bl _,H,I,rfl,q⟩
 ·obtain ⟨bs,zb⟩:=hb.reads I ry
  exact SeqAt.notIn_tuple_reads zb za (m5 sb).1 (SeqAt.canLay_of_shaped sa) (uM hu (m5 sb).2) ⟨.bl _,H,I,rfl,q⟩
theorem XM:BrO K (VJ K) gIn:=by
 intro H x y dx dy d Q rx ry e q
 cases dy with
 | list l =>
  by_cases z:(SeqAt.shaped dx && SeqAt.shaped (.list l))=true
  ·have e:(if (SeqAt.shaped dx && SeqAt.shaped (.list l))=true then some (PyData.bool (l.any fun z=>PyData.eqv z dx)) else none)=some d:=e
   rw [if_pos z] at e
   cases e
   rw [aL] at z
   exact ⟨dx,l,rx.rd (SeqAt.canLay_of_shaped z.1),.inl ⟨ry.rd (SeqAt.canLay_of_shaped z.2),z.2⟩,z.1,q _ rfl (.bl _)⟩
  ·have e:(if (SeqAt.shaped dx && SeqAt.shaped (.list l))=true then some (PyData.bool (l.any fun z=>PyData.eqv z dx)) else none)=some d:=e
   rw [if_neg z] at e
   cases e
 | tuple l =>
  by_cases z:(SeqAt.shaped dx && SeqAt.shaped (.tuple l))=true
  ·have e:(if (SeqAt.shaped dx && SeqAt.shaped (.tuple l))=true then some (PyData.bool (l.any fun z=>PyData.eqv z dx)) else none)=some d:=e
   rw [if_pos z] at e
   cases e
   rw [aL] at z
   exact ⟨dx,l,rx.rd (SeqAt.canLay_of_shaped z.1),.inr ⟨ry.rd (SeqAt.canLay_of_shaped z.2),z.2⟩,z.1,q _ rfl (.bl _)⟩
  ·have e:(if (SeqAt.shaped dx && SeqAt.shaped (.tuple l))=true then some (PyData.bool (l.any fun z=>PyData.eqv z dx)) else none)=some d:=e
   rw [if_neg z] at e
   cases e
 | _=>cases e
theorem Fd:BrO K (Fb K) rT:=by
 intro H x y dx dy d Q rx ry e q
 cases dy with
 | list l =>
  by_cases z:(SeqAt.shaped dx && SeqAt.shaped (.list l))=true
  ·have e:(if (SeqAt.shaped dx && SeqAt.shaped (.list l))=true then some (PyData.bool (!l.any fun z=>PyData.eqv z dx)) else none)=some d:=e
   rw [if_pos z] at e
   cases e
   rw [aL] at z
   exact ⟨dx,l,rx.rd (SeqAt.canLay_of_shaped z.1),.inl ⟨ry.rd (SeqAt.canLay_of_shaped z.2),z.2⟩,z.1,q _ rfl (.bl _)⟩
  ·have e:(if (SeqAt.shaped dx && SeqAt.shaped (.list l))=true then some (PyData.bool (!l.any fun z=>PyData.eqv z dx)) else none)=some d:=e
   rw [if_neg z] at e
   cases e
 | tuple l =>
  by_cases z:(SeqAt.shaped dx && SeqAt.shaped (.tuple l))=true
  ·have e:(if (SeqAt.shaped dx && SeqAt.shaped (.tuple l))=true then some (PyData.bool (!l.any fun z=>PyData.eqv z dx)) else none)=some d:=e
   rw [if_pos z] at e
   cases e
   rw [aL] at z
   exact ⟨dx,l,rx.rd (SeqAt.canLay_of_shaped z.1),.inr ⟨ry.rd (SeqAt.canLay_of_shaped z.2),z.2⟩,z.1,q _ rfl (.bl _)⟩
  ·have e:(if (SeqAt.shaped dx && SeqAt.shaped (.tuple l))=true then some (PyData.bool (!l.any fun z=>PyData.eqv z dx)) else none)=some d:=e
   rw [if_neg z] at e
   cases e
 | _=>cases e
end
section
variable {X:Cx} {fl:List Fl} {a:Expr} {f:FE} {pos:Pos}
end
def spL (K:PySem.W.Frag) (F:List D→Option D):Sp:=fun vs H Q _=>∃ ds d,(Tb H∧RAs K ok1 true H vs ds)∧F ds=some d∧∀ v H',Same H H'→RA K ok1 true H' v d→Q v H'
section
variable {X:Cx} {fl:List Fl} {e:Expr} {es:List Expr} {f:FE} {pos p:Pos} {x:Str} {n:Nat} {F:List D→Option D} {fa:FA}
theorem NP (h:DE X fl .P e f):DS1 X fl (.Return (some e) pos) (E_ f):=PS.imp (Ig h) fun Dn σ H h=>by
 obtain ⟨G,ow,δ,o,R,hf,q⟩:=h
 obtain ⟨d,e1,e2⟩:=bind1 hf
 cases e2
 exact ⟨G,ow,δ,d,R,e1,fun v H' s r=>q v H' (R.same0.trans s) r⟩
theorem JK {ps:List Str} (h:Has X.prog X.w X.K X.mg X.base n x ps (spL X.K F)) (hr:Room n X.A) (ha:DB X fl .P (e :: es) fa) (hg:Gl X x:=by rfl) (hdb:(x == ("__debug__" : Str))=false:=by decide)
 (he:starEach (e :: es) X.env=(false,eval e X.env) :: starEach es X.env:=by exact n_ rfl) (hpl:(backTo pos (starEach es X.env)).any (·.1)=false:=by exact Ez rfl) :
 DE X fl .P (.Call (.Name x p) (e :: es) [] pos) (dCall F fa):=PE.imp (Aw h hr ha hg hdb he hpl) fun σ H Q h=>by
 obtain ⟨G,ow,δ,d,R,hf,q⟩:=h
 obtain ⟨ds,e1,e2⟩:=bind1 hf
 refine ⟨G,ow,δ,ds,R,e1,fun vs H' s r=>?_⟩
 show spL X.K F (vs++[]) H' Q E0
 rw [cH]
 exact ⟨ds,d,⟨R.tb.same s,r⟩,e2,fun v H2 s2 r2=>q v H2 (s.trans s2) r2⟩
end
section
variable {P:Program} {w:World} {K:PySem.W.Frag} {mg:Str→Option Value} {base:Heap} {x:Str} {ps N:List Str} {st:Stmt} {k n:Nat} {fs:FS} {fl:List Fl}
theorem NQ {f:Addr} {fd:FuncData} (Fn:FunD K x st f fd) (S:FnScope N ps (bA st)) (hp:∀ i,i < ps.length→fl[i]? = some .A) (hN:ps.length ≤ N.length)
 (hbody:∀ (f:Addr) (cdv:Value) (A:Around) (outer:List Env) (s:Shared) (H:Hp) (E:XK),Room k (A.deeper (envOfC x (bA st) s.heap.objs.size f cdv))→DSs (cx P w K mg base N x st f cdv A outer s H E) fl (iH st) fs) :
 FnOk P w K mg base CX0 (k + 1) f fd ps (spL K (fnL ps.length (N.length - ps.length) fs)):=by
 refine Fn.ok S (fun vs H Q E h=>?_) (fun cdv A outer s H vs Q E hr h=>?_)
 ·obtain ⟨ds,d,r,hf,_⟩:=h
  unfold fnL at hf
  by_cases z:ds.length=ps.length
  ·rw [r.2.length];exact z
  ·rw [if_neg z] at hf;cases hf
 ·obtain ⟨ds,d,r,hf,q⟩:=h
  refine ⟨_,hbody f cdv A outer s H E hr,?_⟩
  unfold fnL Ny at hf
  by_cases z:ds.length=ps.length
  ·rw [if_pos z] at hf
   split at hf
   ·next d' e =>
    cases hf
    exact ⟨_,_,_,_,lH ps.length hp z hN r,e,fun v H' s r=>q v H' s (RA.imp (fun _ _=>trivial) (fun _=>rfl) r)⟩
   ·next c' f' d' e =>
    cases hf
    exact ⟨_,_,_,_,lH ps.length hp z hN r,e,fun v H' s r=>q v H' s r⟩
   ·next δ' e =>
    cases hf
    exact ⟨_,_,_,_,lH ps.length hp z hN r,e,fun ow' σ' H' R'=>q .non H' R'.same0 .non⟩
   ·cases hf
  ·rw [if_neg z] at hf;cases hf
theorem Sx (Dd:Dg K mg x st ps) (S:FnScope N ps (bA st)) (hp:∀ i,i < ps.length→fl[i]? = some .A) (hN:ps.length ≤ N.length)
 (hbody:∀ (f:Addr) (cdv:Value) (A:Around) (outer:List Env) (s:Shared) (H:Hp) (E:XK),Room k (A.deeper (envOfC x (bA st) s.heap.objs.size f cdv))→DSs (cx P w K mg base N x st f cdv A outer s H E) fl (iH st) fs) :
 Has P w K mg base (k + 1) x ps (spL K (fnL ps.length (N.length - ps.length) fs)):=by
 obtain ⟨f,fd,Fn,b,m⟩:=Dd.ex
 exact ⟨f,fd,NQ Fn S hp hN hbody,b,Fn.kp,m⟩
end
section
variable {P:Program} {w:World} {K:PySem.W.Frag} {mg:Str→Option Value} {base:Heap} {x:Str} {ps:List Str} {st:Stmt} {n:Nat}
end
end D3
namespace D3
open PySem PySem.Spec PyProof.Rows L2 My
section
variable {K:PySem.W.Frag} {fl flA:List Fl} {G:Gh} {ow:Ow} {σ σ':St} {H H1:Hp} {δ:DS} {T:List Nat}
end
section
variable {X:Cx} {fl flA:List Fl} {e:Expr} {es:List Expr} {f:FE} {fa:FA} {pos:Pos}
end
section
variable {X:Cx} {fl:List Fl} {pos:Pos}
end
end D3
namespace XS
open PySem PySem.W PyProof.Rows
def dI {α:Type} (lt:Nat→Nat→Bool):KasT α→α
 | .ret a=>a
 | .ask i j k=>dI lt (k (lt i j))
def nF {α:Type} (n:Nat) (R:α→Prop):KasT α→Prop
 | .ret a=>R a
 | .ask i j k=>i < n∧j < n∧∀ b,nF n R (k b)
section
variable {α β:Type} {n:Nat} {R:α→Prop} {R':β→Prop} {lt:Nat→Nat→Bool}
theorem m9 (f:α→KasT β):∀ t:KasT α,dI lt (t.bind f)=dI lt (f (dI lt t))
 | .ret _=>rfl
 | .ask _ _ k=>m9 f (k _)
theorem m_ {f:α→KasT β} (hf:∀ a,R a→nF n R' (f a)):∀ t:KasT α,nF n R t→nF n R' (t.bind f)
 | .ret a,h=>hf a h
 | .ask _ _ k,h=>⟨h.1,h.2.1,fun b=>m_ hf (k b) (h.2.2 b)⟩
theorem Bm:∀ t:KasT α,nF n R t→R (dI lt t)
 | .ret _,h=>h
 | .ask _ _ k,h=>Bm (k _) (h.2.2 _)
theorem zm {cmp:Nat→Nat→(Bool→Shared→Prop)→Shared→Prop} {G:α→Shared→Prop} {s:Shared} (hc:∀ i j C,i < n→j < n→C (lt i j) s→cmp i j C s) :
 ∀ t:KasT α,nF n R t→G (dI lt t) s→t.kasWp cmp G s
 | .ret _,_,q=>q
 | .ask _ _ k,h,q=>hc _ _ _ h.1 h.2.1 (zm hc (k _) (h.2.2 _) q)
end
def good (n:Nat) (p:Array Nat):Prop:=p.Perm (aH n).toArray
section
variable {n:Nat} {p:Array Nat}
theorem good.mem (g:good n p) {x:Nat} (h:x ∈ p.toList):x < n:=by
 have:x ∈ (aH n):=by
  have:=(nq.mp g).mem_iff.mp h
  simpa using this
 exact aY.mp this
theorem good.get (g:good n p) (h0:0 < n) (i:Nat):p.getD i 0 < n:=by
 unfold Array.getD
 split
 ·exact g.mem (by simp)
 ·exact h0
theorem good.rev (g:good n p) (i j:Nat):good n (kas_rev p i j):=(mirror_perm _ _ _ _).trans g
theorem good.bub (g:good n p) (i j:Nat):good n (bubble p i j):=(bubble_perm _ _ _).trans g
theorem vL (h0:0 < n) (g:good n p):∀ f a,nF n (fun _=>True) (kas_asc p f a)
 | 0,a=>trivial
 | f + 1,a=>⟨g.get h0 _,g.get h0 _,fun b=>by
  cases b
  ·exact vL h0 g f (a + 1)
  ·trivial⟩
theorem rm (h0:0 < n):∀ f (p:Array Nat) a q,good n p→nF n (fun r=>good n r.1) (kas_desc f p a q)
 | 0,p,a,q,g=>g
 | f + 1,p,a,q,g=>by
  refine ⟨g.get h0 _,g.get h0 _,fun b=>?_⟩
  cases b
  ·refine ⟨g.get h0 _,g.get h0 _,fun c=>?_⟩
   cases c
   ·exact rm h0 f p (a + 1) (q + 1) g
   ·exact g
  ·show nF n _ (if q > 0 then _ else _)
   split
   ·exact rm h0 f _ _ _ (g.rev _ _)
   ·exact rm h0 f _ _ _ g
theorem vM (h0:0 < n) (g:good n p) (a m:Nat):nF n (fun r=>good n r.2) (kas_tail3 a m p):=by
 unfold kas_tail3
 refine m_ (R:=fun _=>True) (fun c _=>?_) _ (vL h0 (g.rev _ _) _ _)
 show good n (kas_rev p 0 a)
 exact g.rev _ _
theorem yu (h0:0 < n) (g:good n p) (a m:Nat):nF n (fun r=>good n r.2) (kas_descPart a m p) :=
 m_ (R:=fun r=>good n r.1) (fun r h=>by
  split
  ·exact vM h0 (good.rev h _ _) _ _
  ·exact vM h0 h _ _) _ (rm h0 _ _ _ _ g)
theorem Dp (h0:0 < n) (g:good n p) (m:Nat):nF n (fun r=>good n r.2) (kas_count m p) :=
 m_ (R:=fun _=>True) (fun a _=>by
  split
  ·exact g
  ·split
   ·refine ⟨g.get h0 _,g.get h0 _,fun b=>?_⟩
    cases b
    ·exact yu h0 (g.rev _ _) _ _
    ·exact g
   ·exact yu h0 g _ _) _ (vL h0 g _ _)
theorem rW (h0:0 < n) (g:good n p) (k:Nat):∀ f l r,nF n (fun _=>True) (kas_place p k f l r)
 | 0,l,r=>trivial
 | f + 1,l,r=>by
  unfold kas_place
  split
  ·trivial
  ·refine ⟨g.get h0 _,g.get h0 _,fun b=>?_⟩
   cases b
   ·exact rW h0 g k f _ _
   ·exact rW h0 g k f _ _
theorem Bo (h0:0 < n):∀ f (p:Array Nat) k,good n p→nF n (good n) (kas_bin f p k)
 | 0,p,k,g=>g
 | f + 1,p,k,g=>m_ (R:=fun _=>True) (fun l _=>Bo h0 f _ _ (g.bub _ _)) _ (rW h0 g k _ _ _)
theorem ud (h0:0 < n):nF n (good n) (kas_sort n) :=
 m_ (R:=fun r=>good n r.2) (fun r h=>by
  split
  ·exact Bo h0 _ _ _ h
  ·exact h) _ (Dp h0 (Array.Perm.refl _) n)
end
def mD (n:Nat) (lt:Nat→Nat→Bool):List Nat:=(dI lt (kas_sort n)).toList
theorem jc {n:Nat} (h0:0 < n) (lt:Nat→Nat→Bool):(mD n lt).Perm (aH n):=by
 have:good n (dI lt (kas_sort n)):=Bm _ (ud h0)
 have:=nq.mp this
 simpa [mD] using this
def wU (a b:Int × Int):Bool:=if a.1=b.1 then decide (a.2 < b.2) else decide (a.1 < b.1)
def ltP (qs:List (Int × Int)) (i j:Nat):Bool:=wU (qs.getD i (0,0)) (qs.getD j (0,0))
open D3
def Dq:List D→Option (List (Int × Int))
 | []=>some []
 | .tuple [.int i,.int j] :: r=>(Dq r).map ((i,j) :: ·)
 | _=>none
def vN:List D→Option D
 | [.list l]=>match jE l with
  | some _=>sV [.list l]
  | none=>(Dq l).bind fun qs=>if l.length < 64 then (if l.length=1 then some (.list l) else some (.list ((mD l.length (ltP qs)).map fun i=>l.getD i .none))) else none
 | _=>none
end XS
namespace XS
open PySem PySem.Spec PySem.W PyProof.Rows L2 My D3
theorem uf {P:Program} {w:World} {H:Hp} {h:Heap} {a:Addr} {o:HO} (x:gZ P w H h a o):∃ u,h.get? a=some u:=by
 cases o with
 | lst xs=>obtain ⟨_,_,_,_,e⟩:=x;exact ⟨_,e⟩
 | tup xs=>obtain ⟨_,_,_,u,e,_⟩:=x;exact ⟨_,e⟩
 | dK kvs=>obtain ⟨_,_,_,_,u,_,_,e,_⟩:=x;exact ⟨_,e⟩
 | dT kvs=>obtain ⟨_,_,_,_,u,_,_,e,_⟩:=x;exact ⟨_,e⟩
 | set S n=>obtain ⟨u,_,_,_,e,_⟩:=x;exact ⟨_,e⟩
 | ins C dx fs=>obtain ⟨_,_,_,e,_⟩:=x;exact ⟨_,e⟩
 | own y=>exact x
 | xd fs=>obtain ⟨_,⟨u,_,_,e,_⟩,_⟩:=x;exact ⟨_,e⟩
 | met f y=>exact ⟨_,x⟩
 | rng lo hi=>obtain ⟨_,_,_,e⟩:=x;exact ⟨_,e⟩
 | frz u v=>exact ⟨_,x.1⟩
 | tbl q p=>obtain ⟨_,e,_⟩:=x;exact ⟨_,e⟩
 | ext φ=>exact x.2.1
section
variable {X:Cx} {pins:List (Addr × Obj)} {σ:L2.St} {H:Hp} {s:Shared}
theorem Sy {h:Heap} {L:Addr} {m m':Str→Option Value} (a:h.Ns L m) (b:h.Ns L m'):m=m':=by
 obtain ⟨o,es,ep,e,d,_,f⟩:=a
 obtain ⟨o',es',ep',e',d',_,f'⟩:=b
 rw [e] at e';cases e'
 rw [d] at d';cases d'
 funext x
 rw [← f,← f']
theorem Fe {h':Heap} {m:Str→Option Value} {D:Addr} {o:HO} (I:Inv X pins σ H s) (hm:s.heap.Ns X.env.locals m) (hm':h'.Ns X.env.locals m) (k:∀ b u,b ≠ X.env.locals→s.heap.get? b=some u→h'.get? b=some u)
 (hD:s.heap.get? D=none) (new:gZ X.prog X.w (upd H D o) h' D o):Inv X pins σ (upd H D o) { s with heap:=h' }:=by
 have hn:H D=none:=by
  cases e:H D with
  | none=>rfl
  | some u =>
   obtain ⟨w,hw⟩:=uf (I.hok D u e)
   rw [hD] at hw;cases hw
 have ne:∀ {b u},H b=some u→b ≠ D:=fun e=>jh e hn
 refine I.step (g':=s.gens) (d':=s.drawn) (t':=s.toks) (ch:=[]) (fun b hb=>by cases hb) (fun b u hL _ _ e _=>k b u hL e) (fun b u hL _ _ e _=>⟨u.slots,k b u hL e⟩) (fun b u _ e n=>?_) (fun b u _ e=>?_)
  (fun b xs e=>by rw [cI (ne e)];exact e) (fun b u v e=>by rw [cI (ne e)];exact e) (fun b q p e=>by rw [cI (ne e)];exact e) (fun m2 h2=>by rw [← Sy hm h2];exact hm') (fun b u e=>?_) I.bare
 ·rw [cI (fun z=>by rw [z,hD] at e;cases e)];exact n
 ·by_cases z:b=X.env.locals
  ·obtain ⟨w,_,_,hw,_⟩:=hm'
   exact ⟨w,by rw [z];exact hw⟩
  ·exact ⟨u,k b u z e⟩
 ·by_cases z:b=D
  ·subst z
   rw [dg] at e
   cases e
   exact new
  ·rw [cI z] at e
   refine (I.hok b u e).stay (fun c w hc q=>k c w (fun y=>?_) q) (fun c q=>by rw [cI (ne q)];exact q) fun c xs q=>by rw [cI (ne q)];exact q
   rcases hc with rfl | y2
   ·rw [y,I.free] at e;cases e
   ·rw [y,I.free] at y2;cases y2
end
section
variable {prog:Program} {w:World} {A:Around} {E:Value→Shared→Prop} {s:Shared}
theorem NT {x y:Addr} {a b c d:Int} {t1 t2 t3 t4:Tok} {C:Bool→Shared→Prop} (hx:IsTup s.heap x #[.int a t1,.int b t2]) (hy:IsTup s.heap y #[.int c t3,.int d t4]) (q:C (wU (a,b) (c,d)) s) :
 wpAny (model prog w) A (keyLt' (tuples' true) (.ref x) (.ref y)) C E s:=by
 obtain ⟨ox,ex,_,nx,dx⟩:=hx
 obtain ⟨oy,ey,_,ny,dy⟩:=hy
 refine kat_lt ex dx ey dy ?_
 show KatLex prog w A true (decide (2 < 2)) C [(Value.int a t1,Value.int c t3),(Value.int b t2,Value.int d t4)] 0 s
 refine kat_cons (wpAny_eqBool_int (kat_go (fun e=>?_) fun e=>?_))
 ·refine kat_yes (kat_cons (wpAny_eqBool_int (kat_go (fun e2=>?_) fun e2=>?_)))
  ·refine kat_yes (kat_nil ?_)
   have e:=beq_iff_eq.mp e
   have e2:=beq_iff_eq.mp e2
   subst e e2
   simpa [wU] using q
  ·refine kat_no (kat_one _ _ (lt_int ?_))
   have e:=beq_iff_eq.mp e
   subst e
   simpa [wU,PySem.W.BoolBack] using q
 ·refine kat_no ?_
  have e:a ≠ c:=by
   intro z;subst z;simp at e
  have q':C (decide (a < c)) s:=by simpa [wU,e] using q
  exact oneLt_int q'
end
end XS
namespace XS
open PySem PySem.Spec PySem.W PyProof.Rows L2 My D3
def SJ (K:PySem.W.Frag) (H:Hp) (y:V) (q:Int × Int):Prop:=∃ a,y = .ref a∧SqT K H a [.int q.1,.int q.2]
abbrev Prs (K:PySem.W.Frag) (H:Hp):List V→List (Int × Int)→Prop:=Paired (SJ K H)
section
variable {X:Cx} {pins:List (Addr × Obj)} {σ:L2.St} {H:Hp} {s:Shared}
theorem zp (I:Inv X pins σ H s) {y:V} {u:Value} {q:Int × Int} (h:SJ X.K H y q) (r:RelV y u):∃ a t1 t2,u = .ref a∧IsTup s.heap a #[.int q.1 t1,.int q.2 t2]:=by
 obtain ⟨a,rfl,hq⟩:=h
 cases r
 obtain ⟨its,rr,p,_⟩:=I.tuple hq
 cases rr with
 | cons r1 rr=>cases rr with
  | cons r2 rr =>
   cases rr
   obtain ⟨t1,rfl⟩:=r1
   obtain ⟨t2,rfl⟩:=r2
   exact ⟨a,t1,t2,rfl,p⟩
theorem Fg (I:Inv X pins σ H s) {h':Heap} (k:∀ a items,IsTup s.heap a items→IsTup h' a items):∀ {ys:List V} {us:List Value} {qs:List (Int × Int)},Prs X.K H ys qs→Vals ys us→∃ fs,KatTups h' us fs∧fs.length=us.length∧∀ v ∈ fs,∃ i t,v = .int i t
 | _,_,_,.nil,.nil=>⟨[],trivial,rfl,fun _ h=>by cases h⟩
 | _,_,_,.cons p ps,.cons r rs=>by
  obtain ⟨fs,h1,h2,h3⟩:=Fg I k ps rs
  obtain ⟨a,t1,t2,rfl,ht⟩:=zp I p r
  obtain ⟨o,e,c,n,d⟩:=k _ _ ht
  refine ⟨.int _ t1 :: fs,⟨⟨a,o,_,n,rfl,e,c,d,rfl⟩,h1⟩,by simp [h2],fun v hv=>?_⟩
  rcases bF.mp hv with rfl | hv
  ·exact ⟨_,_,rfl⟩
  ·exact h3 v hv
theorem rA {ys:List V} {us:List Value} {qs:List (Int × Int)}:Prs X.K H ys qs→Vals ys us→∀ i,i < ys.length→SJ X.K H (ys.getD i .non) (qs.getD i (0,0))∧RelV (ys.getD i .non) (us.getD i .none)
 | .nil,.nil,i,h=>by cases h
 | .cons p ps,.cons r rs,0,h=>⟨p,r⟩
 | .cons p ps,.cons r rs,i + 1,h=>by
  have:=rA ps rs i (by simpa using h)
  simpa using this
theorem zq:nu X (.builtin "sorted") (fun xs H Q=>∃ (p:Addr) (ys:List V) (qs:List (Int × Int)),xs=[.ref p]∧SqL X.K H p ys∧2 ≤ ys.length∧ys.length < 64∧Prs X.K H ys qs∧∀ l,H l=none→Q (.ref l) (upd H l (.lst ((mD ys.length (ltP qs)).map fun i=>ys.getD i .non)))):=by
 intro pins s σ H xs us Q I r h
 obtain ⟨p,ys,qs,rfl,hx,h2,h64,hp,q⟩:=h
 obtain ⟨u,rfl,rx⟩:=vals1 r
 cases rx
 obtain ⟨its,rvs,pl,hz⟩:=I.list hx
 obtain ⟨m,hm,_⟩:=id I.loc
 have len:its.length=ys.length:=rvs.length.symm
 refine kat_sorted (h₀:=Att.kZ s.heap) (L:=X.env.locals) (m:=m) (Att.Cy hm) (uV (g:=Att.kZ s.heap) (h:=s.heap) (L:=X.env.locals)) pl.isList (by rw [len];exact h2) (by rw [len];exact h64) fun D e1 h' F' N' lt=>?_
 have kept:∀ {h'':Heap} {nw:List (Addr × Obj)},News (Att.kZ s.heap) X.env.locals h'' nw→(∀ y ∈ mW (Att.kZ s.heap) s.heap X.env.locals,y ∈ nw)→∀ b o,b ≠ X.env.locals→s.heap.get? b=some o→h''.get? b=some o:=fun N hs b o hb e=>(N (b,o) (hs _ (qg hb (Att.pq _ _) e))).1
 have kt:∀ a items,IsTup s.heap a items→IsTup h' a items:=fun a items ⟨o,e,c,n,d⟩=>⟨o,kept N' (fun y hy=>aO _ hy) a o (fun z=>by
  obtain ⟨o2,es,ep,e2,d2,_⟩:=hm
  rw [z,e2] at e;cases e
  rw [d2] at d;cases d) e,c,n,d⟩
 obtain ⟨fs,f1,f2,f3⟩:=Fg I kt hp rvs
 refine kat_kind (T:=.type "int") f1 (by rw [f2,len];omega) (fun v hv=>?_) rfl ?_
 ·obtain ⟨i,t,rfl⟩:=f3 v hv
  exact fun A Q E s _ q=>wpAny_pure q
 have e64:its.length < 64:=by rw [len];exact h64
 refine zm (n:=its.length) (lt:=ltP qs) (R:=good its.length) (fun i j C hi hj hc=>?_) _ (ud (by rw [len];omega)) ?_
 ·obtain ⟨p1,r1⟩:=rA hp rvs i (by rw [← len];exact hi)
  obtain ⟨p2,r2⟩:=rA hp rvs j (by rw [← len];exact hj)
  obtain ⟨a1,t1,t2,x1,y1⟩:=zp I p1 r1
  obtain ⟨a2,t3,t4,x2,y2⟩:=zp I p2 r2
  unfold kas_ask
  rw [x1,x2]
  exact NT (kt _ _ y1) (kt _ _ y2) hc
 ·refine KasFin.intro F' N' (.head fun y hy=>bO (lt y hy)) fun h2 c F2 N2=>?_
  have hD:s.heap.get? D=none:=by
   cases e:s.heap.get? D with
   | none=>rfl
   | some o =>
    by_cases z:D=X.env.locals
    ·exact absurd z (N' _ (aM ..)).2.1
    ·exact absurd (lt (D,o) (qg z (Att.pq _ _) e)) (fU _)
  have hn:H D=none:=by
   cases e:H D with
   | none=>rfl
   | some u =>
    obtain ⟨w,hw⟩:=uf (I.hok D u e)
    rw [hD] at hw;cases hw
  have pm:=jc (n:=ys.length) (by omega) (ltP qs)
  have hv:∀ l:List Nat,(∀ i ∈ l,i < ys.length)→Vals (l.map fun i=>ys.getD i .non) (l.map fun i=>its.getD i .none):=fun l hl=>by
   induction l with
   | nil=>exact .nil
   | cons i l ih=>exact .cons (rA hp rvs i (hl i aM)).2 (ih fun j hj=>hl j (aO _ hj))
  have o1:((dI (ltP qs) (kas_sort its.length)).toList)=mD ys.length (ltP qs):=by rw [len];rfl
  have new:gZ X.prog X.w (upd H D (.lst ((mD ys.length (ltP qs)).map fun i=>ys.getD i .non))) h2 D (.lst ((mD ys.length (ltP qs)).map fun i=>ys.getD i .non)):=by
   refine ⟨by rw [aG,pm.length_eq,bB];exact bM (fV h64) (by decide),_,c,hv _ fun i hi=>aY.mp (pm.mem_iff.mp hi),?_⟩
   have:=(N2 _ (aM ..)).1
   rw [← o1]
   exact this
  exact ⟨.ref D,_,Fe (s:=s) (h':=h2) I hm F2.ns (kept N2 fun y hy=>aO _ hy) hD new,rfl,q D hn⟩
end
end XS
namespace XS
open PySem PySem.Spec PySem.W PyProof.Rows L2 My D3
section
variable {prog:Program} {w:World} {A:Around} {E:Value→Shared→Prop} {s:Shared}
theorem JL {a:Addr} {v:Value} {n:Nat} {P:PySem.Fin→Shared→Prop} (ho:s.heap.get? a=some (seqObj "list" #[v] n))
 (h:∀ h' c,(∀ b u,b ≠ a→s.heap.get? b=some u→h'.get? b=some u)→h'.get? a=some (seqObj "list" #[v] c)→P (.done (.ret .none)) { s with heap:=h' }) :
 wpAny (model prog w) A (Builtin.«list.sort» ⟨[.ref a],[]⟩) P E s:=by
 obtain ⟨g1,e1⟩:∃ g1,g1=s.heap.update a (Obj.mapSeq fun _=>(#[]:Array Value)):=⟨_,rfl⟩
 obtain ⟨c1,h1⟩:∃ c,g1.get? a=some (seqObj "list" #[] c):=⟨_,by rw [e1];exact get?_update_seq ho fun _=>#[]⟩
 have k1:∀ b u,b ≠ a→s.heap.get? b=some u→g1.get? b=some u:=fun b u z q=>by rw [e1];exact (Heap.get?_update_ne _ _ _ _ z).trans q
 rw [list_sort_plain]
 refine wpAny_bind (listItems_at ho rfl ?_)
 refine wpAny_bind (listUpdate_at ho rfl ?_ (show 1 ≤ sizeLine by decide) (eY _))
 rw [← e1]
 refine wpAny_bind (seqEpoch_at h1 rfl ?_)
 refine wpAny_bind (wpAny_newTuple ?_ (show 1 ≤ sizeLine by decide))
 refine wpAny_bind (wpAny_newList ?_ (eY _))
 refine wpAny_holding ?_
 obtain ⟨g2,e2⟩:∃ g2,g2=(g1.push (seqObj "tuple" #[v] 0)).push (seqObj "list" #[] 0):=⟨_,rfl⟩
 show wpAny (model prog w) A _ P E { s with heap:=(g1.push (seqObj "tuple" #[v] 0)).push (seqObj "list" #[] 0) }
 rw [← e2]
 have h2:g2.get? a=some (seqObj "list" #[] c1):=by rw [e2];exact Heap.get?_push_of_some _ (Heap.get?_push_of_some _ h1)
 have k2:∀ b u,b ≠ a→s.heap.get? b=some u→g2.get? b=some u:=fun b u z q=>by rw [e2];exact Heap.get?_push_of_some _ (Heap.get?_push_of_some _ (k1 b u z q))
 have two:(#[v]:Array Value).size < 2:=oH 1
 have srt:(arrOf (SortSt.mk' general' ((#[v]:Array Value).zip #[v]) #[] 7 none)).map (·.2) = #[v]:=by
  show ((#[v]:Array Value).zip #[v]).map (·.2) = #[v]
  simp
 dsimp only
 rw [if_pos two,if_pos two]
 refine wpAny_bind (wpAny_pure ?_)
 refine wpAny_bind (wpAny_pure ?_)
 dsimp only
 rw [srt]
 refine wpAny_bind (seqEpoch_at h2 rfl ?_)
 refine wpAny_bind (listUpdate_at h2 rfl ?_ (eY _) (show 1 ≤ sizeLine + 1 by decide))
 show wpAny _ _ (if (c1 != c1)=true then _ else ret Value.none) P E _
 rw [if_neg (by simp)]
 refine wpAny_pure (h _ _ (fun b u z q=>(Heap.get?_update_ne _ _ _ _ z).trans (k2 b u z q)) (get?_update_seq h2 _))
end
section
variable {X:Cx}
theorem zu:nu X (.builtin "sorted") (fun xs H Q=>∃ (p:Addr) (y:V),xs=[.ref p]∧SqL X.K H p [y]∧∀ l,H l=none→Q (.ref l) (upd H l (.lst [y]))):=by
 intro pins s σ H xs us Q I r h
 obtain ⟨p,y,rfl,hx,q⟩:=h
 obtain ⟨u,rfl,rx⟩:=vals1 r
 cases rx
 obtain ⟨its,rvs,pl,hz⟩:=I.list hx
 obtain ⟨v,rfl,rv⟩:∃ v,its=[v]∧RelV y v:=by
  cases rvs with
  | cons a b=>cases b;exact ⟨_,rfl,a⟩
 refine Calls.call_function_entry kind_sorted plain_sorted entry_sorted (args_sorted1 _) ?_
 unfold Builtin.«sorted»
 refine wpAny_bind (m:=checkCount "sorted" 1 1 _) (wpAny_pure ?_)
 refine wpAny_bind (collect_list (vs:=[v]) pl.isList ?_ (show 1 ≤ sizeLine by decide))
 refine wpAny_bind (wpAny_newList ?_ (show 1 ≤ sizeLine by decide))
 obtain ⟨g,eg⟩:∃ g,g=(s.heap.push (seqObj "list" #[] 0)).update s.heap.objs.size (Obj.mapSeq (·++[v].toArray)):=⟨_,rfl⟩
 show wpAny _ _ _ _ _ { s with heap:=((s.heap.push (seqObj "list" #[] 0)).update s.heap.objs.size (Obj.mapSeq (·++[v].toArray))).push (seqObj "list" [v].toArray 0) }
 rw [← eg]
 have sz:g.objs.size=s.heap.objs.size + 1:=by rw [eg,Heap.size_update,size_push']
 have old:∀ b o,s.heap.get? b=some o→g.get? b=some o:=fun b o e=>by
  have lt:=Heap.lt_size e
  rw [eg,Heap.get?_update_ne _ _ _ _ (bO lt)]
  exact Heap.get?_push_of_some _ e
 have at':(g.push (seqObj "list" [v].toArray 0)).get? g.objs.size=some (seqObj "list" #[v] 0):=Heap.get?_push_size _ rfl
 refine wpAny_bind (wpAny_holding (wpAny_call_entry slot_list_sort ⟨_,at',rfl⟩ entry_list_sort (JL at' fun h' c k e=>⟨_,rfl,?_⟩) (args_list_sort _)))
 refine wpAny_pure ⟨_,rfl,?_⟩
 have hn:H g.objs.size=none:=I.hok.fresh (by rw [sz];exact lZ _)
 have I2:=I.laid (h':=h') (t':=s.toks) (a:=g.objs.size) (o:=.lst [y]) (fun b o q=>k b o (fun z=>by
  have lt:b < s.heap.objs.size:=Heap.lt_size q
  have z:b=s.heap.objs.size + 1:=z.trans sz
  rw [z] at lt
  exact absurd lt (Nat.not_lt.mpr (lZ _))) (Heap.get?_push_of_some _ (old b o q))) (by rw [sz];exact lZ _) ⟨show 1 ≤ sizeLine by decide,[v],c,.cons rv .nil,e⟩
 exact ⟨.ref _,_,I2,rfl,q _ hn⟩
end
end XS
namespace XS
open PySem PySem.Spec PySem.W PyProof.Rows L2 My D3
section
variable {K:PySem.W.Frag} {H:Hp}
theorem Dr:∀ {l:List D} {qs:List (Int × Int)} {ys:List V},Dq l=some qs→RAs K ok1 true H ys l→Prs K H ys qs∧l=qs.map fun q=>.tuple [.int q.1,.int q.2]
 | [],qs,ys,e,r=>by
  cases e;cases r;exact ⟨.nil,rfl⟩
 | d :: l,qs,ys,e,r=>by
  cases r with
  | cons r1 r2 =>
   unfold Dq at e
   split at e
   ·next h=>cases h
   ·next i j t h =>
    cases h
    cases e3:Dq l with
    | none=>rw [e3] at e;cases e
    | some q2 =>
     rw [e3] at e
     cases e
     obtain ⟨p,el⟩:=Dr e3 r2
     obtain ⟨a,xs,rfl,hs,hr⟩:=r1.tupE
     cases hr with
     | cons h1 hr=>cases hr with
      | cons h2 hr =>
       cases hr
       obtain rfl:=h1.intE
       obtain rfl:=h2.intE
       exact ⟨.cons ⟨a,rfl,hs⟩ p,by rw [bJ,← el]⟩
   ·cases e
theorem Bp (qs:List (Int × Int)):flats (qs.map fun q=>(.tuple [.int q.1,.int q.2]:D))=true:=by
 induction qs with
 | nil=>rfl
 | cons q qs ih=>simp [flats,flat,ih]
theorem vO:∀ {l:List D},flats l=true→∀ i,flat (l.getD i .none)=true
 | [],_,i=>by simp [flat]
 | d :: l,h,0=>by rw [flats,aL] at h;exact h.1
 | d :: l,h,i + 1=>by
  rw [flats,aL] at h
  simpa using vO h.2 i
theorem zy:∀ {ys:List V} {l:List D} {ok:Ok} {pl:Bool},RAs K ok pl H ys l→∀ i,RA K ok pl H (ys.getD i .non) (l.getD i .none)
 | _,_,_,_,.nil,i=>by simp;exact .non
 | _,_,_,_,.cons a b,0=>a
 | _,_,_,_,.cons a b,i + 1=>by simpa using zy b i
end
theorem JM {X:Cx} {fl:List Fl} {e:Expr} {fa:FA} {p pos:Pos} (ha:DB X fl .P [e] fa) (hg:Gl X "sorted") (hm:X.mg "sorted" = none)
 (he:starEach [e] X.env=(false,eval e X.env) :: starEach [] X.env:=by rfl) (hpl:(backTo pos (starEach [] X.env)).any (·.1)=false:=by rfl):DE X fl .FC (.Call (.Name "sorted" p) [e] [] pos) (dCall vN fa):=by
 have bs:bootBuiltins "sorted" = some (.builtin "sorted"):=by decide +kernel
 intro pins s σ H Q I h
 obtain ⟨G,ow,δ,d,R,hf,q⟩:=h
 obtain ⟨ds,e1,e2⟩:=bind1 hf
 unfold vN at e2
 split at e2
 ·next l =>
  split at e2
  ·next ns e3=>exact t_ ha hg hm he hpl pins s σ H Q I ⟨G,ow,δ,d,R,by unfold dCall;rw [e1];exact e2,q⟩
  ·next e3 =>
   obtain ⟨qs,e4,e5⟩:=bind1 e2
   by_cases h64:l.length < 64
   ·rw [if_pos h64] at e5
    by_cases h1:l.length=1
    ·rw [if_pos h1] at e5
     cases e5
     refine oN zu hg hm bs ha (by decide) (by decide) he hpl pins s σ H Q I ⟨G,ow,δ,_,R,e1,fun vs H' sm r'=>?_⟩
     cases r' with
     | cons r1 r2 =>
      cases r2
      obtain ⟨a,ys,rfl,hx,hr⟩:=r1.lstE
      obtain ⟨hp,hl⟩:=Dr e4 hr
      obtain ⟨y,rfl⟩:∃ y,ys=[y]:=by
       have:=hr.length
       rw [h1] at this
       exact List.length_eq_one_iff.mp this
      refine ⟨a,y,rfl,hx,fun l0 hn=>q _ _ (sm.trans (dW hn _)) (.inr ⟨_,_,_,rfl,rfl,sm.free hn,dg,?_⟩)⟩
      exact RAs.flat (by rw [hl];exact Bp qs) (hr.same (dW hn _))
    ·rw [if_neg h1] at e5
     cases e5
     refine oN zq hg hm bs ha (by decide) (by decide) he hpl pins s σ H Q I ⟨G,ow,δ,_,R,e1,fun vs H' sm r'=>?_⟩
     cases r' with
     | cons r1 r2 =>
      cases r2
      obtain ⟨a,ys,rfl,hx,hr⟩:=r1.lstE
      obtain ⟨hp,hl⟩:=Dr e4 hr
      have el:ys.length=l.length:=hr.length
      have h2:2 ≤ ys.length:=by
       rcases fW ys.length 2 with z | z
       ·have:l.length=0:=by omega
        have:=oJ.mp this
        subst this
        cases e3
       ·exact z
      refine ⟨a,ys,qs,rfl,hx,h2,by omega,hp,fun l0 hn=>q _ _ (sm.trans (dW hn _)) (.inr ⟨_,_,_,rfl,rfl,sm.free hn,dg,?_⟩)⟩
      rw [el]
      have fl0:flats l=true:=by rw [hl];exact Bp qs
      have hr2:=hr.same (dW hn (.lst ((mD l.length (ltP qs)).map fun i=>ys.getD i .non)))
      generalize mD l.length (ltP qs)=is at hr2 ⊢
      clear e3 e4 hx h2 hp hl e1 hf
      have:∀ (is:List Nat) (H2:Hp),RAs X.K ok1 true H2 ys l→RAs X.K (fun b=>okN H b∧b ≠ l0) false H2 (is.map fun i=>ys.getD i .non) (is.map fun i=>l.getD i .none):=fun is H2 hr=>by
       induction is with
       | nil=>exact .nil
       | cons i is ih=>exact .cons (RA.flat (vO fl0 i) (zy hr i)) ih
      exact this is _ hr2
   ·rw [if_neg h64] at e5;cases e5
 ·cases e2
end XS
namespace XS
open PySem PySem.Spec PySem.W PyProof.Rows
section
variable {prog:Program} {w:World} {A:Around} {E:Value→Shared→Prop} {s:Shared}
structure PL (h:Heap) (D I l:Addr) (its:Array Value) (vs:List (L2.Key × Value)) (i:Nat):Prop where
 iter:h.IsListIter I l i
 lst:h.IsList l its
 prs:∀ (j:Nat) (u:Value),its[j]? = some u→∃ (a:Addr) (n:Int) (t:Tok) (v:Value),u=Value.ref a∧IsTup h a #[Value.int n t,v]∧vs[j]? = some (Sum.inl n,v)∧a ≠ D∧a ≠ I
 ne:l ≠ D∧l ≠ I∧D ≠ I
end
end XS
namespace XS
open PySem PySem.Spec PySem.W PyProof.Rows
section
variable {prog:Program} {w:World} {A:Around} {E:Value→Shared→Prop} {s:Shared}
end
end XS
namespace XS
open PySem PySem.Spec PySem.W PyProof.Rows L2 My D3
section
variable {X:Cx} {pins:List (Addr × Obj)} {σ:L2.St} {H:Hp} {s:Shared}
end
end XS
namespace XS
open PySem PySem.Spec PySem.W PyProof.Rows L2 My D3
section
variable {X:Cx} {fl:List Fl} {a:Expr} {f:FE} {pos:Pos} {ta:TE}
end
end XS
namespace D3
open PySem
def Ys:D→Option (List (Int × Int))
 | .dict kvs=>iiD kvs
 | _=>none
end D3
namespace D3
open PySem
end D3
namespace D3
open PySem
end D3
namespace D3
open PySem
def NZ:D→Option Nat
 | .list l=>some l.length
 | _=>none
def ndT:D→Bool
 | .tuple ds=>ds.all fl1 && decide ((ds.filterMap NZ).Nodup)
 | _=>false
def dNd (fa:FE):FE:=fun δ=>(fa δ).bind fun d=>if ndT d=true then some d else none
end D3
namespace D3
open PySem
end D3
namespace D3
open PySem
def GX (i j:Nat):FS:=fun δ=>if i < δ.length then (aD j δ).bind fun d=>some (.nx ((δ.set j none).set i (some (.d d)))) else none
end D3
namespace D3
open PySem
def dsB (S:List Int):D:=.dict (S.map fun i=>(.int i,.bool true))
def bsD:List (D × D)→Option (List Int)
 | []=>some []
 | (.int i,.bool true) :: r=>(bsD r).map (i :: ·)
 | _=>none
def GZ:D→Option (List Int)
 | .dict kvs=>bsD kvs
 | _=>none
def wV:D→D→Option D:=fun y x=>(GZ x).bind fun S=>match y with
 | .int i=>some (.bool (decide (i ∈ S)))
 | .none=>some (.bool false)
 | _=>none
def vQ (S:List Int) (i:Int):List Int:=if i ∈ S then S else S++[i]
def Bq (i:Nat) (fk:FE):FS:=fun δ=>(aD i δ).bind fun x=>(fk δ).bind fun y=>(GZ x).bind fun S=>match y with
 | .int k=>if S.length < 1000000 then some (.nx (δ.set i (some (.d (dsB (vQ S k)))))) else none
 | _=>none
theorem Fi:∀ S:List Int,bsD (S.map fun i=>((.int i,.bool true):D × D))=some S
 | []=>rfl
 | i :: S=>by
  rw [bJ,bsD,Fi S]
  rfl
theorem zA (S:List Int):GZ (dsB S)=some S:=Fi S
end D3
namespace D3
open PySem
def scD:List D→Bool
 | []=>true
 | .int _ :: r=>scD r
 | .none :: r=>scD r
 | _=>false
def tvD:D→Bool
 | .none=>true
 | .tuple ds=>scD ds
 | _=>false
def G3:List (D × D)→Option (List (Int × D))
 | []=>some []
 | (.int i,d) :: r=>if tvD d=true then (G3 r).map ((i,d) :: ·) else none
 | _=>none
def uG:D→Option (List (Int × D))
 | .dict kvs=>G3 kvs
 | _=>none
def tvP (S:List (Int × D)):List (D × D):=S.map fun q=>(.int q.1,q.2)
def dtv (S:List (Int × D)):D:=.dict (tvP S)
def eE (S:List (Int × D)) (i:Int):Option D:=(S.find? fun q=>decide (q.1=i)).map (·.2)
def Br:D→D→Option D:=fun y x=>(uG x).bind fun S=>match y with
 | .int i=>some (.bool (eE S i).isSome)
 | _=>none
def tu:D→D→Option D:=fun y x=>(uG x).bind fun S=>match y with
 | .int i=>some (.bool (!(eE S i).isSome))
 | _=>none
def pL:D→D→Option D:=fun x y=>(uG x).bind fun S=>match y with
 | .int i=>eE S i
 | _=>none
def vR (fk:FE):FE:=fun δ=>(fk δ).bind fun y=>match y with
 | .int i=>some (dtv [(i,.none)])
 | _=>none
def nT (S:List (Int × D)) (k:Int) (d:D):List (Int × D):=if (eE S k).isSome=true then S else S++[(k,d)]
def vU (i:Nat) (fk fv:FE):FS:=fun δ=>(aD i δ).bind fun x=>(fk δ).bind fun y=>(fv δ).bind fun z=>(uG x).bind fun S=>match y with
 | .int k=>if tvD z=true∧S.length < 1000000 then some (.nx (δ.set i (some (.d (dtv (nT S k z)))))) else none
 | _=>none
def tvA (S:List (Int × D)):Bool:=S.all fun q=>tvD q.2
theorem rB:∀ {S:List (Int × D)},tvA S=true→uG (dtv S)=some S
 | [],_=>rfl
 | q :: S,h=>by
  rw [tvA,lN,aL] at h
  have ih:=rB (S:=S) h.2
  unfold uG dtv tvP at ih
  unfold uG dtv tvP
  dsimp only at ih
  rw [bJ]
  dsimp only
  rw [G3,if_pos h.1,ih]
  rfl
theorem tE:∀ {kvs:List (D × D)} {S:List (Int × D)},G3 kvs=some S→tvA S=true∧kvs=tvP S
 | [],S,h=>by cases h;exact ⟨rfl,rfl⟩
 | (a,b) :: r,S,h=>by
  unfold G3 at h
  split at h
  ·next e=>cases e
  ·next e =>
   cases e
   split at h
   ·next hd =>
    cases e3:G3 r with
    | none=>rw [e3] at h;cases h
    | some S' =>
     rw [e3] at h
     cases h
     obtain ⟨h1,h2⟩:=tE e3
     refine ⟨?_,?_⟩
     ·rw [tvA,lN,aL]
      exact ⟨hd,h1⟩
     ·rw [h2]
      rfl
   ·cases h
  ·cases h
theorem N5 {S:List (Int × D)} {k:Int} {d:D} (h:tvA S=true) (hd:tvD d=true):tvA (nT S k d)=true:=by
 unfold nT
 split
 ·exact h
 ·unfold tvA at h ⊢
  rw [List.all_append,h]
  simp [hd]
end D3
namespace D3
open PySem
def tG:List D→Option D
 | [x]=>(uG x).bind fun S=>if S.length < 64 then some (.list ((oO (S.map (·.1))).map .int)) else none
 | _=>none
end D3
namespace D3
open PySem
def isTup:D→Bool
 | .tuple _=>true
 | _=>false
def apart (l m:List D):Bool:=decide (l.length ≠ m.length) || match l,m with
 | a :: _,b :: _=>!isTup a && isTup b
 | _,_=>false
mutual
def apD (m:List D):D→Bool
 | .list l=>apart l m && wW m l
 | .tuple l=>wW m l
 | .none=>true
 | .bool _=>true
 | .int _=>true
 | .str _=>true
 | .dict _=>true
def wW (m:List D):List D→Bool
 | []=>true
 | x :: r=>apD m x && wW m r
end
def apS (d:D):Option (Option U)→Bool
 | some (some (.d (.list m)))=>apD m d
 | _=>true
def noS:Option (Option U)→Bool
 | some (some (.d _))=>false
 | _=>true
def Bt (os ns:List Nat) (i:Nat) (fe:FE):FS:=fun δ=>if i < δ.length then (fe δ).bind fun d=>if ((os.all fun j=>apS d δ[j]?) && ns.all fun j=>noS δ[j]?)=true then some (.nx (δ.set i (some (.d d)))) else none else none
end D3
namespace L2
open PySem PySem.Spec PyProof.Rows
section
variable {κ:Type} [DecidableEq κ]
def m6 (kvs:List (κ × V)) (k:κ):Option V:=(kvs.find? fun kv=>decide (kv.1=k)).map (·.2)
def putK (kvs:List (κ × V)) (k:κ) (v:V):List (κ × V) :=
 if (kvs.any fun kv=>decide (kv.1=k))=true then kvs.map (fun kv=>if kv.1=k then (kv.1,v) else kv) else kvs++[(k,v)]
theorem qz {p:κ × V} {r:List (κ × V)} {k:κ} (e:p.1=k):m6 (p :: r) k=some p.2:=by simp [m6,gH,e]
theorem qH {p:κ × V} {r:List (κ × V)} {k:κ} (e:¬ p.1=k):m6 (p :: r) k=m6 r k:=by simp [m6,gH,e]
theorem vV (k:κ):∀ kvs:List (κ × V),(kvs.any fun kv=>decide (kv.1=k))=(m6 kvs k).isSome
 | []=>rfl
 | p :: r=>by
  rw [lO]
  by_cases e:p.1=k
  ·simp only [qz e,dTr e,Bool.true_or,Option.isSome_some]
  ·rw [qH e,dFa e,Bool.false_or];exact vV k r
theorem qJ (kvs:List (κ × V)) (k:κ) (v:V):(putK kvs k v).length ≤ kvs.length + 1:=by
 unfold putK
 split
 ·rw [aG];omega
 ·rw [bH,bQ,jo];omega
theorem JN {kvs:List (κ × V)} {k:κ} (v:V) (h:m6 kvs k=none):putK kvs k v=kvs++[(k,v)]:=by
 unfold putK
 rw [vV,h]
 exact if_neg (by decide)
theorem tM.isSome_eq {o:Option V} {u:Option Value} (r:tM o u):o.isSome=u.isSome:=by
 cases o with
 | none=>cases u with
  | none=>rfl
  | some _=>exact (show False from r).elim
 | some _=>cases u with
  | none=>exact (show False from r).elim
  | some _=>rfl
theorem tM.getD {o:Option V} {u:Option Value} {d:V} {d':Value} (r:tM o u) (rd:RelV d d'):RelV (o.getD d) (u.getD d'):=by
 cases o with
 | none=>cases u with
  | none=>exact rd
  | some _=>exact (show False from r).elim
 | some _=>cases u with
  | none=>exact (show False from r).elim
  | some _=>exact r
theorem KV.val {kvs:List (κ × V)} {vs:List (κ × Value)} (r:KV kvs vs) (k:κ):tM (m6 kvs k) (valueAt vs k):=by
 unfold KV at r
 induction r with
 | nil=>exact True.intro
 | @cons p q ps qs h t ih =>
  obtain ⟨h1,h2⟩:=h
  by_cases e:p.1=k
  ·have e':q.1=k:=h1.symm.trans e
   have b:valueAt (q :: qs) k=some q.2:=by simp [valueAt,gH,e']
   rw [qz e,b];exact h2
  ·have e':¬ q.1=k:=fun z=>e (h1.trans z)
   have b:valueAt (q :: qs) k=valueAt qs k:=by simp [valueAt,gH,e']
   rw [qH e,b];exact ih
theorem KV.any {kvs:List (κ × V)} {vs:List (κ × Value)} (r:KV kvs vs) (k:κ):(kvs.any fun kv=>decide (kv.1=k))=vs.any fun kv=>decide (kv.1=k):=by
 unfold KV at r
 induction r with
 | nil=>rfl
 | cons h t ih=>rw [lO,lO,ih,h.1]
theorem KV.repl {kvs:List (κ × V)} {vs:List (κ × Value)} (r:KV kvs vs) (k:κ) {y:V} {u:Value} (ry:RelV y u) :
 KV (kvs.map fun kv=>if kv.1=k then (kv.1,y) else kv) (vs.map fun kv=>if kv.1=k then (kv.1,u) else kv):=by
 unfold KV at r ⊢
 induction r with
 | nil=>exact .nil
 | @cons p q ps qs h t ih =>
  rw [bJ,bJ]
  refine .cons ?_ ih
  obtain ⟨h1,h2⟩:=h
  by_cases e:p.1=k
  ·rw [if_pos e,if_pos (h1.symm.trans e)];exact ⟨h1,ry⟩
  ·rw [if_neg e,if_neg (fun z=>e (h1.trans z))];exact ⟨h1,h2⟩
theorem KV.put {kvs:List (κ × V)} {vs:List (κ × Value)} (r:KV kvs vs) (k:κ) {y:V} {u:Value} (ry:RelV y u):KV (putK kvs k y) (stored vs k u):=by
 unfold putK stored
 rw [r.any k]
 by_cases e:(vs.any fun kv=>decide (kv.1=k))=true
 ·rw [if_pos e,if_pos e];exact r.repl k ry
 ·rw [if_neg e,if_neg e];exact Paired.snoc r ⟨rfl,ry⟩
theorem KV.keys {kvs:List (κ × V)} {vs:List (κ × Value)} (r:KV kvs vs):kvs.map (·.1)=vs.map (·.1):=by
 unfold KV at r
 induction r with
 | nil=>rfl
 | cons h t ih=>rw [bJ,bJ,ih,h.1]
theorem KV.length {kvs:List (κ × V)} {vs:List (κ × Value)} (r:KV kvs vs):kvs.length=vs.length:=Paired.length r
end
theorem vW {P:Program} {w:World} {k:Key} {u:Value} (r:RelV (kV k) u):(fH P w).is k u=true:=by
 cases k with
 | inl i=>obtain ⟨t,e⟩:=(show ∃ t,u=Value.int i t from r);subst e;exact Af P w i t
 | inr x=>obtain ⟨t,e⟩:=(show ∃ t,u=Value.str x t from r);subst e;exact Ag P w x t
theorem yw {P:Program} {w:World}:∀ {ks:List Key} {us:List Value},Vals (ks.map kV) us→ItemsAre (fH P w) ks us
 | [],_,r=>by rw [kJ] at r;cases r;exact .nil
 | k :: ks,_,r=>by
  rw [bJ] at r
  cases r with
  | cons h t=>exact .cons (vW h) (yw t)
abbrev KT (H:Hp):List (List Key × V)→List (List Key × Addr × Value)→Prop:=Paired fun p q=>p.1=q.1∧H q.2.1=some (.tup (p.1.map kV))∧RelV p.2 q.2.2
theorem KT.val {H:Hp} {kvs:List (List Key × V)} {xs:List (List Key × Addr × Value)} (r:KT H kvs xs) (k:List Key):tM (m6 kvs k) ((atKey xs k).map (·.2)):=by
 induction r with
 | nil=>exact True.intro
 | @cons p q ps qs h t ih =>
  obtain ⟨h1,_,h2⟩:=h
  by_cases e:p.1=k
  ·have e':q.1=k:=h1.symm.trans e
   have b:atKey (q :: qs) k=some q.2:=by simp [atKey,gH,e']
   rw [qz e,b];exact h2
  ·have e':¬ q.1=k:=fun z=>e (h1.trans z)
   have b:atKey (q :: qs) k=atKey qs k:=by simp [atKey,gH,e']
   rw [qH e,b];exact ih
theorem KT.repl {H:Hp} {kvs:List (List Key × V)} {xs:List (List Key × Addr × Value)} (r:KT H kvs xs) (k:List Key) {y:V} {u:Value} (ry:RelV y u) :
 KT H (kvs.map fun kv=>if kv.1=k then (kv.1,y) else kv) (xs.map (putAt k u)):=by
 induction r with
 | nil=>exact .nil
 | @cons p q ps qs h t ih =>
  rw [bJ,bJ]
  refine .cons ?_ ih
  obtain ⟨h1,h2,h3⟩:=h
  unfold putAt
  by_cases e:p.1=k
  ·rw [if_pos e,if_pos (h1.symm.trans e)];exact ⟨h1,h2,ry⟩
  ·rw [if_neg e,if_neg (fun z=>e (h1.trans z))];exact ⟨h1,h2,h3⟩
theorem KT.put {H:Hp} {kvs:List (List Key × V)} {xs:List (List Key × Addr × Value)} (r:KT H kvs xs) (k:List Key) {b:Addr} {y:V} {u:Value} (hb:H b=some (.tup (k.map kV))) (ry:RelV y u) :
 KT H (putK kvs k y) (storedH xs k b u):=by
 have e:(kvs.any fun kv=>decide (kv.1=k))=(atKey xs k).isSome:=by
  rw [vV,(r.val k).isSome_eq,kW]
 unfold putK storedH
 rw [e]
 by_cases q:(atKey xs k).isSome=true
 ·rw [if_pos q,if_pos q];exact r.repl k ry
 ·rw [if_neg q,if_neg q];exact Paired.snoc r ⟨rfl,hb,ry⟩
theorem KT.keeps {H H':Hp} {kvs:List (List Key × V)} {xs:List (List Key × Addr × Value)} (r:KT H kvs xs) (ht:∀ b ys,H b=some (.tup ys)→H' b=some (.tup ys)):KT H' kvs xs :=
 Paired.mapP r fun _ _ z=>⟨z.1,ht _ _ z.2.1,z.2.2⟩
section
variable {P:Program} {w:World} {H:Hp} {h:Heap} {a:Addr}
theorem QM {u:HO} (ok:HOk P w H h) (e:Rd H a u):gZ P w H h a u:=e.ok ok
theorem uw {kvs:List (Key × V)} (ok:HOk P w H h) (e:Rd H a (.dK kvs)):kvs.length ≤ sizeLine∧(a == sysModules)=false∧∃ vs,KV kvs vs∧h.DictOf (fH P w) a vs :=
 show gZ P w H h a (.dK kvs) from QM ok e
theorem JQ {kvs:List (Key × V)} (ok:HOk P w H h) (e:H a=some (.dK kvs)):kvs.length ≤ sizeLine∧(a == sysModules)=false∧∃ vs,KV kvs vs∧h.DictOf (fH P w) a vs:=uw ok (.inl e)
theorem vX {ks:List Key} (ok:HOk P w H h) (e:H a=some (.tup (ks.map kV))):(tupleKind (fH P w)).is h ks a:=by
 obtain ⟨_,its,r,o,h1,h2,n,h3⟩:=(show gZ P w H h a (.tup (ks.map kV)) from ok a _ e)
 exact ⟨o,its.toArray,n,h1,h2,h3,by simpa using yw r⟩
theorem yx {kvs:List (List Key × V)} (ok:HOk P w H h) (e:Rd H a (.dT kvs)):kvs.length ≤ sizeLine∧(a == sysModules)=false ∧
 ∃ xs,KT H kvs xs∧h.DictOfH (tupleKind (fH P w)) a xs:=by
 obtain ⟨z,y,xs,r,o,es,ep,h1,h2,h3,h4,h5⟩:=(show gZ P w H h a (.dT kvs) from QM ok e)
 refine ⟨z,y,xs,r,o,es,ep,h1,h2,h3,h4,fun x hx=>?_,h5⟩
 have all:∀ {l:List (List Key × V)} {m:List (List Key × Addr × Value)},KT H l m→∀ x ∈ m,(tupleKind (fH P w)).is h x.1 x.2.1:=by
  intro l m q
  induction q with
  | nil=>intro x hx;exact nomatch hx
  | @cons p q ps qs hq t ih =>
   intro x hx
   rcases bF.mp hx with e | hx
   ·subst e
    exact vX ok (by rw [← hq.1];exact hq.2.1)
   ·exact ih x hx
 exact all r x hx
theorem VL {kvs:List (List Key × V)} (ok:HOk P w H h) (e:H a=some (.dT kvs)):kvs.length ≤ sizeLine∧(a == sysModules)=false ∧
 ∃ xs,KT H kvs xs∧h.DictOfH (tupleKind (fH P w)) a xs:=yx ok (.inl e)
end
def wX (H:Hp) (a:Addr) (y:V) (r:Option V):Prop :=
 (∃ kvs k,Rd H a (.dK kvs)∧y=kV k∧r=m6 kvs k)∨∃ kvs k b,Rd H a (.dT kvs)∧y = .ref b∧H b=some (.tup (k.map kV))∧r=m6 kvs k
def G4 (H:Hp) (a:Addr) (y v:V) (H':Hp):Prop :=
 (∃ kvs k,H a=some (.dK kvs)∧y=kV k∧kvs.length < sizeLine∧H'=upd H a (.dK (putK kvs k v))) ∨
 ∃ kvs k b,H a=some (.dT kvs)∧y = .ref b∧H b=some (.tup (k.map kV))∧kvs.length < sizeLine∧H'=upd H a (.dT (putK kvs k v))
theorem wX.t {H:Hp} {a b:Addr} {kvs:List (List Key × V)} {k:List Key} (e:H a=some (.dT kvs)) (eb:H b=some (.tup (k.map kV))):wX H a (.ref b) (m6 kvs k):=.inr ⟨kvs,k,b,.inl e,rfl,eb,rfl⟩
theorem G4.k {H:Hp} {a:Addr} {kvs:List (Key × V)} {k:Key} {v:V} (e:H a=some (.dK kvs)) (hl:kvs.length < sizeLine):G4 H a (kV k) v (upd H a (.dK (putK kvs k v))):=.inl ⟨kvs,k,e,rfl,hl,rfl⟩
theorem G4.t {H:Hp} {a b:Addr} {kvs:List (List Key × V)} {k:List Key} {v:V} (e:H a=some (.dT kvs)) (eb:H b=some (.tup (k.map kV))) (hl:kvs.length < sizeLine) :
 G4 H a (.ref b) v (upd H a (.dT (putK kvs k v))):=.inr ⟨kvs,k,b,e,rfl,eb,hl,rfl⟩
section
variable {X:Cx} {pins:List (Addr × Obj)} {σ:St} {H:Hp} {s:Shared} {a:Addr} {y v:V} {u r:Value} {o:Option V} {A:Around} {E:Value→Shared→Prop}
theorem Inv.big (I:Inv X pins σ H s):sysModules < s.heap.objs.size:=by
 have h:mainGlobals < s.heap.objs.size:=(I.mod.glob.keeps I.bk).lt
 exact jH (by decide) h
theorem G5 {Q:Value→Shared→Prop} (hu:A.units + 1 < cLine) (I:Inv X pins σ H s) (g:wX H a y (some v)) (ry:RelV y u) (h:∀ w' s',Inv X pins σ H s'→RelV v w'→Q w' s') :
 wpAny (model X.prog X.w) A (getItem (.ref a) u) Q E s:=by
 rcases g with ⟨kvs,k,e,ey,l⟩ | ⟨kvs,k,b,e,ey,eb,l⟩
 ·subst ey
  obtain ⟨z,hd,vs,rel,dd⟩:=uw I.hok e
  obtain ⟨w',hw,rw'⟩:=tM.some_of (v:=v) (o:=valueAt vs k) (by rw [l];exact rel.val k)
  exact wpAny_getItem_of (vW ry) dd.mapOf hw (h w' _ (I.tok _) rw')
 ·subst ey
  cases (show u=Value.ref b from ry)
  obtain ⟨z,hd,xs,rel,dd⟩:=yx I.hok e
  obtain ⟨w',hw,rw'⟩:=tM.some_of (v:=v) (o:=(atKey xs k).map (·.2)) (by rw [l];exact rel.val k)
  obtain ⟨p,hp,hp2⟩:=Option.map_eq_some_iff.mp hw
  refine wpAny_getItem_heap (tupleKind_room_in1 hu) (vX I.hok eb) dd hp ?_
  rw [hp2]
  exact h w' _ (I.tok _) rw'
theorem VN {Q:Value→Shared→Prop} (hu:A.units + 1 < cLine) (I:Inv X pins σ H s) (g:wX H a y o) (ry:RelV y u) (h:∀ s',Inv X pins σ H s'→Q (.bool o.isSome) s') :
 wpAny (model X.prog X.w) A (compareOp .In u (.ref a)) Q E s:=by
 rcases g with ⟨kvs,k,e,ey,l⟩ | ⟨kvs,k,b,e,ey,eb,l⟩
 ·subst ey
  obtain ⟨z,hd,vs,rel,dd⟩:=uw I.hok e
  refine wpAny_in_of (vW ry) hd dd.mapOf ?_
  rw [← (rel.val k).isSome_eq,← l]
  exact h _ (I.tok _)
 ·subst ey
  cases (show u=Value.ref b from ry)
  obtain ⟨z,hd,xs,rel,dd⟩:=yx I.hok e
  refine wpAny_in_heap (tupleKind_room_in1 hu) (vX I.hok eb) hd dd ?_
  have q:=(rel.val k).isSome_eq
  rw [kW] at q
  rw [← q,← l]
  exact h _ (I.tok _)
theorem N6 {Q:Value→Shared→Prop} (hu:A.units + 1 < cLine) (I:Inv X pins σ H s) (g:wX H a y o) (ry:RelV y u) (h:∀ s',Inv X pins σ H s'→Q (.bool (!o.isSome)) s') :
 wpAny (model X.prog X.w) A (compareOp .NotIn u (.ref a)) Q E s:=by
 rcases g with ⟨kvs,k,e,ey,l⟩ | ⟨kvs,k,b,e,ey,eb,l⟩
 ·subst ey
  obtain ⟨z,hd,vs,rel,dd⟩:=uw I.hok e
  refine wpAny_notIn_of (vW ry) hd dd.mapOf ?_
  rw [← (rel.val k).isSome_eq,← l]
  exact h _ (I.tok _)
 ·subst ey
  cases (show u=Value.ref b from ry)
  obtain ⟨z,hd,xs,rel,dd⟩:=yx I.hok e
  refine wpAny_notIn_heap (tupleKind_room_in1 hu) (vX I.hok eb) hd dd ?_
  have q:=(rel.val k).isSome_eq
  rw [kW] at q
  rw [← q,← l]
  exact h _ (I.tok _)
theorem uN {h':Heap} {t':Nat} {ob:HO} (I:Inv X pins σ H s) (mu:Mut (H a)) (hs:Heap.SameBut a s.heap h') (he:∃ q,h'.get? a=some q) (new:gZ X.prog X.w (upd H a ob) h' a ob) :
 Inv X pins σ (upd H a ob) { s with heap:=h',toks:=t' } :=
 I.write (x:=a) (e:=a) mu (.inl rfl) (fun b q hb z=>(hs.2 b hb).trans z) he new
theorem Ds {P:Program} {w:World} {H':Hp} {h':Heap} {kvs:List (Key × V)} {vs:List (Key × Value)} (z:kvs.length ≤ sizeLine) (hd:(a == sysModules)=false) (rel:KV kvs vs) (dd:h'.DictOf (fH P w) a vs) :
 gZ P w H' h' a (.dK kvs):=⟨z,hd,vs,rel,dd⟩
theorem G6 {H':Hp} {Q:Unit→Shared→Prop} (hu:A.units + 1 < cLine) (I:Inv X pins σ H s) (g:G4 H a y v H') (ry:RelV y u) (rv:RelV v r) (h:∀ s',Inv X pins σ H' s'→Q () s') :
 wpAny (model X.prog X.w) A (setItem (.ref a) u r) Q E s:=by
 rcases g with ⟨kvs,k,e,ey,l,eH⟩ | ⟨kvs,k,b,e,ey,eb,l,eH⟩
 ·subst ey eH
  obtain ⟨z,hd,vs,rel,dd⟩:=JQ I.hok e
  have hz:vs.length ≤ sizeLine:=by rw [← rel.length];exact z
  have hl:(putK kvs k v).length ≤ sizeLine:=by have:=qJ kvs k v;omega
  refine wpAny_setItem_pairs (hsz:=hz) (vW ry) dd fun h' dd' hs=>h _ ?_
  have he:∃ q,h'.get? a=some q:=let ⟨q,_,_,hq,_⟩:=dd';⟨q,hq⟩
  exact uN I (by rw [e];exact True.intro) hs he (Ds hl hd (rel.put k rv) dd')
 ·subst ey eH
  cases (show u=Value.ref b from ry)
  obtain ⟨z,hd,xs,rel,dd⟩:=VL I.hok e
  have hz:xs.length ≤ sizeLine:=by rw [← Paired.length rel];exact z
  have hl:(putK kvs k v).length ≤ sizeLine:=by have:=qJ kvs k v;omega
  refine wpAny_setItem_heap (hsz:=hz) (tupleKind_room_in1 hu) (vX I.hok eb) dd fun h' dd' hs=>h _ ?_
  obtain ⟨q,es,ep,hq,h2,h3,h4,_,h5⟩:=dd'
  refine uN I (by rw [e];exact True.intro) hs ⟨q,hq⟩ ⟨hl,hd,_,(rel.put k eb rv).keeps fun c ys ec=>?_,q,es,ep,hq,h2,h3,h4,h5⟩
  rw [cI (Em ec e (fun z=>nomatch z))]
  exact ec
end
section
variable {X:Cx} {pins:List (Addr × Obj)} {σ:St} {H:Hp} {s:Shared} {a:Addr} {kvs:List (Key × V)} {k:Key} {u:Value} {A:Around} {E:Value→Shared→Prop}
end
def SM (i:Expr):Prop:=∀ ov iv,subscripted i false ov iv=operate [ov,iv] (getItem ov iv)
theorem N7 {prog:Program} {w:World} {A:Around} {E:Value→Shared→Prop} {s:Shared} {env:Env} {value slice:Expr} {pos:Pos} {T id:String} {Q:Value→Shared→Prop}
 (hl:typeLookup (.type T) "__getitem__" = pure (some (.builtin id))) (hs:SM slice)
 (h:wpAny (model prog w) A (eval value env) (fun o s₁=>wpAny (model prog w) A (eval slice env) (fun i s₂=>s₂.TypeIs o T∧wpAny (model prog w) A (getItem o i) Q E s₂) E s₁) E s) :
 wpAny (model prog w) A (eval (.Subscript value slice pos) env) Q E s:=by
 refine Subscript_ (wpAny_mono h (fun o s₁ h₁=>wpAny_mono h₁ (fun i s₂ h₂=>?_) fun _ _ x=>x) fun _ _ x=>x)
 obtain ⟨hT,h₂⟩:=h₂
 unfold subscriptTail
 refine wpAny_bind ?_
 rw [getitemInPython_of_ne hT.not_modules]
 refine wpAny_bind (wpAny_specialOf hT hl ?_)
 have fin:wpAny (model prog w) A (subscripted slice false o i) (fun r s₃=>wpAny (model prog w) A (letTemporaryGo value o r >>= fun _=>pure r) Q E s₃) E s₂:=by
  rw [hs o i]
  exact wpAny_operating (wpAny_mono h₂ (fun r s₃ h₃=>wpAny_bind (wpAny_letTemporaryGo (wpAny_pure h₃))) fun _ _ x=>x)
 first
  | exact wpAny_pure (wpAny_bind fin)
  | exact wpAny_bind (wpAny_pure (wpAny_bind fin))
  | exact wpAny_bind fin
theorem Bu {X:Cx} {pins:List (Addr × Obj)} {σ:St} {H:Hp} {s:Shared} {a:Addr} {y:V} {o:Option V} (I:Inv X pins σ H s) (g:wX H a y o):s.TypeIs (.ref a) "dict" := by
 rcases g with ⟨kvs,k,e,_,_⟩ | ⟨kvs,k,b,e,_,_,_⟩
 ·obtain ⟨_,_,vs,_,dd⟩:=uw I.hok e
  exact dd.typeIs
 ·obtain ⟨_,_,xs,_,dd⟩:=yx I.hok e
  exact dd.typeIs
def VP (td ty:TE):TE:=fun σ H Q=>td σ H fun x H1=>ty σ H1 fun y H2=>∃ a v,x = .ref a∧wX H2 a y (some v)∧Q v H2
section
variable {X:Cx} {o i e value:Expr} {pos pos' tpos:Pos} {td ty tv:TE}
theorem N8 (hu:X.A.units + 1 < cLine) (ho:PE X o td) (hi:PE X i ty) (hs:SM i):PE X (.Subscript o i pos) (VP td ty):=by
 intro pins s σ H Q I h
 refine N7 PySem.F.slot_dict_getitem.lookup hs (thn (ho pins s σ H _ I h) fun u s1 ⟨x,H1,I1,rx,q1⟩=>thn (hi pins s1 σ H1 _ I1 q1) fun iv s2 ⟨y,H2,I2,ry,a,v,ex,g,q2⟩=>?_)
 subst ex
 obtain rfl:u=Value.ref a:=rx
 exact ⟨Bu I2 g,G5 hu I2 g ry fun w' s3 I3 rw'=>⟨v,H2,I3,rw',q2⟩⟩
end
theorem u_ {P:Program} {w:World} {H:Hp} (h:Heap) (hb:sysModules < h.objs.size):gZ P w H (h.push { cls:=.type "dict", data:=.dict #[] }) h.objs.size (.dK []) :=
 ⟨eY _,beq_eq_false_iff_ne.mpr (Ne.symm (bO hb)),[],.nil,Heap.DictOf.new h⟩
section
variable {X:Cx} {pos:Pos}
end
def Dt:List (TE × TE)→St→Hp→(List (V × V)→Hp→Prop)→Prop
 | [],_,H,Q=>Q [] H
 | (tk,tv) :: r,σ,H,Q=>tk σ H fun x H1=>tv σ H1 fun y H2=>Dt r σ H2 fun ps H3=>Q ((x,y) :: ps) H3
abbrev VV:List (V × V)→List (Value × Value)→Prop:=Paired fun p q=>RelV p.1 q.1∧RelV p.2 q.2
def PPs (X:Cx) (pos:Pos) (keys:List (Option Expr)) (values:List Expr) (trs:List (TE × TE)):Prop :=
 ∀ (pins:List (Addr × Obj)) (s:Shared) (σ:St) (H:Hp) (Q:List (V × V)→Hp→Prop),Inv X pins σ H s→Dt trs σ H Q →
  wpAny (model X.prog X.w) X.A (evalPairs (pairTrees keys values X.env pos)) (fun vs s'=>∃ ps H',Inv X pins σ H' s'∧VV ps vs∧Q ps H') X.xe s
theorem N_ {X:Cx} {pos:Pos}:PPs X pos [] [] []:=fun pins s σ H Q I h=>pairTrees_nil_walk ⟨[],H,I,.nil,h⟩
theorem JR {X:Cx} {pos:Pos} {k v:Expr} {ks:List (Option Expr)} {vs:List Expr} {tk tv:TE} {trs:List (TE × TE)} (hk:PE X k tk) (hv:PE X v tv) (hr:PPs X pos ks vs trs) :
 PPs X pos (some k :: ks) (v :: vs) ((tk,tv) :: trs):=fun pins s σ H Q I h =>
 pairTrees_cons_walk (thn (hk pins s σ H _ I h) fun u s1 ⟨x,H1,I1,rx,q1⟩=>thn (hv pins s1 σ H1 _ I1 q1) fun w2 s2 ⟨y,H2,I2,ry,q2⟩ =>
  thn (hr pins s2 σ H2 _ I2 q2) fun ws s3 ⟨ps,H3,I3,rel,q3⟩=>⟨(x,y) :: ps,H3,I3,.cons ⟨rx,ry⟩ rel,q3⟩)
def vY (kvs more:List (Key × V)):List (Key × V):=more.foldl (fun acc kv=>putK acc kv.1 kv.2) kvs
theorem KV.merge:∀ {more:List (Key × V)} {rs:List (Key × Value)} {kvs:List (Key × V)} {vs:List (Key × Value)},KV more rs→KV kvs vs→KV (vY kvs more) (merged vs rs):=by
 intro more rs kvs vs r
 unfold KV at r
 induction r generalizing kvs vs with
 | nil=>intro q;exact q
 | @cons p q ps qs h t ih =>
  intro r0
  have e:KV (putK kvs p.1 p.2) (stored vs q.1 q.2):=by
   have:=r0.put p.1 h.2
   rw [← h.1];exact this
  exact ih e
theorem rJ:∀ (more kvs:List (Key × V)),(vY kvs more).length ≤ kvs.length + more.length
 | [],kvs=>by show kvs.length ≤ kvs.length + 0;omega
 | p :: r,kvs=>by
  have h1:=rJ r (putK kvs p.1 p.2)
  have h2:=qJ kvs p.1 p.2
  show (vY (putK kvs p.1 p.2) r).length ≤ _
  rw [bQ];omega
theorem vZ {P:Program} {w:World}:∀ {kvs:List (Key × V)} {ws:List (Value × Value)},VV (kvs.map fun kv=>(kV kv.1,kv.2)) ws→∃ rs,Carries (fH P w) ws rs∧KV kvs rs
 | [],_,r=>by rw [kJ] at r;cases r;exact ⟨[],True.intro,.nil⟩
 | p :: kvs,_,r=>by
  rw [bJ] at r
  cases r with
  | @cons a b as bs h t =>
   obtain ⟨rs,c,q⟩:=vZ (P:=P) (w:=w) t
   obtain ⟨b1,b2⟩:=b
   exact ⟨(p.1,b2) :: rs,⟨vW h.1,rfl,c⟩,.cons ⟨rfl,h.2⟩ q⟩
def VR (trs:List (TE × TE)):TE:=fun σ H Q=>∀ p,H p=none→Dt trs σ (upd H p (.dK [])) fun ps H2=>H2 p=some (.dK [])∧∃ kvs:List (Key × V),ps=kvs.map (fun kv=>(kV kv.1,kv.2))∧kvs.length ≤ 15∧Q (.ref p) (upd H2 p (.dK (vY [] kvs)))
theorem Oa {X:Cx} {pos:Pos} {keys:List (Option Expr)} {values:List Expr} {trs:List (TE × TE)} (h:PPs X pos keys values trs) (hall:keys.all (·.isSome)=true) (hl:keys.length=values.length) (h0:keys ≠ [])
 (h15:keys.length ≤ 15):PE X (.Dict keys values pos) (VR trs):=by
 intro pins s σ H Q I q
 have hn:=I.hok.fresh (aZ s.heap.objs.size)
 have I1:=I.laid (a:=s.heap.objs.size) (o:=.dK []) (h':=s.heap.push { cls:=.type "dict", data:=.dict #[] }) (t':=s.toks) (fun _ _ q=>Heap.get?_push_of_some _ q) (aZ _) (u_ s.heap I.big)
 refine wpAny_Dict_walk (knd:=fH X.prog X.w) hall hl h0 h15 (thn (h pins _ σ _ _ I1 (q _ hn)) fun ws s2 ⟨ps,H2,I2,rel,e,kvs,ep,lk,q2⟩=>?_)
 subst ep
 obtain ⟨rs,c,rk⟩:=vZ (P:=X.prog) (w:=X.w) rel
 obtain ⟨z,hd,vs0,r0,dd⟩:=JQ I2.hok e
 cases r0
 refine ⟨rs,c,dd,fun h' dd' hs=>⟨.ref s.heap.objs.size,_,?_,rfl,q2⟩⟩
 have hz:(vY [] kvs).length ≤ sizeLine:=by
  have h1:=rJ kvs []
  rw [jo] at h1
  rw [sizeLine_eq];omega
 have he:∃ q,h'.get? s.heap.objs.size=some q:=let ⟨q,_,_,hq,_⟩:=dd';⟨q,hq⟩
 exact uN I2 (by rw [e];exact True.intro) hs he (Ds hz hd (rk.merge .nil) dd')
structure M1 (X:Cx) (o:Expr) (m:Str) (apos:Pos) (e:Expr) (cpos:Pos):Prop where
 base:attributeBase o m X.env (eval o X.env)=eval o X.env
 few:((backTo cpos (starEach [e] X.env)).all (fun x=>!x.1) && (backToKw cpos (keywordEach [] X.env)).all (fun x=>x.1.isSome)
  && decide (([e]:List Expr).length + ([]:List Keyword).length + (if ([]:List Keyword).isEmpty then 0 else 1) < 30))=true
 line:(apos.endLine == cpos.line)=true
 trees:backTo cpos (starEach [e] X.env)=[(false,eval e X.env)]
structure M2 (X:Cx) (o:Expr) (m:Str) (apos:Pos) (e f:Expr) (cpos:Pos):Prop where
 base:attributeBase o m X.env (eval o X.env)=eval o X.env
 few:((backTo cpos (starEach [e,f] X.env)).all (fun x=>!x.1) && (backToKw cpos (keywordEach [] X.env)).all (fun x=>x.1.isSome)
  && decide (([e,f]:List Expr).length + ([]:List Keyword).length + (if ([]:List Keyword).isEmpty then 0 else 1) < 30))=true
 line:(apos.endLine == cpos.line)=true
 trees:backTo cpos (starEach [e,f] X.env)=[(false,eval e X.env),(false,eval f X.env)]
def IsD (H:Hp) (a:Addr):Prop:=(∃ kvs,Rd H a (.dK kvs))∨∃ kvs,Rd H a (.dT kvs)
theorem SN {X:Cx} {pins:List (Addr × Obj)} {σ:St} {H:Hp} {s:Shared} {a:Addr} (I:Inv X pins σ H s) (d:IsD H a) :
 s.TypeIs (.ref a) "dict" ∧ (∀ b,Value.ref a = .ref b→∃ ob,s.heap.get? b=some ob∧ob.dict=none)∧(a == sysModules)=false:=by
 rcases d with ⟨kvs,e⟩ | ⟨kvs,e⟩
 ·obtain ⟨_,hd,vs,_,dd⟩:=uw I.hok e
  refine ⟨dd.typeIs,fun b q=>?_,hd⟩
  cases q
  obtain ⟨ob,_,_,h1,h2,_⟩:=dd
  exact ⟨ob,h1,h2.2.1⟩
 ·obtain ⟨_,hd,xs,_,dd⟩:=yx I.hok e
  refine ⟨dd.typeIs,fun b q=>?_,hd⟩
  cases q
  obtain ⟨ob,_,_,h1,h2,_⟩:=dd
  exact ⟨ob,h1,h2.2.1⟩
section
variable {X:Cx} {pins:List (Addr × Obj)} {σ:St} {H:Hp} {s:Shared} {a:Addr} {y d:V} {u r:Value} {o:Option V} {A:Around} {E:Value→Shared→Prop}
end
section
variable {X:Cx} {o e f:Expr} {apos cpos:Pos} {td ty tx:TE}
end
section
variable {X:Cx} {pins:List (Addr × Obj)} {σ:St} {H:Hp} {s:Shared} {a:Addr} {kvs:List (Key × V)} {A:Around} {E:Value→Shared→Prop}
end
section
variable {X:Cx} {pins:List (Addr × Obj)} {σ:St} {H:Hp} {s:Shared} {a:Addr} {y:V} {u:Value} {A:Around} {E:Value→Shared→Prop}
end
section
variable {κ:Type} [DecidableEq κ]
end
end L2
namespace XK
open PySem PySem.Spec PyProof.Rows L2 My D3
section
variable {K:PySem.W.Frag} {H:Hp}
theorem Ob {H H':Hp} {a:Addr} {u:HO} (s:Same H H') (h:L2.Rd H a u):L2.Rd H' a u:=by
 rcases h with h | ⟨o,h⟩
 ·exact .inl (s _ _ h)
 ·exact .inr ⟨o,s _ _ h⟩
end
section
variable {X:Cx} {fl:List Fl} {e a b c ke:Expr} {f fa fb fc fk:FE} {pos:Pos}
def V0:R2:=fun x y H Q=>∃ p o,y = .ref p∧wX H p x o∧Q (.bl o.isSome) H
def Fj:R2:=fun x y H Q=>∃ p o,y = .ref p∧wX H p x o∧Q (.bl (!o.isSome)) H
theorem SX (hu:X.A.units + 64 < cLine):OpR X (compareOp .In) V0:=by
 intro pins s σ H x y v u Q I rx ry h
 obtain ⟨p,o,rfl,g,q⟩:=h
 obtain rfl:u=Value.ref p:=ry
 exact VN (by omega) I g rx fun s' I'=>⟨.bl o.isSome,H,I',rfl,q⟩
theorem G7 (hu:X.A.units + 64 < cLine):OpR X (compareOp .NotIn) Fj:=by
 intro pins s σ H x y v u Q I rx ry h
 obtain ⟨p,o,rfl,g,q⟩:=h
 obtain rfl:u=Value.ref p:=ry
 exact N6 (by omega) I g rx fun s' I'=>⟨.bl (!o.isSome),H,I',rfl,q⟩
theorem Fo:∀ (l:List Value) (ns:List Int),l.length=ns.length→(∀ (j:Nat) (v:Value),l[j]? = some v→∃ n t,ns[j]? = some n∧v=Value.int n t)→IntsAre l ns
 | [],[],_,_=>.nil
 | [],_ :: _,h,_=>by simp at h
 | _ :: _,[],h,_=>by simp at h
 | v :: l,n :: ns,h,g=>by
  obtain ⟨n',t,e1,e2⟩:=g 0 v rfl
  cases e1
  subst e2
  exact .cons _ _ (Fo l ns (by simpa using h) fun j v hv=>by simpa using g (j + 1) v (by simpa using hv))
end
end XK
namespace XK
open PySem PySem.Spec PyProof.Rows L2 My D3
theorem hu1 {n:Nat} (h:n + 64 < cLine):n + 1 < cLine:=by omega
section
variable {K:PySem.W.Frag} {fl:List Fl}
end
def V1:V→V→V→Hp→(Hp→Prop)→Prop:=fun o i v H Q=>∃ p kvs k,o = .ref p∧i=kV k∧H p=some (.dK kvs)∧kvs.length < sizeLine∧Q (upd H p (.dK (putK kvs k v)))
section
variable {X:Cx} {fl:List Fl} {e a b c ke:Expr} {f fa fb fc fk:FE} {pos:Pos}
theorem JT (hu:X.A.units + 1 < cLine):Rn X V1:=by
 intro pins s σ H o i v ov iv u Q I ro ri rv h
 obtain ⟨p,kvs,k,rfl,rfl,hp,hl,q⟩:=h
 cases ro
 exact G6 hu I (G4.k hp hl) ri rv fun s' I'=>⟨_,I',q⟩
end
end XK
namespace XK
open PySem PySem.Spec PyProof.Rows L2 My D3
def lenOf (H:Hp) (a:Addr):Nat:=match H a with
 | some (.lst xs)=>xs.length
 | _=>0
section
variable {K:PySem.W.Frag} {H:Hp}
theorem Fp {ok:Ok}:∀ {vs:List V} {ds:List D},RAs K ok false H vs ds→ds.all fl1=true→∃ as,RTs K H vs ds as∧(∀ a ∈ as,ok a)∧as.map (lenOf H)=ds.filterMap NZ
 | _,_,.nil,_=>⟨[],.nil,fun _ h=>(by cases h),rfl⟩
 | _,_,.cons (d:=d) (ds:=ds) r q,h=>by
  rw [lN,aL] at h
  obtain ⟨as,h1,h2,h3⟩:=Fp q h.2
  by_cases e:∃ l,d = .list l
  ·obtain ⟨l,rfl⟩:=e
   cases r with
   | lst hx k rs =>
    rename_i a xs
    have hf:flats l=true:=h.1
    have hr:RTs K H xs l []:=by
     clear h1 h2 h3 h hx q
     induction l generalizing xs with
     | nil=>cases rs;exact .nil
     | cons d l ih =>
      cases rs with
      | cons r1 r2 =>
       rw [flats,aL] at hf
       have:=RTs.cons (RT.flat0 hf.1 r1) (ih r2 hf.2)
       simpa using this
    refine ⟨(a :: [])++as,.cons (.lst hx hr) h1,fun b hb=>?_,?_⟩
    ·rcases aX.mp hb with z | z
     ·rw [aK.mp z];exact k
     ·exact h2 b z
    ·rw [cL,h3]
     show lenOf H a :: _=_
     rw [cX]
     show _=l.length :: _
     have:lenOf H a=l.length:=by
      unfold lenOf
      rw [hx]
      exact rs.length
     rw [this]
     rfl
   | lsk _ z _=>cases z
  ·have hf:flat d=true:=by
    have h1:=h.1
    cases d <;> first | exact h1 | exact absurd ⟨_,rfl⟩ e
   refine ⟨[]++as,.cons (RT.flat0 hf r) h1,fun b hb=>h2 b (by simpa using hb),?_⟩
   rw [mK,h3,cX]
   have:NZ d=none:=by cases d <;> first | rfl | exact absurd ⟨_,rfl⟩ e
   rw [this]
end
section
variable {X:Cx} {fl:List Fl} {e k1 k2:Expr} {f f1 f2:FE} {pos:Pos}
theorem S5 (h:DE X fl .C e f):DE X fl .T e (dNd f):=vD h fun Hb H G ow σ δ v d hp R r=>by
 cases d with
 | tuple ds =>
  rw [show ndT (.tuple ds)=(ds.all fl1 && decide ((ds.filterMap NZ).Nodup)) from rfl,aL] at hp
  cases r with
  | tup hx rs =>
   obtain ⟨as,g1,g2,g3⟩:=Fp rs hp.1
   refine ⟨as,.tup hx g1,?_,g2⟩
   have nd:(as.map (lenOf H)).Nodup:=by rw [g3];exact of_decide_eq_true hp.2
   exact List.Pairwise.of_map (lenOf H) (fun a b (h:lenOf H a ≠ lenOf H b) z=>h (by rw [z])) nd
 | none=>cases hp
 | bool _=>cases hp
 | int _=>cases hp
 | str _=>cases hp
 | list _=>cases hp
 | dict _=>cases hp
end
end XK
namespace XV
open PySem PySem.Spec PyProof.Rows L2 My D3
section
variable {K:PySem.W.Frag} {fl:List Fl}
theorem v8 {δ:DS} {j k:Nat} {d:D} (h:(δ.set j none)[k]? = some (some (.d d))):k ≠ j∧δ[k]? = some (some (.d d)):=by
 by_cases z:k=j
 ·subst z
  rw [kO] at h
  rw [if_pos rfl] at h
  split at h <;> cases h
 ·rw [bD (Ne.symm z)] at h
  exact ⟨z,h⟩
theorem give {G:Gh} {ow:Ow} {σ:L2.St} {H:Hp} {δ:DS} {j:Nat} {d:D} (R:Rel K fl G ow σ H δ) (hfl:fl[j]? = some .O) (hd:aD j δ=some d) :
 Rel K fl G (oR ow j none) σ H (δ.set j none)∧∃ v,σ[j]? = some (some v)∧RA K (okA (oR ow j none)) true H v d:=by
 have e:=lq hd
 have sub:∀ b,okA ow b→okA (oR ow j none) b:=fun b z=>⟨fun k q=>by
  by_cases hk:k=j
  ·subst hk;rw [iJ] at q;cases q
  ·rw [eF hk] at q;exact z.1 k q,z.2⟩
 have own':∀ k a,oR ow j none k=some a→k ≠ j∧ow k=some a:=fun k a q=>by
  by_cases hk:k=j
  ·subst hk;rw [iJ] at q;cases q
  ·rw [eF hk] at q;exact ⟨hk,q⟩
 have none':∀ k,oR ow j none k=none→k ≠ j→ow k=none:=fun k q hk=>by rw [eF hk] at q;exact q
 refine ⟨⟨R.s0,R.s1,by rw [dF];exact R.len,fun k a h=>?_,fun k l a h1 h2=>R.inj k l a (own' k a h1).2 (own' l a h2).2,fun k h=>?_,fun k d' h hn h2=>?_,fun k d' h hn h2 h3=>?_,R.nt,R.nd,fun k l a h1 h2=>R.ns k l a h1 (own' l a h2).2,R.np,fun k d' hn h=>?_⟩,?_⟩
 ·obtain ⟨hk,h⟩:=own' k a h
  obtain ⟨h0,hf,xs,ds,h1,h2,h3,h4⟩:=R.own k a h
  exact ⟨h0,hf,xs,ds,h1,h2,h3.imp sub (fun z=>z),by rw [bD (Ne.symm hk)];exact h4⟩
 ·have hk:k ≠ j:=fun z=>by rw [z,hfl] at h;cases h
  rw [eF hk]
  exact R.pin k h
 ·obtain ⟨hk,h⟩:=v8 h
  obtain ⟨v,h3,h4⟩:=R.dat k d' h hn (none' k h2 hk)
  exact ⟨v,h3,h4.imp sub (fun z=>z)⟩
 ·obtain ⟨hk,h⟩:=v8 h
  exact R.oo k d' h hn h2 (none' k h3 hk)
 ·obtain ⟨hk,h⟩:=v8 h
  exact R.nr k d' hn h
 ·cases ho:ow j with
  | none =>
   obtain ⟨v,h1,h2⟩:=R.dat j d e (by rw [hfl];rfl) ho
   exact ⟨v,h1,h2.imp sub (fun z=>z)⟩
  | some a =>
   obtain ⟨h0,hf,xs,ds,h1,h2,h3,h4⟩:=R.own j a ho
   rw [e] at h4
   cases h4
   refine ⟨_,h1,.lst h2 ⟨fun k q=>?_,fun k q=>R.ns k j a q ho⟩ (h3.imp sub (fun z=>z))⟩
   obtain ⟨hk,q⟩:=own' k a q
   exact hk (R.inj k j a q ho)
end
theorem S6 {X:Cx} {fl:List Fl} {pos:Pos} {i j:Nat} {x y:Str} {px py:Pos} (hfl:fl[i]? = some .A) (hfj:fl[j]? = some .O) (hN:X.N.Nodup) (hi:X.N[i]? = some x) (hv:X.env.scope.names.lookup x=some .local∨X.env.scope.names.lookup x=some .cell)
 (hj:X.N[j]? = some y:=by rfl) (hvj:Vis X.env.scope y:=by first | exact Or.inl rfl | exact Or.inr (Or.inl rfl) | exact Or.inr (Or.inr rfl)) (hd:(y == ("__debug__" : Str))=false:=by decide) (hcd:(y == ("__classdict__" : Str))=false:=by decide)
 (hs:swapsWith (.Name y py) (some (.Name x px)) pos.line X.env=pure false:=by rfl) (hfn:X.fn x=true∨X.env.scope.names.lookup x=some .local:=by first | exact .inl rfl | exact .inr rfl) :
 DS1 X fl (.Assign [.Name x px] (.Name y py) pos) (GX i j):=PS.imp (uW (i:=i) hN hi hv (mQ hj hvj hd hcd) hs hfn) fun Dn σ H h=>by
 obtain ⟨G,ow,δ,o,R,hf,q⟩:=h
 unfold GX at hf
 by_cases hl:i < δ.length
 ·rw [if_pos hl] at hf
  obtain ⟨d,e1,e2⟩:=bind1 hf
  cases e2
  obtain ⟨R',v,h1,h2⟩:=give R hfj e1
  exact ⟨v,h1,q _ _ H (R'.setA hfl (n8 R hl) h2)⟩
 ·rw [if_neg hl] at hf;cases hf
end XV
namespace XQ
open PySem PySem.Spec PyProof.Rows L2 My D3
section
variable {K:PySem.W.Frag} {fl:List Fl}
def kpF (os ns:List Nat) (fl:List Fl):Bool:=(aH fl.length).all fun j=>match fl[j]? with
 | some .O=>os.contains j
 | some .N=>ns.contains j
 | some .A=>true
 | _=>false
theorem zB {os ns:List Nat} {j:Nat} {c:Fl} (h:kpF os ns fl=true) (e:fl[j]? = some c):c = .A∨(c = .O∧j ∈ os)∨(c = .N∧j ∈ ns):=by
 have hj:j < fl.length:=by
  rcases fW j fl.length with z | z
  ·exact z
  ·rw [bf z] at e;cases e
 have:=eZ.mp h j (aY.mpr hj)
 rw [e] at this
 cases c with
 | A=>exact .inl rfl
 | O=>exact .inr (.inl ⟨rfl,by simpa using this⟩)
 | N=>exact .inr (.inr ⟨rfl,by simpa using this⟩)
 | L=>cases this
 | M=>cases this
theorem V2 {os ns:List Nat} {G:Gh} {ow:Ow} {σ:L2.St} {H:Hp} {δ:DS} (R:Rel K fl G ow σ H δ) (hk:kpF os ns fl=true) (hn:(ns.all fun j=>noS δ[j]?)=true):Rel K fl G ⟨ow.s,fun _=>[]⟩ σ H δ:=by
 have sub:∀ b,okA ow b→okA ⟨ow.s,fun _=>[]⟩ b:=fun b z=>⟨z.1,fun i q=>nomatch q⟩
 refine ⟨R.s0,R.s1,R.len,fun k a h=>?_,R.inj,R.pin,fun k d h1 h2 h3=>?_,R.oo,(fun _ _ h=>by cases h),(fun _ _ _ h=>by cases h),(fun _ _ _ h=>by cases h),fun i h=>?_,fun i d h1 h2=>?_⟩
 ·obtain ⟨h0,hf,xs,ds,h1,h2,h3,h4⟩:=R.own k a h
  exact ⟨h0,hf,xs,ds,h1,h2,h3.imp sub (fun z=>z),h4⟩
 ·obtain ⟨v,h4,h5⟩:=R.dat k d h1 h2 h3
  exact ⟨v,h4,h5.imp sub (fun z=>z)⟩
 ·rcases zB hk h with z | ⟨z,_⟩ | ⟨z,_⟩ <;> cases z
 ·cases e:fl[i]? with
  | none=>rw [e] at h1;cases h1
  | some c =>
   rw [e] at h1
   rcases zB hk e with rfl | ⟨rfl,_⟩ | ⟨rfl,z⟩
   ·cases h1
   ·cases h1
   ·have:=eZ.mp hn i z
    rw [h2] at this
    cases this
theorem G8 {H H':Hp} {v:V} {d:D} {ds:List D} {ok ok':Ok} {pl pl':Bool} (s:Same H H') (hK:∀ b o,K.lookup b=some o→H b=none) (h1:RA K ok pl H' v d) (h2:RA K ok' pl' H v (.tuple ds)):isTup d=true:=by
 obtain ⟨b,xs,rfl,h3,_⟩:=h2.tupE0
 have h4:H' b=some (.tup xs):=s _ _ h3
 cases h1 with
 | lst e _ _=>rw [h4] at e;cases e
 | lsk e _ _ =>
  rcases e with ⟨o,e⟩ | ⟨o,_,_,e,_⟩
  ·rw [h4] at e;cases e
  ·have:=hK b o e
   have h3:H b=some (.tup xs):=h3
   rw [h3] at this
   cases this
 | tup _ _=>rfl
 | dic e g _ =>
  rw [h4] at e
  injection e with e
  rcases g.or with ⟨_,z⟩ | ⟨_,z⟩ <;> (rw [z] at e;cases e)
 | dik e _ _=>rw [h4] at e;cases e
theorem JV {H H':Hp} {xs:List V} {l m:List D} {ok ok':Ok} {pl pl':Bool} (s:Same H H') (hK:∀ b o,K.lookup b=some o→H b=none) (h:apart l m=true) (h1:RAs K ok pl H' xs l) (h2:RAs K ok' pl' H xs m):False:=by
 unfold apart at h
 rw [pU] at h
 rcases h with h | h
 ·exact of_decide_eq_true h (h1.length.symm.trans h2.length)
 ·cases h1 with
  | nil=>cases h
  | cons e1 _ =>
   cases h2 with
   | cons e2 _ =>
    rw [aL] at h
    obtain ⟨z1,z2⟩:=h
    rename_i d2 _ _
    cases d2 with
    | tuple ds =>
     have:=G8 s hK e1 e2
     rw [this] at z1
     cases z1
    | _=>cases z2
theorem V3 {os ns:List Nat} {G:Gh} {ow:Ow} {σ:L2.St} {H H':Hp} {δ:DS} {v:V} {d:D} (R:Rel K fl G ow σ H δ) (hk:kpF os ns fl=true) (ho:∀ j ∈ os,apS d δ[j]? = true) (hn:∀ i,ow.n i=[]) (s:Same H H') (hK:∀ b o,K.lookup b=some o→H b=none) (r:RA K ok1 true H' v d):RA K (okA ow) true H' v d:=by
 have key:∀ j a,ow j=some a→∃ xs m,H a=some (.lst xs)∧RAs K (okA ow) true H xs m∧apD m d=true:=fun j a h=>by
  obtain ⟨_,hf,xs,ds,h1,h2,h3,h4⟩:=R.own j a h
  refine ⟨xs,ds,h2,h3,?_⟩
  rcases hf with ⟨hf,_⟩ | ⟨hf,_⟩
  ·rcases zB hk hf with z | ⟨_,z⟩ | ⟨z,_⟩
   ·cases z
   ·have:=ho j z
    rw [h4] at this
    exact this
   ·cases z
  ·rcases zB hk hf with z | ⟨z,_⟩ | ⟨z,_⟩ <;> cases z
 have all:=RA.ind (K:=K) (ok:=ok1) (pl:=true) (H:=H') (P:=fun v d=>RA K ok1 true H' v d∧((∀ j a,ow j=some a→∃ xs m,H a=some (.lst xs)∧RAs K (okA ow) true H xs m∧apD m d=true)→RA K (okA ow) true H' v d))
  (Q:=fun vs ds=>RAs K ok1 true H' vs ds∧((∀ j a,ow j=some a→∃ xs m,H a=some (.lst xs)∧RAs K (okA ow) true H xs m∧wW m ds=true)→RAs K (okA ow) true H' vs ds))
  ⟨.non,fun _=>.non⟩ (fun b=>⟨.bl b,fun _=>.bl b⟩) (fun i=>⟨.int i,fun _=>.int i⟩) (fun x=>⟨.str x,fun _=>.str x⟩)
  (fun {a xs ds} e k q=>⟨.lst e k q.1,fun h=>.lst e ⟨fun j z=>by
   obtain ⟨ys,m,y1,y2,y3⟩:=h j a z
   have:H' a=some (.lst ys):=s _ _ y1
   rw [e] at this
   cases this
   rw [apD,aL] at y3
   exact JV s hK y3.1 q.1 y2,fun i z=>by rw [hn i] at z;cases z⟩ (q.2 fun j a' z=>by
    obtain ⟨ys,m,y1,y2,y3⟩:=h j a' z
    rw [apD,aL] at y3
    exact ⟨ys,m,y1,y2,y3.2⟩)⟩)
  (fun {a xs ds} e k q=>⟨.lsk e k q.1,fun h=>.lsk e k (q.2 fun j a' z=>by
   obtain ⟨ys,m,y1,y2,y3⟩:=h j a' z
   rw [apD,aL] at y3
   exact ⟨ys,m,y1,y2,y3.2⟩)⟩)
  (fun {a xs ds} e q=>⟨.tup e q.1,fun h=>.tup e (q.2 fun j a' z=>by
   obtain ⟨ys,m,y1,y2,y3⟩:=h j a' z
   rw [apD] at y3
   exact ⟨ys,m,y1,y2,y3⟩)⟩)
  (fun {a u kvs} e g k=>⟨.dic e g k,fun h=>.dic e g ⟨fun j z=>by
   obtain ⟨ys,m,y1,_⟩:=h j a z
   have:H' a=some (.lst ys):=s _ _ y1
   rw [e] at this
   injection this with this
   rcases g.or with ⟨_,z⟩ | ⟨_,z⟩ <;> (rw [z] at this;cases this),fun i z=>by rw [hn i] at z;cases z⟩⟩)
  (fun e g k=>⟨.dik e g k,fun _=>.dik e g k⟩) ⟨.nil,fun _=>.nil⟩
  (fun {v d vs ds} e q=>⟨.cons e.1 q.1,fun h=>.cons (e.2 fun j a z=>by
   obtain ⟨ys,m,y1,y2,y3⟩:=h j a z
   rw [wW,aL] at y3
   exact ⟨ys,m,y1,y2,y3.1⟩) (q.2 fun j a z=>by
   obtain ⟨ys,m,y1,y2,y3⟩:=h j a z
   rw [wW,aL] at y3
   exact ⟨ys,m,y1,y2,y3.2⟩)⟩)
 exact (all.1 r).2 key
end
theorem Od {X:Cx} {fl:List Fl} {os ns:List Nat} {e:Expr} {f:FE} {pos:Pos} {i:Nat} {x:Str} {pos':Pos} (hk:kpF os ns fl=true) (hfl:fl[i]? = some .A) (hN:X.N.Nodup) (hi:X.N[i]? = some x) (hv:X.env.scope.names.lookup x=some .local∨X.env.scope.names.lookup x=some .cell) (h:DE X fl .P e f)
 (hs:swapsWith e (some (.Name x pos')) pos.line X.env=pure false:=by rfl) (hfn:X.fn x=true∨X.env.scope.names.lookup x=some .local:=by first | exact .inl rfl | exact .inr rfl) :
 DS1 X fl (.Assign [.Name x pos'] e pos) (Bt os ns i f):=fun pins s σ H Dn I h'=>uW (i:=i) hN hi hv h hs hfn pins s σ H Dn I (by
 obtain ⟨G,ow,δ,o,R,hf,q⟩:=h'
 unfold Bt at hf
 by_cases hl:i < δ.length
 ·rw [if_pos hl] at hf
  obtain ⟨d,e1,e2⟩:=bind1 hf
  by_cases c:((os.all fun j=>apS d δ[j]?) && ns.all fun j=>noS δ[j]?)=true
  ·rw [if_pos c] at e2
   cases e2
   rw [aL] at c
   have R2:=V2 R hk c.2
   refine ⟨G,_,δ,d,R2,e1,fun v H' s' r=>q _ _ H' ((R2.grow s').setA hfl (n8 R hl) (V3 R2 hk (fun j hj=>eZ.mp c.1 j hj) (fun _=>rfl) s' (fun b o z=>(I.bs b o (I.mod.kin b o z)).2) r))⟩
  ·rw [if_neg c] at e2;cases e2
 ·rw [if_neg hl] at hf;cases hf)
end XQ
namespace XB
open PySem PySem.Spec PyProof.Rows L2 My D3 XK
def nIs:Option Key→Value→Bool
 | none,.none=>true
 | none,_=>false
 | some k,v=>oM k v
def nH (w:World):Option Key→Int
 | none=>0xFCA86420
 | some k=>U4 w k
theorem mF {v:Value} (h:nIs none v=true):v = .none:=by
 cases v <;> first | rfl | cases h
theorem G9 {P:Program} {w:World} {A:Around} {E:Value→Shared→Prop} {s:Shared} {Q:Int→Shared→Prop} (h:Q 0xFCA86420 { s with toks:=s.toks + 1 }):wpAny (model P w) A (pyHash .none) Q E s :=
 PySem.W.pyHash_slot (T := "NoneType") rfl F.slot_NoneType_hash F.entry_NoneType_hash (F.args_NoneType_hash_1 _) (beq_builtin_none _) (.inl rfl) (wpAny_bind (wpAny_pure (wpAny_bind (wpAny_mkInt (wpAny_pure ⟨_,_,rfl,h⟩)))))
theorem Oe {P:Program} {w:World} {A:Around} {E:Value→Shared→Prop} {s:Shared} {Q:Bool→Shared→Prop} (h:Q true s):wpAny (model P w) A (eqBool .none .none) Q E s:=by
 unfold eqBool
 refine wpAny_holding ?_
 refine wpAny_ite_split (fun _=>wpAny_bind (wpAny_rule (wpAny_pure h))) (fun z=>absurd rfl z)
def QS (P:Program) (w:World):PySem.KeyKind P w (Option Key) where
 is:=nIs
 hash:=nH w
 inj:=fun v a b ha hb=>by
  cases a with
  | none =>
   cases b with
   | none=>rfl
   | some k =>
    rw [mF ha] at hb
    rcases dZ (show oM k .none=true from hb) with ⟨i,t,_,e⟩ | ⟨x,t,_,e⟩ <;> cases e
  | some k =>
   cases b with
   | none =>
    rw [mF hb] at ha
    rcases dZ (show oM k .none=true from ha) with ⟨i,t,_,e⟩ | ⟨x,t,_,e⟩ <;> cases e
   | some l=>rw [(fH P w).inj v k l ha hb]
 byValue:=fun k v h=>by
  cases k with
  | none=>rw [mF h];rfl
  | some k=>exact (fH P w).byValue k v h
 pyHash:=fun {A E s k v Q} h q=>by
  cases k with
  | none=>rw [mF h];exact G9 q
  | some k=>exact (fH P w).pyHash (k:=k) h q
 eqBool:=fun {A E s a b u v Q} ha hb q=>by
  cases a with
  | none =>
   rw [mF ha]
   cases b with
   | none=>rw [mF hb];exact Oe q
   | some k =>
    rcases dZ (show oM k v=true from hb) with ⟨i,t,_,rfl⟩ | ⟨x,t,_,rfl⟩
    ·exact PySem.SeqAt.EqAt.none_int i t P w E Q q
    ·exact PySem.SeqAt.EqAt.none_str x t P w E Q q
  | some k =>
   cases b with
   | none =>
    rw [mF hb]
    rcases dZ (show oM k u=true from ha) with ⟨i,t,_,rfl⟩ | ⟨x,t,_,rfl⟩
    ·exact PySem.SeqAt.EqAt.int_none i t P w E Q q
    ·exact PySem.SeqAt.EqAt.str_none x t P w E Q q
   | some l =>
    have e:decide (some k=some l)=decide (k=l):=by simp
    exact (fH P w).eqBool (a:=k) (b:=l) ha hb (e ▸ q)
 «strs»:=fun k x t v h=>by
  cases k with
  | none=>cases h
  | some k=>exact (fH P w).«strs» k x t v h
theorem map_none {P:Program} {w:World} {h:Heap} {a:Addr} {vs:List (Key × Value)} (d:h.DictOf (fH P w) a vs):h.MapOf (QS P w) a fun k=>match k with | none=>none | some k=>valueAt vs k:=by
 obtain ⟨o,es,ep,h1,h2,h3,h4,h5⟩:=d.mapOf
 refine ⟨o,es,ep,h1,h2,h3,fun e he=>?_,fun k=>?_⟩
 ·obtain ⟨k,k1,k2⟩:=h4 e he
  exact ⟨some k,k1,k2⟩
 ·cases k with
  | some k=>exact h5 k
  | none =>
   show findBy nIs es none=none
   unfold findBy
   rw [Option.map_eq_none_iff,Array.find?_eq_none]
   intro e he z
   obtain ⟨k,k1,_⟩:=h4 e he
   rw [mF z] at k1
   rcases dZ (show oM k .none=true from k1) with ⟨i,t,_,e⟩ | ⟨x,t,_,e⟩ <;> cases e
theorem G_ {X:Cx} {pins:List (Addr × Obj)} {σ:L2.St} {H:Hp} {s:Shared} {a:Addr} {kvs:List (Key × V)} {A:Around} {E:Value→Shared→Prop} {Q:Value→Shared→Prop} (I:Inv X pins σ H s) (g:Rd H a (.dK kvs)) (h:∀ s',Inv X pins σ H s'→Q (.bool false) s') :
 wpAny (model X.prog X.w) A (compareOp .In .none (.ref a)) Q E s:=by
 obtain ⟨z,hd,vs,rel,dd⟩:=uw I.hok g
 exact wpAny_in_of (knd:=QS X.prog X.w) (k:=none) rfl hd (map_none dd) (h _ (I.tok _))
def dbI (S:List Int):List (Key × V):=S.map fun i=>(.inl i,.bl true)
def V4:R2:=fun x y H Q=>∃ p kvs,y = .ref p∧Rd H p (.dK kvs)∧((x = .non∧Q (.bl false) H)∨∃ k,x=kV k∧Q (.bl (m6 kvs k).isSome) H)
theorem S7 {X:Cx} (hu:X.A.units + 64 < cLine):OpR X (compareOp .In) V4:=by
 intro pins s σ H x y v u Q I rx ry h
 obtain ⟨p,kvs,rfl,g,h⟩:=h
 obtain rfl:u=Value.ref p:=ry
 rcases h with ⟨rfl,q⟩ | ⟨k,rfl,q⟩
 ·obtain rfl:v=Value.none:=rx
  exact G_ I g fun s' I'=>⟨.bl false,H,I',rfl,q⟩
 ·exact VN (by omega) I (.inl ⟨kvs,k,g,rfl,rfl⟩) rx fun s' I'=>⟨.bl (m6 kvs k).isSome,H,I',rfl,q⟩
theorem JW:∀ {kvs:List (D × D)} {S:List Int},bsD kvs=some S→dk0 kvs=dbI S
 | [],S,h=>by cases h;rfl
 | (a,b) :: r,S,h=>by
  unfold bsD at h
  split at h
  ·next e=>cases e
  ·next i r' e =>
   cases e
   cases e3:bsD r with
   | none=>rw [e3] at h;cases h
   | some S' =>
    rw [e3] at h
    cases h
    rw [dk0,JW e3]
    rfl
  ·cases h
theorem zE:∀ {kvs:List (D × D)} {S:List Int},bsD kvs=some S→CP kvs=true
 | [],_,_=>rfl
 | (a,b) :: r,S,h=>by
  unfold bsD at h
  split at h
  ·next e=>cases e
  ·next e =>
   cases e
   cases e3:bsD r with
   | none=>rw [e3] at h;cases h
   | some S=>exact (show CP r=true from zE e3)
  ·cases h
theorem Du {kvs:List (D × D)} {S:List Int} (h:bsD kvs=some S):dh0 kvs = .dK (dbI S):=by
 rw [← JW h]
 cases kvs with
 | nil=>rfl
 | cons q r =>
  obtain ⟨k,v⟩:=q
  unfold dh0
  cases k with
  | int i=>rfl
  | _=>unfold bsD at h;cases h
theorem Og {K:PySem.W.Frag} {ok:Ok} {pl:Bool} {H:Hp} {v:V} {x:D} {S:List Int} (e:GZ x=some S) (r:RA K ok pl H v x):∃ a,v = .ref a∧L2.Rd H a (.dK (dbI S)):=by
 cases x with
 | dict kvs =>
  obtain ⟨a,rfl,h⟩:=r.dicE (zE e)
  rw [Du e] at h
  exact ⟨a,rfl,h⟩
 | _=>cases e
theorem JX:∀ (S:List Int) (i:Int),(m6 (dbI S) (Sum.inl i)).isSome=decide (i ∈ S)
 | [],i=>rfl
 | q :: S,i=>by
  unfold dbI
  rw [bJ]
  by_cases h:q=i
  ·subst h
   rw [qz rfl]
   simp
  ·rw [qH (fun z=>h (by injection z))]
   have:=JX S i
   unfold dbI at this
   rw [this]
   have h2:¬ i=q:=fun z=>h z.symm
   simp [h2]
theorem S8 (S:List Int) (i:Int):putK (dbI S) (Sum.inl i) (.bl true)=dbI (vQ S i):=by
 unfold putK vQ dbI
 have e:((S.map fun i=>((Sum.inl i,V.bl true):Key × V)).any fun q=>decide (q.1=Sum.inl i))=decide (i ∈ S):=by
  induction S with
  | nil=>rfl
  | cons q S ih =>
   rw [bJ,lO,ih]
   by_cases h:q=i
   ·subst h;simp
   ·have h2:¬ i=q:=fun z=>h z.symm
    simp [h2,h]
 rw [e]
 by_cases h:i ∈ S
 ·rw [dTr h,if_pos rfl,if_pos h,dU]
  refine gO fun q _=>?_
  show (if (Sum.inl q:Key)=Sum.inl i then ((Sum.inl q:Key),V.bl true) else (Sum.inl q,V.bl true))=_
  split <;> rfl
 ·rw [dFa h,if_neg dN,if_neg h,cL]
  rfl
theorem V5 {K:PySem.W.Frag}:BrO K V4 wV:=by
 intro H x y dx dy d Q rx ry e q
 obtain ⟨S,e4,e5⟩:=bind1 e
 obtain ⟨p,rfl,hp⟩:=Og e4 ry
 split at e5
 ·next i =>
  cases e5
  obtain rfl:=RA.intE rx
  refine ⟨p,_,rfl,hp,.inr ⟨.inl i,rfl,?_⟩⟩
  rw [JX]
  exact q _ rfl (.bl _)
 ·cases e5
  obtain rfl:=RA.nonE rx
  exact ⟨p,_,rfl,hp,.inl ⟨rfl,q _ rfl (.bl _)⟩⟩
 ·cases e5
section
variable {K:PySem.W.Frag} {fl:List Fl}
theorem JZ {G:Gh} {ow:Ow} {σ:L2.St} {H:Hp} {δ:DS} {i:Nat} {x:D} {S:List Int} (R:Rel K fl G ow σ H δ) (hfl:fl[i]? = some .N) (hx:aD i δ=some x) (hq:GZ x=some S) :
 ∃ a,σ[i]? = some (some (.ref a))∧H a=some (.dK (dbI S))∧∀ H',Same H H'→∀ S',∃ ow',Rel K fl G ow' σ (upd H' a (.dK (dbI S'))) (δ.set i (some (.d (dsB S')))):=by
 have e:=lq hx
 have hi:i < δ.length:=by
  rcases fW i δ.length with z | z
  ·exact z
  ·rw [bf z] at e;cases e
 obtain ⟨v,h1,h2,h3⟩:=R.nr i x (by rw [hfl];rfl) e
 generalize hN:ow.n i=as at h2 h3
 cases h2 with
 | dic ha hg =>
  rename_i a u kvs
  rw [hg.old (zE hq)] at ha
  have ha':=ha
  rw [Du hq] at ha'
  refine ⟨a,h1,ha',fun H' s S'=>?_⟩
  refine (R.grow s).mutN (as:=[a]) hfl hi (by rw [hN];exact oK _) (s _ _ ha) h1 ?_ (fun b hb=>by rw [hN];exact hb) (bU.mpr ⟨g_,.nil⟩)
  refine .dic dg (.inl ⟨zE (Fi S'),?_⟩)
  rw [Du (Fi S')]
 | non=>cases hq
 | bl _=>cases hq
 | int _=>cases hq
 | str _=>cases hq
 | lst _ _=>cases hq
 | tup _ _=>cases hq
end
section
variable {X:Cx} {fl:List Fl} {e a b c ke:Expr} {f fa fb fc fk:FE} {pos:Pos}
theorem Oh (hu:X.A.units + 1 < cLine) {i:Nat} {x:Str} {vpos spos:Pos} (hfl:fl[i]? = some .N) (he:PE X e (tC (.bl true))) (hk:DE X fl .P ke fk) (hN:X.N[i]? = some x) (hv:Vis X.env.scope x:=by first | exact Or.inl rfl | exact Or.inr (Or.inl rfl) | exact Or.inr (Or.inr rfl)) (hd:(x == ("__debug__" : Str))=false:=by decide)
 (hcd:(x == ("__classdict__" : Str))=false:=by decide) (ha:∀ v,assign (.Subscript (.Name x vpos) ke spos) X.env v=(do
  let ov ← holding [v] (eval (.Name x vpos) X.env)
  let iv ← holding [v,ov] (eval ke X.env)
  standAt spos
  holding [v,ov,iv] (setItem ov iv v)
  release [v,ov,iv] []):=by intro _;rfl)
 (hs:swapsWithSole [.Subscript (.Name x vpos) ke spos] e pos.line X.env=pure false:=by rfl) (hw:swappedStores [.Subscript (.Name x vpos) ke spos] e X.env=pure none:=by rfl)
 (h1:(assignEach [.Subscript (.Name x vpos) ke spos] X.env).map (·.2)=[assign (.Subscript (.Name x vpos) ke spos) X.env]:=by rfl) :
 DS1 X fl (.Assign [.Subscript (.Name x vpos) ke spos] e pos) (Bq i fk) :=
 PS.imp (Cr he (Ik (mQ hN hv hd hcd) hk (JT hu) ha) hs hw h1) fun Dn σ H h=>by
 obtain ⟨G,ow,δ,o,R,hf,q⟩:=h
 obtain ⟨y,e1,hf⟩:=bind1 hf
 obtain ⟨z,e2,hf⟩:=bind1 hf
 obtain ⟨S,e3,hf⟩:=bind1 hf
 split at hf
 case h_2=>cases hf
 next k _ =>
 by_cases hc:S.length < 1000000
 case neg=>rw [if_neg hc] at hf;cases hf
 rw [if_pos hc] at hf
 cases hf
 obtain ⟨p,h1,h2,h3⟩:=JZ R hfl e1 e3
 refine ⟨_,h1,G,ow,δ,_,R,e2,fun u H2 s2 r2=>?_⟩
 obtain rfl:=RA.intE r2
 obtain ⟨ow',R'⟩:=h3 H2 s2 (vQ S k)
 refine ⟨p,dbI S,.inl k,rfl,rfl,s2 _ _ h2,by unfold dbI;rw [aG];exact jH hc (by decide),?_⟩
 rw [S8]
 exact q ow' σ _ R'
end
end XB
namespace XD
open PySem PySem.Spec PyProof.Rows L2 My D3 XK
theorem Fq:∀ ds:List D,scD ds=scs ds
 | []=>rfl
 | .int _ :: r=>Fq r
 | .none :: r=>Fq r
 | .bool _ :: _=>rfl
 | .str _ :: _=>rfl
 | .list _ :: _=>rfl
 | .tuple _ :: _=>rfl
 | .dict _ :: _=>rfl
theorem Dv {K:PySem.W.Frag} {ok:Ok} {pl:Bool} {H:Hp}:∀ {ds:List D},scs ds=true→RAs K ok pl H (ds.map scV) ds
 | [],_=>.nil
 | .int i :: r,h=>.cons (.int i) (Dv h)
 | .none :: r,h=>.cons .non (Dv h)
theorem Dw {K:PySem.W.Frag} {ok:Ok} {pl:Bool} {H:Hp}:∀ {ds:List D} {xs:List V},scs ds=true→RAs K ok pl H xs ds→xs=ds.map scV
 | [],_,_,.nil=>rfl
 | .int i :: r,_ :: _,h,.cons a q=>by
  have h1:=RA.intE a
  have h2:=Dw (show scs r=true from h) q
  subst h1 h2
  rfl
 | .none :: r,_ :: _,h,.cons a q=>by
  have h1:=RA.nonE a
  have h2:=Dw (show scs r=true from h) q
  subst h1 h2
  rfl
theorem zF:∀ {ds:List D},scs ds=true→flats ds=true
 | [],_=>rfl
 | .int i :: r,h=>by rw [flats,aL];exact ⟨rfl,zF h⟩
 | .none :: r,h=>by rw [flats,aL];exact ⟨rfl,zF h⟩
theorem Oi {d:D} (h:tvD d=true):flat d=true:=by
 cases d with
 | none=>rfl
 | tuple ds =>
  have:=zF (show scs ds=true by rw [← Fq];exact h)
  simpa [flat] using this
 | _=>cases h
theorem V6 {K:PySem.W.Frag} {ok:Ok} {pl:Bool} {H:Hp} {v:V} {d:D} (t:TV H v d):RA K ok pl H v d:=by
 rcases t with ⟨rfl,rfl⟩ | ⟨b,ds,rfl,rfl,h1,h2⟩
 ·exact .non
 ·exact .tup h1 (Dv h2)
theorem V7 {K:PySem.W.Frag} {ok:Ok} {pl:Bool} {H:Hp} {v:V} {d:D} (h:tvD d=true) (r:RA K ok pl H v d):TV H v d:=by
 cases d with
 | none=>exact .inl ⟨RA.nonE r,rfl⟩
 | tuple ds =>
  have hs:scs ds=true:=by rw [← Fq];exact h
  obtain ⟨a,xs,rfl,h1,h2⟩:=r.tupE0
  rw [Dw hs h2] at h1
  exact .inr ⟨a,ds,rfl,rfl,h1,hs⟩
 | _=>cases h
theorem QT {H:Hp} {u:HO} {S:List (Int × D)} (g:DH H u (tvP S)) (h:tvA S=true):∃ ks,u = .dK ks∧TVs H ks (tvP S):=by
 rcases g with ⟨g1,g2⟩ | g
 ·cases S with
  | nil=>exact ⟨[],g2,.nil⟩
  | cons q S =>
   exfalso
   rw [tvA,lN,aL] at h
   obtain ⟨i,d⟩:=q
   have hd:tvD d=true:=h.1
   cases d <;> first | (cases hd;done) | exact absurd g1 dN
 ·exact g
theorem uO {K:PySem.W.Frag} {ok:Ok} {pl:Bool} {H:Hp} {v:V} {x:D} {S:List (Int × D)} (e:uG x=some S) (r:RA K ok pl H v x):∃ a ks,v = .ref a∧L2.Rd H a (.dK ks)∧TVs H ks (tvP S):=by
 cases x with
 | dict kvs =>
  obtain ⟨h1,rfl⟩:=tE e
  obtain ⟨a,u,rfl,h2,g⟩:=r.dicU
  obtain ⟨ks,rfl,t⟩:=QT g h1
  exact ⟨a,ks,rfl,h2,t⟩
 | _=>cases e
theorem zG {H:Hp}:∀ {S:List (Int × D)} {ks:List (Key × V)} (i:Int),TVs H ks (tvP S)→(eE S i=none∧m6 ks (Sum.inl i)=none)∨∃ d v,eE S i=some d∧m6 ks (Sum.inl i)=some v∧TV H v d
 | [],_,i,h=>by cases h;exact .inl ⟨rfl,rfl⟩
 | q :: S,_,i,h=>by
  cases h with
  | cons t r =>
   rename_i v r0
   by_cases e:q.1=i
   ·refine .inr ⟨q.2,v,?_,qz (by rw [e]),t⟩
    simp [eE,e]
   ·rw [qH (fun z=>e (by injection z))]
    have:eE (q :: S) i=eE S i:=by simp [eE,e]
    rw [this]
    exact zG i r
theorem Bv {H:Hp} {v:V} {d:D} {k:Int} (t:TV H v d):∀ {S:List (Int × D)} {ks:List (Key × V)},TVs H ks (tvP S)→TVs H (ks++[(.inl k,v)]) (tvP (S++[(k,d)]))
 | [],_,h=>by cases h;exact .cons t .nil
 | q :: S,_,h=>by
  cases h with
  | cons t' r=>exact .cons t' (Bv t r)
theorem zH {H:Hp} {a:Addr} {S:List (Int × D)} {ks:List (Key × V)} (i:Int) (h:L2.Rd H a (.dK ks)) (t:TVs H ks (tvP S)):∃ o,wX H a (.int i) o∧o.isSome=(eE S i).isSome∧∀ d,eE S i=some d→∃ v,o=some v∧TV H v d:=by
 rcases zG i t with ⟨h1,h2⟩ | ⟨d,v,h1,h2,h3⟩
 ·exact ⟨none,.inl ⟨ks,.inl i,h,rfl,h2.symm⟩,by rw [h1];rfl,fun d z=>by rw [h1] at z;cases z⟩
 ·exact ⟨some v,.inl ⟨ks,.inl i,h,rfl,h2.symm⟩,by rw [h1];rfl,fun d' z=>by rw [h1] at z;cases z;exact ⟨v,rfl,h3⟩⟩
theorem S9 {K:PySem.W.Frag}:BrO K V0 Br:=by
 intro H x y dx dy d Q rx ry e q
 obtain ⟨S,e4,e5⟩:=bind1 e
 obtain ⟨p,ks,rfl,hp,t⟩:=uO e4 ry
 split at e5
 ·next i =>
  cases e5
  obtain rfl:=RA.intE rx
  obtain ⟨o,g1,g2,_⟩:=zH i hp t
  refine ⟨p,o,rfl,g1,?_⟩
  rw [g2]
  exact q _ rfl (.bl _)
 ·cases e5
theorem Hf {K:PySem.W.Frag}:BrO K Fj tu:=by
 intro H x y dx dy d Q rx ry e q
 obtain ⟨S,e4,e5⟩:=bind1 e
 obtain ⟨p,ks,rfl,hp,t⟩:=uO e4 ry
 split at e5
 ·next i =>
  cases e5
  obtain rfl:=RA.intE rx
  obtain ⟨o,g1,g2,_⟩:=zH i hp t
  refine ⟨p,o,rfl,g1,?_⟩
  rw [g2]
  exact q _ rfl (.bl _)
 ·cases e5
section
variable {X:Cx} {fl:List Fl} {e a b c ke ve:Expr} {f fa fb fc fk fv:FE} {pos:Pos}
theorem S_ {S:List (Int × D)} {i:Int} {d:D} (h:tvA S=true) (e:eE S i=some d):tvD d=true:=by
 unfold eE at e
 cases e1:S.find? fun q=>decide (q.1=i) with
 | none=>rw [e1] at e;cases e
 | some q =>
  rw [e1] at e
  cases e
  exact eZ.mp h q (nO e1)
theorem wg (hu:X.A.units + 1 < cLine) (ha:DE X fl .P a fa) (hb:DE X fl .P b fb) (hs:SM b):DE X fl .FC (.Subscript a b pos) (dOp pL fa fb):=PE.imp (N8 hu ha hb hs) fun σ H Q h=>by
 obtain ⟨G,ow,δ,d,R,hf,q⟩:=h
 obtain ⟨x,y,e1,e2,e3⟩:=Ba hf
 refine ⟨G,ow,δ,x,R,e1,fun v H1 s1 r1=>⟨G,ow,δ,y,R.grow s1,e2,fun u H2 s2 r2=>?_⟩⟩
 obtain ⟨S,e4,e5⟩:=bind1 e3
 obtain ⟨p,ks,rfl,hp,t⟩:=uO e4 r1
 split at e5
 ·next i =>
  obtain rfl:=RA.intE r2
  obtain ⟨o,g1,g2,g3⟩:=zH i (Ob s2 hp) (t.imp fun _ _ z=>jR.same s2 z)
  obtain ⟨w,rfl,tw⟩:=g3 d e5
  have hA:tvA S=true:=by
   cases x with
   | dict kvs=>exact (tE e4).1
   | _=>cases e4
  exact ⟨p,w,rfl,g1,q _ H2 (s1.trans s2) (.inl ⟨Oi (S_ hA e5),V6 tw⟩)⟩
 ·cases e5
end
section
variable {K:PySem.W.Frag} {fl:List Fl}
theorem Tc {G:Gh} {ow:Ow} {σ:L2.St} {H:Hp} {δ:DS} {i:Nat} {x:D} {S:List (Int × D)} (R:Rel K fl G ow σ H δ) (hfl:fl[i]? = some .N) (hx:aD i δ=some x) (hq:uG x=some S) :
 ∃ a ks,σ[i]? = some (some (.ref a))∧H a=some (.dK ks)∧TVs H ks (tvP S)∧∀ H',Same H H'→∀ ks' S',TVs H' ks' (tvP S')→∃ ow',Rel K fl G ow' σ (upd H' a (.dK ks')) (δ.set i (some (.d (dtv S')))):=by
 have e:=lq hx
 have hi:i < δ.length:=by
  rcases fW i δ.length with z | z
  ·exact z
  ·rw [bf z] at e;cases e
 obtain ⟨v,h1,h2,h3⟩:=R.nr i x (by rw [hfl];rfl) e
 generalize hN:ow.n i=as at h2 h3
 cases h2 with
 | dic ha hg =>
  rename_i a u kvs
  obtain ⟨hA,rfl⟩:=tE hq
  obtain ⟨ks,rfl,t⟩:=QT hg hA
  refine ⟨a,ks,h1,ha,t,fun H' s ks' S' t'=>?_⟩
  refine (R.grow s).mutN (as:=[a]) hfl hi (by rw [hN];exact oK _) (s _ _ ha) h1 ?_ (fun b hb=>by rw [hN];exact hb) (bU.mpr ⟨g_,.nil⟩)
  exact .dic dg (.inr ⟨ks',rfl,t'.imp fun _ _ z=>jR.upd (s _ _ ha) z⟩)
 | non=>cases hq
 | bl _=>cases hq
 | int _=>cases hq
 | str _=>cases hq
 | lst _ _=>cases hq
 | tup _ _=>cases hq
end
section
variable {X:Cx} {pins:List (Addr × Obj)} {σ:L2.St} {H:Hp} {s:Shared} {a:Addr} {kvs:List (Key × V)} {k:Key} {z:V} {u r:Value} {A:Around} {E:Value→Shared→Prop}
theorem J0 {Q:Value→Shared→Prop} (I:L2.Inv X pins σ H s) (e:H a=some (.dK kvs)) (hl:kvs.length < sizeLine) (ry:RelV (kV k) u) (rz:RelV z r)
 (h1:∀ v w' s',m6 kvs k=some v→L2.Inv X pins σ H s'→RelV v w'→Q w' s') (h2:∀ s',m6 kvs k=none→L2.Inv X pins σ (upd H a (.dK (kvs++[(k,z)]))) s'→Q r s') :
 wpAny (model X.prog X.w) A (call (.builtin "dict.setdefault") [.ref a,u,r]) Q E s:=by
 obtain ⟨z0,hd,vs,rel,dd⟩:=JQ I.hok e
 refine call_meetsIn PySem.F.slot_dict_setdefault dd.typeIs PySem.F.entry_dict_setdefault (PySem.F.args_dict_setdefault_3 _ _ _) (kt_meets_setdefault (fH X.prog X.w) a (vW ry) hd r)
  ⟨vs,dd,by rw [← rel.length];exact z0,fun w' hw=>?_,fun hw h' dd' hs=>?_⟩
 ·have q:=rel.val k
  rw [hw] at q
  cases e1:m6 kvs k with
  | none=>rw [e1] at q;cases q
  | some v =>
   rw [e1] at q
   exact h1 v w' _ e1 (I.tok _) q
 ·have q:=rel.val k
  rw [hw] at q
  have e1:m6 kvs k=none:=by
   cases e1:m6 kvs k with
   | none=>rfl
   | some v=>rw [e1] at q;cases q
  have he:∃ q,h'.get? a=some q:=let ⟨q,_,_,hq,_⟩:=dd';⟨q,hq⟩
  refine h2 _ e1 (uN I (by rw [e];exact True.intro) hs he (Ds ?_ hd ?_ dd'))
  ·rw [bH];exact hl
  ·rw [← JN z e1]
   exact rel.put k rz
end
def V8 (td ty tx:TE):TE:=fun σ H Q=>td σ H fun x H1=>∃ a,x = .ref a∧IsD H1 a∧ty σ H1 fun y H2=>tx σ H2 fun z H3=>∃ kvs k,H3 a=some (.dK kvs)∧kvs.length < sizeLine∧y=kV k ∧
 (∀ v,m6 kvs k=some v→Q v H3)∧(m6 kvs k=none→Q z (upd H3 a (.dK (kvs++[(k,z)]))))
section
variable {X:Cx} {o e f:Expr} {apos cpos:Pos} {td ty tx:TE}
theorem Oj (ho:PE X o td) (he:PE X e ty) (hf:PE X f tx) (m:M2 X o "setdefault" apos e f cpos):PE X (.Call (.Attribute o "setdefault" apos) [e,f] [] cpos) (V8 td ty tx):=by
 intro pins s σ H Q I h
 refine wpAny_Call_method m.base m.few m.line PySem.F.plainAttrs_dict PySem.F.slot_dict_setdefault PySem.F.type_dict_setdefault (thn (ho pins s σ H _ I h) fun u s1 ⟨x,H1,I1,rx,a,ex,d,q1⟩=>?_)
 subst ex
 obtain rfl:u=Value.ref a:=rx
 obtain ⟨t1,t2,_⟩:=SN I1 d
 refine ⟨t1,t2,?_⟩
 rw [m.trees]
 refine Calls.callWith_builtin rfl (Calls.evalArgs_plain (Calls.spliced_cons (thn (he pins s1 σ H1 _ I1 q1) fun iv s2 ⟨y,H2,I2,ry,q2⟩ =>
  Calls.spliced_cons (thn (hf pins s2 σ H2 _ I2 q2) fun fv s3 ⟨z,H3,I3,rz,kvs,k,ea,hl,ey,q3,q4⟩=>Calls.spliced_nil ?_))))
 subst ey
 exact J0 I3 ea hl ry rz (fun v w' s4 l I4 rw'=>⟨v,H3,I4,rw',q3 v l⟩) fun s4 l I4=>⟨z,_,I4,rz,q4 l⟩
end
section
variable {X:Cx} {fl:List Fl} {ke ve:Expr} {fk fv:FE} {pos:Pos}
theorem Ft {H:Hp}:∀ {S:List (Int × D)} {ks:List (Key × V)},TVs H ks (tvP S)→ks.length=S.length
 | [],_,h=>by cases h;rfl
 | q :: S,_,h=>by
  cases h with
  | cons _ r=>rw [bQ,bQ,Ft r]
theorem Td {y:D} {S:List (Int × D)} (e:uG y=some S):dtv S=y:=by
 cases y with
 | dict kvs=>rw [dtv,(tE e).2]
 | _=>cases e
theorem set_same {δ:DS} {i:Nat} {y:D} (h:δ[i]? = some (some (.d y))):δ.set i (some (.d y))=δ:=by
 apply dY
 intro j
 rw [kO]
 split
 ·next z =>
  subst z
  split
  ·exact h.symm
  ·next z=>rw [bf (Nat.le_of_not_lt z)] at h;cases h
 ·rfl
theorem Te {i:Nat} {x:Str} {vpos apos cpos:Pos} (hfl:fl[i]? = some .N) (hk:DE X fl .P ke fk) (hw:DE X fl .P ve fv) (hN:X.N[i]? = some x) (hm:M2 X (.Name x vpos) "setdefault" apos ke ve cpos) (hv:Vis X.env.scope x:=by first | exact Or.inl rfl | exact Or.inr (Or.inl rfl) | exact Or.inr (Or.inr rfl)) (hd:(x == ("__debug__" : Str))=false:=by decide)
 (hcd:(x == ("__classdict__" : Str))=false:=by decide) (hs:swapsWith (.Call (.Attribute (.Name x vpos) "setdefault" apos) [ke,ve] [] cpos) none pos.line X.env=pure false:=by rfl) :
 DS1 X fl (.Expr (.Call (.Attribute (.Name x vpos) "setdefault" apos) [ke,ve] [] cpos) pos) (vU i fk fv):=PS.imp (sJ (Oj (mQ hN hv hd hcd) hk hw hm) hs) fun Dn σ H hh=>by
 obtain ⟨G,ow,δ,o,R,hf,q⟩:=hh
 obtain ⟨y,e1,hg⟩:=bind1 hf
 clear hf
 obtain ⟨kk,e2,hf⟩:=bind1 hg
 clear hg
 obtain ⟨zz,e3,hg⟩:=bind1 hf
 clear hf
 obtain ⟨S,e4,hf⟩:=bind1 hg
 clear hg
 split at hf
 case h_2=>cases hf
 next k =>
 by_cases hc:tvD zz=true∧S.length < 1000000
 case neg=>rw [if_neg hc] at hf;cases hf
 rw [if_pos hc] at hf
 cases hf
 obtain ⟨p,ks,h1,h2,h3,h4⟩:=Tc R hfl e1 e4
 refine ⟨_,h1,p,rfl,.inl ⟨_,.inl h2⟩,G,ow,δ,_,R,e2,fun u H1 s1 r1=>⟨G,ow,δ,_,R.grow s1,e3,fun w H2 s2 r2=>?_⟩⟩
 obtain rfl:=RA.intE r1
 have t2:TV H2 w zz:=V7 hc.1 r2
 have s12:=s1.trans s2
 have h3':TVs H2 ks (tvP S):=h3.imp fun _ _ z=>jR.same s12 z
 refine ⟨ks,.inl k,s12 _ _ h2,by rw [Ft h3];exact jH hc.2 (by decide),rfl,fun v hv'=>?_,fun hv'=>?_⟩
 ·have hx:nT S k zz=S:=by
   unfold nT
   rcases zG k h3' with ⟨_,b⟩ | ⟨d,v',a,b,_⟩
   ·rw [b] at hv';cases hv'
   ·rw [if_pos (by rw [a];rfl)]
  rw [hx] at q
  rw [Td e4,set_same (lq e1)] at q
  exact q ow σ _ (R.grow s12)
 ·have hx:nT S k zz=S++[(k,zz)]:=by
   unfold nT
   rcases zG k h3' with ⟨a,_⟩ | ⟨d,v',a,b,_⟩
   ·rw [if_neg (by rw [a];simp)]
   ·rw [b] at hv';cases hv'
  rw [hx] at q
  obtain ⟨ow',R'⟩:=h4 H2 s12 (ks++[(.inl k,w)]) (S++[(k,zz)]) (Bv t2 h3')
  exact q ow' σ _ R'
theorem J1 {j:Nat} {p1:Pos} (hk:DE X fl .P ke fk):DE X fl .T (.Dict [some ke] [.Constant .none j p1] pos) (vR fk):=PE.imp (Oa (JR hk HY N_) rfl rfl (by intro z;cases z) (show 1 ≤ 15 by decide)) fun σ H Q h=>by
 obtain ⟨G,ow,δ,d,R,hf,q⟩:=h
 obtain ⟨y,e1,e2⟩:=bind1 hf
 split at e2
 case h_2=>cases e2
 next i =>
 cases e2
 intro p hp
 refine ⟨G,ow,δ,_,R.grow (dW hp _),e1,fun v H1 s1 r1=>?_⟩
 obtain rfl:=RA.intE r1
 refine ⟨s1 _ _ dg,[(.inl i,.non)],rfl,(show 1 ≤ 15 by decide),q _ _ (fun b0 o e=>?_) ⟨[p],.dic dg (.inr ⟨_,rfl,.cons (.inl ⟨rfl,rfl⟩) .nil⟩),bU.mpr ⟨g_,.nil⟩,fun x hx=>by rw [aK.mp hx];exact hp⟩⟩
 have ne:b0 ≠ p:=jh e hp
 rw [cI ne]
 exact s1 _ _ (by rw [cI ne];exact e)
end
end XD
namespace XD
open PySem PySem.Spec PyProof.Rows L2 My D3 XK
section
variable {X:Cx} {fl:List Fl} {e:Expr} {pos:Pos}
theorem zJ (hc:X.calm=true):nu X (.builtin "sorted") (fun xs H Q=>∃ (p:Addr) (ks:List (Key × V)) (is:List Int),xs=[.ref p]∧L2.Rd H p (.dK ks)∧ks.map (·.1)=is.map Sum.inl∧is.length < 64∧∀ l,H l=none→Q (.ref l) (upd H l (.lst ((oO is).map V.int)))):=by
 intro pins s σ H xs us Q I r h
 obtain ⟨p,ks,is,rfl,hx,hK,h64,q⟩:=h
 obtain ⟨u,rfl,rx⟩:=vals1 r
 cases rx
 obtain ⟨_,hd,vs,rel,dd⟩:=uw I.hok hx
 obtain ⟨ep,hat⟩:=dd.dictAt
 have hv:vs.map (·.1)=is.map Sum.inl:=by rw [← rel.keys];exact hK
 have hlen:vs.length=is.length:=by
  have:=congrArg List.length hv
  rwa [aG,aG] at this
 refine Calls.call_function_entry kind_sorted plain_sorted entry_sorted (args_sorted1 _) ?_
 unfold Builtin.«sorted»
 refine wpAny_bind (m:=checkCount "sorted" 1 1 _) (wpAny_pure ?_)
 refine wpAny_bind (PySem.W.kdu_collect (A:=X.A.in1) (PySem.W.kdl_dict (knd:=fH X.prog X.w) (kvs:=vs) (ep:=ep) hd) (I.ok.hd hc) hat (by rw [hlen];exact bM (fV h64) (by decide)) fun h' tk acc hk hacc=>?_)
 have hl:acc.toList.length=is.length:=by rw [mV,hacc.1,hlen]
 have hI:IntsAre acc.toList is:=Fo _ _ hl fun j v hv'=>by
  obtain ⟨k,x,hkx,his⟩:=hacc.2 j v (by rw [← Array.getElem?_toList];exact hv')
  have e1:(vs.map (·.1))[j]? = some k:=by rw [aQ,hkx];rfl
  rw [hv,aQ] at e1
  cases e2:is[j]? with
  | none=>rw [e2] at e1;cases e1
  | some i =>
   rw [e2] at e1
   have e3:k=Sum.inl i:=by
    cases e1
    rfl
   subst e3
   rw [Cq] at his
   obtain ⟨t,rfl⟩:∃ t,v=Value.int i t:=Value.isInt_shape his
   exact ⟨i,t,rfl,rfl⟩
 have I1:L2.Inv X pins σ H { s with heap:=h',toks:=tk }:=I.kept hk
 refine wpAny_bind (wpAny_newList ?_ (by rw [hl];exact bM (fV h64) (by decide)))
 have hoL:(h'.push (seqObj "list" acc.toList.toArray 0)).get? h'.objs.size=some (seqObj "list" acc.toList.toArray 0):=Heap.get?_push_size _ rfl
 show wpAny _ _ _ _ _ { s with heap:=h'.push (seqObj "list" acc.toList.toArray 0),toks:=tk }
 refine wpAny_bind (wpAny_holding (wpAny_call_entry slot_list_sort ⟨_,hoL,rfl⟩ entry_list_sort (list_sort_tree hoL hI (by rw [hl];exact h64) fun out ns' a1 a2 a3=>⟨_,rfl,?_⟩) (args_list_sort _)))
 refine wpAny_pure ⟨_,rfl,?_⟩
 obtain rfl:=tZ (a2.trans (iZ _).symm) a3 (nZ _)
 obtain ⟨e,he⟩:=sortedHeap_at (out:=out) hoL
 have hn:H h'.objs.size=none:=I1.hok.fresh (aZ _)
 have ll:(oO is).length=is.length:=(iZ _).length_eq
 have I2:=I1.laid (h':=sortedHeap (h'.push (seqObj "list" acc.toList.toArray 0)) h'.objs.size acc.toList out) (t':=tk) (a:=h'.objs.size) (o:=.lst ((oO is).map V.int)) (fun b u e=>by
  have hlt:=Heap.lt_size e
  rw [sortedHeap_old (bO hlt) (by rw [size_push'];exact Nat.lt_succ_of_lt hlt)]
  exact Heap.get?_push_of_some _ e) (aZ _)
  ⟨by rw [aG,ll];exact bM (fV h64) (by decide),out.toList,e,D3.m8 a1,by simpa [seqObj] using he⟩
 exact ⟨.ref _,_,I2,rfl,q _ hn⟩
theorem Bw {H:Hp}:∀ {S:List (Int × D)} {ks:List (Key × V)},TVs H ks (tvP S)→ks.map (·.1)=(S.map (·.1)).map Sum.inl
 | [],_,h=>by cases h;rfl
 | q :: S,_,h=>by
  cases h with
  | cons _ r=>rw [bJ,Bw r];rfl
theorem Hg (hc:X.calm=true) {fa:FA} {p:Pos} (ha:DB X fl .P [e] fa) (hg:Gl X "sorted") (hm:X.mg "sorted" = none)
 (he:starEach [e] X.env=(false,eval e X.env) :: starEach [] X.env:=by rfl) (hpl:(backTo pos (starEach [] X.env)).any (·.1)=false:=by rfl):DE X fl .FC (.Call (.Name "sorted" p) [e] [] pos) (dCall tG fa) :=
 PE.imp (oN (zJ hc) hg hm (show bootBuiltins "sorted" = some (.builtin "sorted") by decide +kernel) ha (by decide) (by decide) he hpl) fun σ H Q h=>by
 obtain ⟨G,ow,δ,d,R,hf,q⟩:=h
 obtain ⟨ds,e1,e2⟩:=bind1 hf
 refine ⟨G,ow,δ,ds,R,e1,fun vs H' s r'=>?_⟩
 unfold tG at e2
 split at e2
 ·next x =>
  obtain ⟨S,e3,e4⟩:=bind1 e2
  by_cases hS:S.length < 64
  ·rw [if_pos hS] at e4
   cases e4
   cases r' with
   | cons r1 r2 =>
    cases r2
    obtain ⟨a,ks,rfl,hx,t⟩:=uO e3 r1
    exact ⟨a,ks,S.map (·.1),rfl,hx,Bw t,by rw [aG];exact hS,fun l hn=>q _ _ (s.trans (dW hn _)) (.inr ⟨_,_,_,rfl,rfl,s.free hn,dg,qY _⟩)⟩
  ·rw [if_neg hS] at e4;cases e4
 ·cases e2
end
end XD
namespace XL
open PySem PySem.Spec PySem.W PyProof.Rows L2 My D3
abbrev Hh (x y:Str) (p1 p2 p3 p4 p5:Pos) (kd:Nat):Expr:=.Subscript (.Subscript (.Name x p1) (.Name y p2) p3) (.Constant (.int 0) kd p4) p5
section
variable {prog:Program} {w:World} {A:Around} {R:Result→Shared→Prop} {s:Shared} {f c' a b cell:Addr} {nm q x y:Str} {params:Arguments} {scope:Scope} {pm ctv:Value} {p1 p2 p3 p4 p5:Pos} {kd:Nat} {i k:Int} {j:Nat} {t t':Tok} {its its2:Array Value}
theorem J2 {x:Value} {E:Value→Shared→Prop} {Q:Value→Shared→Prop} (hl:s.heap.IsList a its) (hlo : -(its.size:Int) ≤ i) (hhi:i < its.size) (hsz:its.size ≤ sizeLine) (hsx:seqIndex? i its.size=some j) (hi:its[j]? = some x) (h:Q x s) :
 wpAny (model prog w) A (getItem (.ref a) (.int i t)) Q E s:=by
 have hn:=tQ
 by_cases h0:0 ≤ i
 ·have hj:i.toNat=j:=by
   rw [seqIndex_of h0 hhi] at hsx
   exact cV.inj hsx
  exact wpAny_getItem_list hl h0 (by omega) (by rw [hj];exact hi) h
 ·have hj:(i + (its.size:Int)).toNat=j:=by
   rw [seqIndex_neg (by omega) hlo] at hsx
   exact cV.inj hsx
  exact wpAny_getItem_list_neg hl (by omega) hlo (by omega) (by rw [hj];exact hi) h
theorem Ol (ho:s.heap.get? f=some (kla_obj nm q params (Hh x y p1 p2 p3 p4 p5 kd) scope [(x,cell)] pm c' ctv)) (hcd:s.heap.CodeRec (.ref c') q) (hroom:A.depth < recursionLimit) (hlim:s.heap.NoLimit)
 (hbind:∀ u,bindArgs (kla_fn nm q params (Hh x y p1 p2 p3 p4 p5 kd) scope [(x,cell)] pm (.ref c') ctv) ⟨[u],[]⟩=pure [(y,u)])
 (hco:scope.isCoroutine=false) (hgen:scope.isGenerator=false) (hk:scope.kind = .function) (hcell:∀ z ∈ scope.names,z.2 ≠ .cell) (hy:scope.names.lookup y=some .local) (hx:scope.names.lookup x=some .free)
 (hxd:(x == ("__debug__" : Str))=false) (hyd:(y == ("__debug__" : Str))=false) (hxc:(x == ("__classdict__" : Str))=false)
 (hc:s.heap.IsCell cell (some (.ref a))) (hl:s.heap.IsList a its) (hlo : -(its.size:Int) ≤ i) (hhi:i < its.size) (hsz:its.size ≤ sizeLine) (hsx:seqIndex? i its.size=some j) (hi:its[j]? = some (.ref b)) (ht:IsTup s.heap b its2) (hk0:its2[0]? = some (.int k t'))
 (h:∀ h' tk,(∀ b o,s.heap.get? b=some o→h'.get? b=some o)→R (.ok (.ret (.int k t'))) { s with heap:=h',toks:=tk }) :
 codeAny (model prog w) A (.call (.ref f) ⟨[.int i t],[]⟩) R s:=by
 refine kla_callFunE hroom ho rfl hco hgen rfl hcd ?_
 rw [hbind]
 refine wpAny_pure (wpAny_newFunctionEnv hcell (fun z hz=>?_) (fun h₁ hns hsb=>⟨hlim.fresh _ hsb,?_⟩) hk)
 ·rw [aK.mp hz]
  exact hy
 have hk₁:∀ b o,s.heap.get? b=some o→h₁.get? b=some o:=fun b o e=>hsb.extBut b o (bO (Heap.lt_size e)) (Heap.get?_push_of_some _ e)
 refine kla_codeExpr ?_
 have hl':h₁.IsList a its:=by
  obtain ⟨o,e1,e2⟩:=hl
  exact ⟨o,hk₁ _ _ e1,e2⟩
 have ht':IsTup h₁ b its2:=by
  obtain ⟨o,e1,e2⟩:=ht
  exact ⟨o,hk₁ _ _ e1,e2⟩
 refine Subscript_ ?_
 refine Subscript_ ?_
 refine wpAny_Name ?_ hxd
 refine wpAny_loadName_free (c:=cell) (v:=.ref a) hk hx ?_ ?_ ?_ hxc
 ·show um x [(x,cell)]=some cell
  simp
 ·obtain ⟨o,e1,e2⟩:=hc
  exact ⟨o,hk₁ _ _ e1,e2⟩
 refine wpAny_Name ?_ hyd
 refine wpAny_loadName_local (v:=.int i t) hk hy hns ?_ ?_
 ·simp
 refine subscriptTail_builtin (T := "list") (id := "list.__getitem__") ?_ PySem.F.slot_list_getitem.lookup ?_
 ·obtain ⟨o,e1,e2,_⟩:=hl'
  exact ⟨o,e1,e2⟩
 refine J2 hl' hlo hhi hsz hsx hi ?_
 refine wpAny_Constant_int ?_
 refine kba_turn (value':=PySem.Expr.Name (PySem.Str.ofString "_") ⟨0,0,0,0⟩) (fun _=>rfl) ?_
 refine subscriptTail_builtin (T := "tuple") (id := "tuple.__getitem__") ?_ PySem.F.slot_tuple_getitem.lookup ?_
 ·obtain ⟨o,e1,e2,_⟩:=ht'
  exact ⟨o,e1,e2⟩
 refine PyProof.Rows.getItem_tuple (j:=0) (x:=.int k t') ht' (by decide) (by decide) ?_ hk0 ?_
 ·have:0 < its2.size:=by
   rcases fW 0 its2.size with z | z
   ·exact z
   ·rw [Array.getElem?_eq_none z] at hk0;cases hk0
  unfold seqIndex?
  have h2:(0:Int) < (its2.size:Int):=by omega
  show (if (decide ((0:Int) ≤ 0) && decide ((0:Int) < (its2.size:Int)))=true then some (0:Int).toNat else none)=some 0
  rw [dTr (gY 0),dTr h2]
  rfl
 ·exact h h₁ _ hk₁
end
section
variable {M:Model} {A:Around} {E:Value→Shared→Prop} {s:Shared} {params:Arguments} {body:Expr} {scope:Scope} {env:Env} {c P:Addr} {pos:Pos} {mg:Str→Option Value} {clos:List (Str × Addr)} {Q:Value→Shared→Prop} {q:Str}
abbrev ent (pos:Pos) (c':Addr):Array Value:=#[rawInt pos.line,rawInt pos.col,.ref c']
theorem J3 (hq:env.qual ++ "<lambda>" = q) (hdef:defaultsOf params env=([],[])) (hcl:closureFor scope env=pure clos) (hge0:env.globals=mainGlobals) (hg:s.heap.Ns mainGlobals mg) (hcode:env.code = .ref c) (C:CodeHd s.heap c P) (hgP:mainGlobals ≠ P) (hb:s.heap.BuiltinsAt mg P)
 (hT:∃ ps,s.heap.get? P=some (tabObj ps)∧(ps = #[]∨∃ c',ps=ent pos c'∧s.heap.CodeRec (.ref c') q))
 (h:∀ f c' ctv h' tk,(∀ b o,b ≠ P→s.heap.get? b=some o→h'.get? b=some o)→h'.get? P=some (tabObj (ent pos c'))→(s.heap.get? P=some (tabObj (ent pos c'))∨(s.heap.get? P=some (tabObj #[])∧s.heap.objs.size ≤ c'∧c' ≠ f))→s.heap.objs.size ≤ f →
  h'.get? f=some (kla_obj "<lambda>" q params body scope clos ((mg "__name__").getD .none) c' ctv)→h'.CodeRec (.ref c') q→Q (.ref f) { s with heap:=h',toks:=tk }) :
 wpAny M A (eval (.Lambda params body scope pos) env) Q E s:=by
 refine kla_eval hdef ?_
 rw [hq]
 obtain ⟨ps,hP,z | ⟨c',z,hr⟩⟩:=hT
 ·subst z
  refine kla_makeFunction (mg:=mg) hcl hge0 hg hcode C hP trivial rfl hgP hb fun c' ctv h' tk hx hge hlt hrec htb=>?_
  have up:∀ b o,h'.get? b=some o→(h'.push (kla_obj "<lambda>" q params body scope clos ((mg "__name__").getD .none) c' ctv)).get? b=some o:=fun b o e=>Heap.get?_push_of_some _ e
  obtain ⟨c2,oc,vs,tq,e1,e2,e3⟩:=hrec
  refine h h'.objs.size c' ctv _ tk (fun b o hb e=>up b o (hx b o hb e)) (up _ _ (by rw [htb];rfl)) (.inr ⟨hP,hge,bO hlt⟩) (bM hge (fV hlt)) (Heap.get?_push_size _ rfl) ⟨c2,oc,vs,tq,e1,up _ _ e2,e3⟩
 ·subst z
  have ha:codeAmong pos (ent pos c').toList=some (.ref c'):=by simp [codeAmong,rawInt]
  refine kla_makeFunctionHit (mg:=mg) hcl hge0 hg hcode C hP trivial ha hb fun ctv h' tk hk hsz=>?_
  have up:∀ b o,s.heap.get? b=some o→(h'.push (kla_obj "<lambda>" q params body scope clos ((mg "__name__").getD .none) c' ctv)).get? b=some o:=fun b o e=>Heap.get?_push_of_some _ (hk b o e)
  obtain ⟨c2,oc,vs,tq,e1,e2,e3⟩:=hr
  exact h h'.objs.size c' ctv _ tk (fun b o _ e=>up b o e) (up _ _ hP) (.inl hP) hsz (Heap.get?_push_size _ rfl) ⟨c2,oc,vs,tq,e1,up _ _ e2,e3⟩
end
end XL
namespace XL
open PySem PySem.Spec PySem.W PyProof.Rows L2 My D3 XS
section
variable {prog:Program} {w:World} {A:Around} {h₀:Heap} {L kS:Addr} {m:Str→Option Value} {f:Value} {nw:List (Addr × Obj)}
def Bx (prog:Program) (w:World) (A:Around) (nw:List (Addr × Obj)) (f v:Value) (k:Int):Prop :=
 ∃ t,∀ (s:Shared) (R:Result→Shared→Prop),(∀ p ∈ nw,s.heap.get? p.1=some p.2)→s.heap.NoLimit→(∀ h' tk,(∀ b o,s.heap.get? b=some o→h'.get? b=some o)→R (.ok (.ret (.int k t))) { s with heap:=h',toks:=tk }) →
  codeAny (model prog w) A (.call f ⟨[v],[]⟩) R s
theorem BJ {Fin:List Value→Nat→Shared→Prop} (hne:∀ y ∈ nw,y.1 ≠ kS) (hlim:∀ s:Shared,(∀ p ∈ nw,s.heap.get? p.1=some p.2)→s.heap.NoLimit):∀ (vs:List Value) (ns:List Int) (ks:List Value) (e:Nat) (s:Shared),Paired (fun v k=>Bx prog w A nw f v k) vs ns →
 Fr h₀ L s.heap m→News h₀ L s.heap ((kS,seqObj "list" (iD ks) e) :: nw) →
 (∀ ks' e' s',Fr h₀ L s'.heap m→News h₀ L s'.heap ((kS,seqObj "list" (iD (ks++ks')) e') :: nw)→s'.gens=s.gens→s'.drawn=s.drawn→s'.os=s.os→Paired (fun (v:Value) (k:Int)=>∃ t,v = .int k t) ks' ns→Fin (ks++ks') e' s') →
 KatKeys prog w A h₀ L m kS f Fin vs ks e s
 | [],_,ks,e,s,p,F,N,h=>by
  cases p
  have:=h [] e s F (by rw [cH];exact N) rfl rfl rfl .nil
  rw [cH] at this
  exact this
 | v :: vs,_,ks,e,s,p,F,N,h=>by
  cases p with
  | cons p1 p2 =>
  rename_i k ns
  obtain ⟨t,c⟩:=p1
  have hnw:∀ p ∈ nw,s.heap.get? p.1=some p.2:=fun p hp=>(N p (aO _ hp)).1
  refine KatKeys.cons (wpAny_call (c s _ hnw (hlim s hnw) fun h' tk hk=>?_))
  have F':Fr h₀ L h' m:=⟨F.ns.keeps hk,fun b o z=>hk b o (F.keep b o z),F.above⟩
  have N':News h₀ L h' ((kS,seqObj "list" (iD ks) e) :: nw):=fun p hp=>⟨hk _ _ (N p hp).1,(N p hp).2⟩
  refine KatBack.intro (s:={ s with heap:=h',toks:=tk }) F' N' (.head hne) fun h2 e2 F2 N2=>?_
  refine BJ hne hlim vs ns (ks++[.int k t]) e2 { s with heap:=h2,toks:=tk } p2 F2 N2 fun ks' e' s' F3 N3 g1 g2 g3 q=>?_
  have z:=h (.int k t :: ks') e' s' F3 (by rw [show ks++.int k t :: ks'=ks++[.int k t]++ks' by simp];exact N3) g1 g2 g3 (.cons ⟨t,rfl⟩ q)
  rw [show ks++.int k t :: ks'=ks++[.int k t]++ks' by simp] at z
  exact z
end
section
variable {prog:Program} {w:World} {A:Around} {E:Value→Shared→Prop} {s:Shared} {h₀:Heap} {L l fa:Addr} {m:Str→Option Value} {vs:List Value} {ns:List Int} {news:List (Addr × Obj)} {Q:Value→Shared→Prop}
def ltK (ns:List Int) (i j:Nat):Bool:=decide (ns.getD i 0 < ns.getD j 0)
theorem wj (a b:Value):argsOk "sorted" ⟨[a],[(Str.ofString "key", b)]⟩:=by unfold argsOk;kernel_rfl
theorem ux (a b:Value):argsOk "list.sort" ⟨[a],[(Str.ofString "key", b)]⟩:=by unfold argsOk;kernel_rfl
theorem ints_of:∀ {ks:List Value} {ns:List Int},Paired (fun (v:Value) (k:Int)=>∃ t,v = .int k t) ks ns→IntsAre ks ns
 | _,_,.nil=>.nil
 | _,_,.cons p q=>by
  obtain ⟨t,rfl⟩:=p
  exact .cons _ _ (ints_of q)
theorem zK:∀ {ks:List Value} {ns:List Int},Paired (fun (v:Value) (k:Int)=>∃ t,v = .int k t) ks ns→∀ i,i < ks.length→∃ t,ks.getD i .none = .int (ns.getD i 0) t
 | _,_,.nil,i,h=>by cases h
 | _,_,.cons p q,0,h=>by obtain ⟨t,rfl⟩:=p;exact ⟨t,rfl⟩
 | _,_,.cons p q,i + 1,h=>by
  obtain ⟨t,e⟩:=zK q i (by simpa using h)
  exact ⟨t,by simpa using e⟩
theorem J4 (F:Fr h₀ L s.heap m) (N:News h₀ L s.heap news) (hl:s.heap.IsList l vs.toArray) (h2:2 ≤ vs.length) (h64:vs.length < 64)
 (hc:Paired (fun v k=>Bx prog w A.in1.in1 news (.ref fa) v k) vs ns) (hlim:∀ s:Shared,(∀ p ∈ news,s.heap.get? p.1=some p.2)→s.heap.NoLimit)
 (h:∀ D h' e tk,Fr h₀ L h' m→News h₀ L h' ((D,seqObj "list" (iD ((mD vs.length (ltK ns)).map fun i=>vs.getD i Value.none)) e) :: news)→(∀ q ∈ news,q.1 < D)→Q (.ref D) { s with heap:=h',toks:=tk }) :
 wpAny (model prog w) A (call (.builtin "sorted") [.ref l] [(Str.ofString "key", .ref fa)]) Q E s:=by
 refine kat_sortedK (b:=false) (f:=.ref fa) F N hl h2 h64 (wj _ _) (fun x=>ux _ _) (fun x=>ksk_t1 fa x) fun D kS e1 h' F' N' lt1 lt2=>?_
 have hne:∀ y ∈ (D,seqObj "list" #[] e1) :: news,y.1 ≠ kS:=fun y hy=>by
  rcases bF.mp hy with rfl | z
  ·exact bO lt1
  ·exact bO (jH (lt2 y z) lt1)
 have hc':Paired (fun v k=>Bx prog w A.in1.in1 ((D,seqObj "list" #[] e1) :: news) (.ref fa) v k) vs ns:=Paired.mapP hc fun v k ⟨t,z⟩=>⟨t,fun s R q1 q2 q3=>z s R (fun p hp=>q1 p (aO _ hp)) q2 q3⟩
 refine BJ (kS:=kS) hne (fun s q=>hlim s fun p hp=>q p (aO _ hp)) vs ns [] 0 _ hc' F' N' fun ks e s' F2 N2 g1 g2 g3 pk=>?_
 have lk:ks.length=vs.length:=pk.length.trans hc.length.symm
 rw [mK] at N2 ⊢
 rw [ksk_kind (ints_of pk) (by rw [bI,lk];exact h2)]
 refine wpAny_pure ?_
 refine zm (n:=vs.length) (lt:=ltK ns) (R:=good vs.length) (fun i j C hi hj hC=>?_) _ (ud (by omega)) ?_
 ·obtain ⟨t1,q1⟩:=zK pk i (by rw [lk];exact hi)
  obtain ⟨t2,q2⟩:=zK pk j (by rw [lk];exact hj)
  unfold kas_ask
  show wpAny _ _ (keyLt' oneType' (ks.getD i Value.none) (ks.getD j Value.none)) _ _ _
  rw [q1,q2]
  exact kat_lt_int hC
 ·obtain ⟨hp,gn,dr,tk,os⟩:=s'
  simp only at g1 g2 g3 F2 N2
  subst g1 g2 g3
  refine KatFin.intro F2 N2 (.head hne) fun h3 c3 F3 N3=>?_
  refine KasFin.intro F3 N3 (.tail (Nat.ne_of_gt lt1) (.head fun y hy=>bO (lt2 y hy))) fun h4 c4 F4 N4=>?_
  exact h D h4 c4 tk F4 (fun p hp=>N4 p (aO _ hp)) lt2
theorem yC {α β:Type} {R:α→β→Prop}:∀ {l:List α} {r:List β},Paired R l r→∀ {i:Nat} {a:α} {b:β},l[i]? = some a→r[i]? = some b→R a b
 | _,_,.nil,i,a,b,h,_=>by simp at h
 | _,_,.cons p q,0,a,b,h1,h2=>by
  simp at h1 h2
  subst h1 h2
  exact p
 | _,_,.cons p q,i + 1,a,b,h1,h2=>yC q (i:=i) (by simpa using h1) (by simpa using h2)
theorem Om (F:Fr h₀ L s.heap m) (N:News h₀ L s.heap news) (hl:s.heap.IsList l vs.toArray) (h1:vs.length ≤ 1)
 (hc:Paired (fun v k=>Bx prog w A.in1.in1 news (.ref fa) v k) vs ns) (hlim:∀ s:Shared,(∀ p ∈ news,s.heap.get? p.1=some p.2)→s.heap.NoLimit)
 (h:∀ D h' e tk,Fr h₀ L h' m→News h₀ L h' ((D,seqObj "list" (iD vs) e) :: news)→(∀ q ∈ news,q.1 < D)→Q (.ref D) { s with heap:=h',toks:=tk }) :
 wpAny (model prog w) A (call (.builtin "sorted") [.ref l] [(Str.ofString "key", .ref fa)]) Q E s:=by
 refine ksk_sorted (b:=false) (kz:=ns) (f:=.ref fa) F N hl hc.length.symm (by omega) (wj _ _) (fun x=>ux _ _) (fun x=>ksk_t1 fa x) (fun i v k hv hk hp tk own F' N'=>?_) fun D h' tk out c F' N' lt ko=>?_
 ·obtain ⟨t,z⟩:=yC hc hv hk
  have hnw:∀ p ∈ news,hp.get? p.1=some p.2:=fun p q=>(N' p (bx _ q)).1
  refine wpAny_call (z { s with heap:=hp,toks:=tk } _ hnw (hlim { s with heap:=hp,toks:=tk } hnw) fun h2 tk2 hk2=>?_)
  exact ⟨h2,tk2,t,rfl,rfl,⟨F'.ns.keeps hk2,fun b o z=>hk2 b o (F'.keep b o z),F'.above⟩,fun p q=>⟨hk2 _ _ (N' p q).1,(N' p q).2⟩⟩
 ·obtain ⟨ps,hp,ho,_⟩:=ko
  have e:out.toList=vs:=by
   cases hc with
   | nil =>
    have hp:ps.Perm []:=hp
    rw [List.perm_nil.mp hp] at ho
    exact ho
   | cons p q =>
    cases q with
    | nil =>
     have hp:ps.Perm [(_,_)]:=hp
     rw [List.perm_singleton.mp hp] at ho
     exact ho
    | cons _ _=>simp at h1
  have e2:out=vs.toArray:=Array.toList_inj.mp (e.trans (by simp))
  rw [e2] at N'
  exact h D h' c tk F' N' lt
end
end XL
namespace XS
open PySem D3
def pZ (l:List D) (ns:List Int):List D:=if l.length ≤ 1 then l else (mD l.length fun i j=>decide (ns.getD i 0 < ns.getD j 0)).map fun i=>l.getD i .none
def zL (fa fe:FE) (ix:List Nat):FE:=fun δ=>(fa δ).bind fun x=>match x with
 | .list l=>if l.length < 64∧flats l=true then (fJ (gNl 0) D3.jX fe (jM 1 ix δ) l).bind fun ks=>(jE ks).map fun ns=>.list (pZ l ns) else none
 | _=>none
def dK0:FE:=fun δ=>match δ with
 | [some (.d (.int z)),some (.d (.list ds))]=>(pAt ds z).bind fun t=>match t with
  | .tuple (.int n :: _)=>some (.int n)
  | _=>none
 | _=>none
def qSK (x:Option D) (k:List D→Option (List D)):Option D:=match x with
 | some (.list l)=>if l.length < 64∧flats l=true then (k l).bind fun ks=>(jE ks).map fun ns=>.list (pZ l ns) else none
 | _=>none
theorem Oo {fa fe:FE} {ix:List Nat} {δ:DS}:zL fa fe ix δ=qSK (fa δ) (fJ (gNl 0) D3.jX fe (jM 1 ix δ)):=by
 unfold zL qSK
 cases fa δ with
 | none=>rfl
 | some d=>cases d <;> rfl
theorem Hi {l ks:List D} {ns:List Int} {k:List D→Option (List D)} (h1:l.length < 64) (h2:flats l=true) (h3:k l=some ks) (h4:jE ks=some ns):qSK (some (.list l)) k=some (.list (pZ l ns)):=by
 unfold qSK
 dsimp only
 rw [if_pos ⟨h1,h2⟩,h3,aJ,h4]
 rfl
end XS
namespace XL
open PySem PySem.Spec PySem.W PyProof.Rows L2 My D3 XS
section
variable {X:Cx} {pins:List (Addr × Obj)} {σ:L2.St} {H:Hp} {s:Shared} {h':Heap} {P c':Addr} {q:Str} {lp:Pos} {tk:Nat}
theorem Oq (I:Inv X pins σ H s) (hT:H P=some (.tbl q lp)) (kp:∀ b o,b ≠ P→s.heap.get? b=some o→h'.get? b=some o) (hP:h'.get? P=some (tabObj (ent lp c')))
 (hor:s.heap.get? P=some (tabObj (ent lp c'))∨(s.heap.get? P=some (tabObj #[])∧s.heap.objs.size ≤ c')) (hrec:h'.CodeRec (.ref c') q) :
 ∃ H2,Inv X pins σ H2 { s with heap:=h',toks:=tk }∧Same H H2:=by
 rcases hor with z | ⟨z,hge⟩
 ·refine ⟨H,I.kept fun b o e=>?_,fun _ _ e=>e⟩
  by_cases hb:b=P
  ·subst hb
   rw [z] at e;cases e
   exact hP
  ·exact kp b o hb e
 ·have hn:H c'=none:=I.hok.fresh hge
  have ne:∀ {b u},H b=some u→b ≠ c':=fun e=>jh e hn
  have nP:∀ {b},H b=none→b ≠ P:=fun e y=>by rw [y,hT] at e;cases e
  refine ⟨upd H c' (.own P),?_,dW hn _⟩
  refine I.step (g':=s.gens) (d':=s.drawn) (ch:=[]) (fun b hb=>by cases hb) (fun b u _ _ _ e n=>kp b u (nP n) e) (fun b u _ _ _ e n=>⟨u.slots,kp b u (nP n) e⟩) (fun b u _ e n=>?_) (fun b u _ e=>?_)
   (fun b xs e=>by rw [cI (ne e)];exact e) (fun b u v e=>by rw [cI (ne e)];exact e) (fun b q p e=>by rw [cI (ne e)];exact e) (fun m ⟨o,es,ep,e,r⟩=>⟨o,es,ep,kp _ o (nP I.free) e,r⟩) (fun b u e=>?_) I.bare
  ·rw [cI (bO (bN (Heap.lt_size e) hge))];exact n
  ·by_cases hb:b=P
   ·exact ⟨_,by rw [hb];exact hP⟩
   ·exact ⟨u,kp b u hb e⟩
  ·by_cases hb:b=c'
   ·subst hb
    rw [dg] at e
    cases e
    obtain ⟨c2,oc,vs,tq,e1,e2,_⟩:=hrec
    cases e1
    exact ⟨_,e2⟩
   ·rw [cI hb] at e
    by_cases hbP:b=P
    ·subst hbP
     rw [hT] at e;cases e
     exact ⟨_,hP,.inr ⟨c',rfl,dg,hrec⟩⟩
    ·refine (I.hok b u e).stay (fun c w hc y=>kp c w (fun y2=>?_) y) (fun c y=>by rw [cI (ne y)];exact y) fun c xs y=>by rw [cI (ne y)];exact y
     rcases hc with rfl | y3
     ·exact hbP y2
     ·rw [y2,hT] at y3;cases y3
end
theorem Ot {K:Frag} {H H':Hp} {a:Addr} {xs:List V} (e:Same H H') (h:SqL K H a xs):SqL K H' a xs:=by
 rcases h with (h | ⟨o,h⟩) | h
 ·exact .inl (.inl (e _ _ h))
 ·exact .inl (.inr ⟨o,e _ _ h⟩)
 ·exact .inr h
theorem yE:∀ {ys:List V} {vs:List Value},Vals ys vs→∀ i,RelV (ys.getD i .non) (vs.getD i .none)
 | _,_,.nil,i=>by simp;rfl
 | _,_,.cons r rs,0=>r
 | _,_,.cons r rs,i + 1=>by simpa using yE rs i
theorem yF {fe:FE} {δ0:DS}:∀ {l ks:List D} {ns:List Int},fJ (gNl 0) D3.jX fe δ0 l=some ks→jE ks=some ns→Paired (fun d n=>∃ δ1,gNl 0 d δ0=some δ1∧fe δ1=some (.int n)) l ns
 | [],ks,ns,h1,h2=>by
  cases h1
  cases h2
  exact .nil
 | d :: l,ks,ns,h1,h2=>by
  unfold fJ at h1
  obtain ⟨δ1,e1,h1⟩:=bind1 h1
  obtain ⟨b,e2,h1⟩:=bind1 h1
  cases e2
  rw [if_pos rfl] at h1
  obtain ⟨x,e3,h1⟩:=bind1 h1
  obtain ⟨r,e4,h1⟩:=bind1 h1
  cases h1
  cases x with
  | int n =>
   have h2':(jE r).bind (fun m=>some (n :: m))=some ns:=by
    cases e5:jE r with
    | none=>unfold jE at h2;rw [e5] at h2;cases h2
    | some m=>unfold jE at h2;rw [e5] at h2;cases h2;rfl
   obtain ⟨m,e5,e6⟩:=bind1 h2'
   cases e6
   exact .cons ⟨δ1,e1,e3⟩ (yF e4 e5)
  | _=>unfold jE at h2;cases h2
theorem Fv {K:PySem.W.Frag} {ok:Ok} {pl:Bool} {H:Hp} {S:D→Int→Prop} {R:Value→Int→Prop} (f:∀ y d v n,RA K ok pl H y d→RelV y v→S d n→R v n):∀ {ys:List V} {l:List D} {vs:List Value} {ns:List Int},RAs K ok pl H ys l→Vals ys vs→Paired S l ns→Paired R vs ns
 | _,_,_,_,.nil,.nil,.nil=>.nil
 | _,_,_,_,.cons a b,.cons c d,.cons e g=>.cons (f _ _ _ _ a c e) (Fv f b d g)
structure LamAt (X:Cx) (P:Addr) (q:Str) (lp:Pos):Prop where
 cd:∃ c,X.env.code = .ref c∧codeHdIn X.K c P=true
 qn:X.env.qual ++ "<lambda>" = q
 tb:(P,q,lp) ∈ tabs
section
variable {X:Cx} {fl:List Fl} {e:Expr} {fa:FE} {p pos kpos lp p1 p2 p3 p4 p5:Pos} {x y q:Str} {P:Addr} {kd i k:Nat} {params:Arguments} {scope:Scope}
theorem Tf {δ0 δ1:DS} {d:D} {n:Int} {u:Option U} (h0:δ0=[none,u]) (h1:gNl 0 d δ0=some δ1) (h2:dK0 δ1=some (.int n)):∃ z ds r,d = .int z∧u=some (.d (.list ds))∧pAt ds z=some (.tuple (.int n :: r)):=by
 subst h0
 cases h1
 unfold dK0 at h2
 split at h2
 ·next z ds e =>
  cases e
  obtain ⟨t,e1,e2⟩:=bind1 h2
  split at e2
  ·next m r=>cases e2;exact ⟨z,ds,r,rfl,rfl,e1⟩
  ·cases e2
 ·cases h2
theorem Dy (hl:LamAt X P q lp) (hr:Room k X.A) (ha:DB X fl .P [e] (aF fa bh)) (hg:Gl X "sorted") (hm:X.mg "sorted" = none)
 (hix:X.N[i]? = some x) (hfl:fl[i]? = some .A) (hcell:X.env.kindOf x=some .cell)
 (hdef:defaultsOf params X.env=([],[])) (hcl:∀ c,X.env.cells.lookup x=some c→closureFor scope X.env=pure [(x,c)])
 (hbind:∀ (cl:List (Str × Addr)) (pm:Value) (c':Addr) (ctv u:Value),bindArgs (kla_fn "<lambda>" q params (Hh x y p1 p2 p3 p4 p5 kd) scope cl pm (.ref c') ctv) ⟨[u],[]⟩=pure [(y,u)])
 (hco:scope.isCoroutine=false) (hgen:scope.isGenerator=false) (hk:scope.kind = .function) (hcells:∀ z ∈ scope.names,z.2 ≠ .cell) (hy:scope.names.lookup y=some .local) (hxf:scope.names.lookup x=some .free)
 (hxd:(x == ("__debug__" : Str))=false) (hyd:(y == ("__debug__" : Str))=false) (hxc:(x == ("__classdict__" : Str))=false)
 (he:backTo pos (starEach [e] X.env)=(false,eval e X.env) :: backTo pos (starEach [] X.env)) (hpl:(backTo pos (starEach [e] X.env)).any (·.1)=false)
 : DE X fl .FC (.Call (.Name "sorted" p) [e] [⟨some (Str.ofString "key"),.Lambda params (Hh x y p1 p2 p3 p4 p5 kd) scope lp,kpos⟩] pos) (zL fa dK0 [i]):=by
 have bs:bootBuiltins "sorted" = some (.builtin "sorted"):=by decide +kernel
 intro pins s σ H Q I hq
 obtain ⟨G,ow,δ,d,R,hf,q0⟩:=hq
 obtain ⟨xd,e1,hf1⟩:=bind1 hf
 obtain ⟨l,rfl⟩:∃ l,xd = .list l:=by
  cases xd <;> first | exact ⟨_,rfl⟩ | cases hf1
 dsimp only at hf1
 by_cases hc:l.length < 64∧flats l=true
 case neg=>rw [if_neg hc] at hf1;cases hf1
 rw [if_pos hc] at hf1
 obtain ⟨ks,e2,hf2⟩:=bind1 hf1
 cases e3:jE ks with
 | none=>rw [e3] at hf2;cases hf2
 | some ns =>
 rw [e3] at hf2
 cases hf2
 have e1':aF fa bh δ=some [.list l]:=by unfold aF;rw [e1];rfl
 refine wpAny_Call_Name_kw (rN I hg hm bs ?_)
 refine PyProof.Rows.callWith_kw ?_ he hpl rfl rfl
 refine thn (ha pos pins s σ H (fun vs H1=>Same H H1∧RAs X.K ok1 true H1 vs [.list l]) I ⟨G,ow,δ,_,R,e1',fun vs H' s' r'=>⟨s',r'⟩⟩) fun us s1 ⟨vs,H1,I1,r1,sm1,ra⟩=>?_
 cases ra with
 | cons ra1 ra2 =>
 cases ra2
 obtain ⟨a,ys,rfl,hx,hrs⟩:=ra1.lstE
 cases r1 with
 | cons c1 c2 =>
 cases c2
 cases c1
 have R1:=R.grow sm1
 have hT:H1 P=some (.tbl q lp):=R1.tb _ hl.tb
 obtain ⟨c,hcx⟩:=I1.ok.has x (.inl hcell)
 obtain ⟨cc,hcode,hhd⟩:=hl.cd
 have KX:=I1.kIn
 have hgl:s1.heap.Ns mainGlobals X.mg:=I1.mod.glob.keeps I1.bk
 have hgP:mainGlobals ≠ P:=fun z=>by
  obtain ⟨o,_,_,g1,_⟩:=I1.mod.glob
  have:=(I1.bs _ _ g1).2
  rw [z,hT] at this;cases this
 have hbm:s1.heap.BuiltinsAt X.mg P:=by
  obtain ⟨bm,ob,g1,g2,g3,g4,g5,g6⟩:=I1.mod.bm
  refine ⟨bm,ob,g1,g2,fun z=>?_,fun z=>?_,I1.bk _ _ g3,g4,g5,g6⟩
  ·obtain ⟨o,_,_,k1,k2,_⟩:=I1.mod.glob
   rw [z,k1] at g3;cases g3
   rw [k2] at g6;cases g6
  ·have:=(I1.bs _ _ g3).2
   rw [z,hT] at this;cases this
 have hTT:∃ ps,s1.heap.get? P=some (tabObj ps)∧(ps = #[]∨∃ c',ps=ent lp c'∧s1.heap.CodeRec (.ref c') q):=by
  obtain ⟨ps,g1,g2⟩:=I1.hok P _ hT
  refine ⟨ps,g1,?_⟩
  rcases g2 with g | ⟨c',g,_,g3⟩
  ·exact .inl g
  ·exact .inr ⟨c',g,g3⟩
 show wpAny _ _ (evalAll [do let v ← eval (.Lambda params (Hh x y p1 p2 p3 p4 p5 kd) scope lp) X.env;standAt pos;pure v]) _ _ s1
 refine wpAny_evalAll_cons (wpAny_bind ?_)
 refine J3 (mg:=X.mg) hl.qn hdef (hcl c hcx) I1.ok.glob hgl hcode (codeHd_of_K KX hhd) hgP hbm hTT fun f c' ctv h' tk kp hP' hor hfs hfo hrec=>wpAny_bind (wpAny_standAt (wpAny_pure ?_))
 refine wpAny_evalAll_nil ?_
 show wpAny _ _ (PySem.call (.builtin "sorted") [.ref a] [(Str.ofString "key", .ref f)]) _ _ _
 obtain ⟨H2,I2,sm2⟩:=Oq (tk:=tk) I1 hT kp hP' (hor.imp (fun z=>z) fun z=>⟨z.1,z.2.1⟩) hrec
 have R2:=R1.grow sm2
 obtain ⟨its,rvs,pli,hz⟩:=I2.list (show SqL X.K H2 a ys from Ot sm2 hx)
 have hrs2:=hrs.same sm2
 have len:its.length=l.length:=rvs.length.symm.trans hrs2.length
 obtain ⟨m,hmm,hlk⟩:=id I2.loc
 have notL:∀ {b:Addr} {o:Obj},h'.get? b=some o→(∀ es ep,o.data ≠ .dict es ep)→b ≠ X.env.locals:=fun {b o} g1 g2 z=>by
  obtain ⟨o2,es,ep,k1,k2,_⟩:=hmm
  rw [← z] at k1
  rw [show h'.get? b=some o2 from k1] at g1;cases g1
  exact g2 _ _ k2
 have mem:∀ {b:Addr} {o:Obj},h'.get? b=some o→b ≠ X.env.locals→(b,o) ∈ mW (Att.kZ h') h' X.env.locals:=fun g1 g2=>qg g2 (Att.pq _ _) g1
 have hlim:∀ s':Shared,(∀ p ∈ mW (Att.kZ h') h' X.env.locals,s'.heap.get? p.1=some p.2)→s'.heap.NoLimit:=fun s' hk'=>I2.ok.mod.nolimit.keeps fun b o g=>hk' (b,o) (mem (I2.bk b o g) (bO (bN (Heap.lt_size (I2.ok.bs b o g).1) I2.ok.above)))
 have calls:Paired (fun v n=>Bx X.prog X.w X.A.in1.in1 (mW (Att.kZ h') h' X.env.locals) (.ref f) v n) its ns:=by
  refine Fv (S:=fun d n=>∃ δ1,gNl 0 d (jM 1 [i] δ)=some δ1∧dK0 δ1=some (.int n)) (fun y0 d v n r1 r2 ⟨δ1,g1,g2⟩=>?_) hrs2 rvs (yF e2 e3)
  obtain ⟨z,ds,r,rfl,g4,g5⟩:=Tf (u:=(δ[i]?).getD none) rfl g1 g2
  obtain rfl:=r1.intE
  obtain ⟨t0,rfl⟩:=r2
  have g6:δ[i]? = some (some (.d (.list ds))):=by
   cases g7:δ[i]? with
   | none=>rw [g7] at g4;cases g4
   | some u=>rw [g7] at g4;exact congrArg some g4
  have own0:ow i=none:=by
   cases g7:ow i with
   | none=>rfl
   | some b =>
    obtain ⟨_,g8,_⟩:=R2.own i b g7
    rw [hfl] at g8
    rcases g8 with ⟨g8,_⟩ | ⟨g8,_⟩ <;> cases g8
  obtain ⟨v0,k1,k2⟩:=R2.dat i _ g6 (by rw [hfl];rfl) own0
  obtain ⟨b,xs,rfl,k3,k4⟩:=k2.lstE
  obtain ⟨v1,k5,k6⟩:=k4.at g5
  obtain ⟨b2,ws,rfl,k7,k8⟩:=k6.tupE
  cases k8 with
  | cons k9 k10 =>
  obtain rfl:=k9.intE
  obtain ⟨it2,rv2,pl2,hz2⟩:=I2.list k3
  obtain ⟨it3,rv3,pl3,_⟩:=I2.tuple k7
  obtain ⟨j,j1,j2,j3,j4,j5⟩:=uH k5
  obtain ⟨w1,j6,j7⟩:=rv2.get j2
  cases j7
  cases rv3 with
  | cons r3 rv3 =>
  obtain ⟨t3,rfl⟩:=r3
  have l2:=rv2.length
  obtain ⟨u,u1,u2⟩:=hlk i x _ hix k1 (.inr (.inl hcell))
  cases u1
  rcases u2 with ⟨u3,_⟩ | ⟨_,cl,u4,u5⟩
  ·have:some NameKind.cell=some NameKind.local:=hcell.symm.trans u3
   cases this
  have:cl=c:=by rw [hcx] at u4;exact (cV.inj u4).symm
  subst this
  refine ⟨t3,fun s' R' hk' hlim' hR=>?_⟩
  have kk:∀ {b:Addr} {o:Obj},h'.get? b=some o→(∀ es ep,o.data ≠ .dict es ep)→s'.heap.get? b=some o:=fun g1 g2=>hk' _ (mem g1 (notL g1 g2))
  have f1:s'.heap.get? f=some (kla_obj "<lambda>" q params (Hh x y p1 p2 p3 p4 p5 kd) scope [(x,cl)] ((X.mg "__name__").getD .none) c' ctv):=kk hfo (fun _ _ z=>by cases z)
  have f2:s'.heap.CodeRec (.ref c') q:=by
   obtain ⟨c2,oc,vs2,tq,w1,w2,w3,w4⟩:=hrec
   exact ⟨c2,oc,vs2,tq,w1,kk w2 (fun _ _ z=>by rw [w3] at z;cases z),w3,w4⟩
  have f3:s'.heap.IsCell cl (some (.ref b)):=by
   obtain ⟨o,w1,w2⟩:=u5
   exact ⟨o,kk w1 (fun _ _ z=>by rw [w2] at z;cases z),w2⟩
  have f4:s'.heap.IsList b it2.toArray:=by
   obtain ⟨o,w1,w2,w3,w4⟩:=pl2.isList
   exact ⟨o,kk w1 (fun _ _ z=>by rw [w4] at z;cases z),w2,w3,w4⟩
  have f5:∀ {it5:Array Value},IsTup h' b2 it5→IsTup s'.heap b2 it5:=fun ⟨o,w1,w2,w3,w4⟩=>⟨o,kk w1 (fun _ _ z=>by rw [w4] at z;cases z),w2,w3,w4⟩
  exact Ol (i:=z) (j:=j) (its:=it2.toArray) f1 f2 (by have:=hr.dp;show X.A.depth < _;omega) hlim' (fun u=>hbind _ _ _ _ u) hco hgen hk hcells hy hxf hxd hyd hxc f3 f4 (by rw [bI,← l2];exact j4) (by rw [bI,← l2];exact j5)
   (by rw [bI,← l2];exact hz2) (by rw [bI,← l2];exact j1) (by simpa using j6) (f5 pl3) (by simp) hR
 have fin:∀ (D:Addr) (h3:Heap) (ec tk3:Nat) (is:List V) (ds:List D3.D) (vo:List Value),Vals is vo→is.length ≤ sizeLine→(∀ (Hx:Hp),RAs X.K ok1 true Hx ys l→RAs X.K ok0 false Hx is ds) →
  pZ l ns=ds→Fr (Att.kZ h') X.env.locals h3 m→News (Att.kZ h') X.env.locals h3 ((D,seqObj "list" (iD vo) ec) :: mW (Att.kZ h') h' X.env.locals)→(∀ z ∈ mW (Att.kZ h') h' X.env.locals,z.1 < D) →
  EP X pins σ Q (.ref D) { s1 with heap:=h3,toks:=tk3 }:=fun D h3 ec tk3 is ds vo v1 v2 v3 v4 F3 N3 lt=>by
  have kept3:∀ b o,b ≠ X.env.locals→h'.get? b=some o→h3.get? b=some o:=fun b o hb g=>(N3 (b,o) (aO _ (mem g hb))).1
  have hD:h'.get? D=none:=by
   cases g:h'.get? D with
   | none=>rfl
   | some o =>
    by_cases z:D=X.env.locals
    ·exact absurd z (N3 _ (aM ..)).2.1
    ·exact absurd (lt (D,o) (mem g z)) (fU _)
  have hn:H2 D=none:=by
   cases g:H2 D with
   | none=>rfl
   | some u =>
    obtain ⟨w,hw⟩:=uf (I2.hok D u g)
    rw [show h'.get? D=some w from hw] at hD;cases hD
  have new:gZ X.prog X.w (upd H2 D (.lst is)) h3 D (.lst is):=⟨v2,vo,ec,v1,(N3 _ (aM ..)).1⟩
  have J:=Fe (s:={ s1 with heap:=h',toks:=tk }) (h':=h3) I2 hmm F3.ns kept3 hD new
  refine ⟨.ref D,_,J.tok tk3,rfl,q0 _ _ ((sm1.trans sm2).trans (dW hn _)) (.inr ⟨D,is,ds,rfl,(by show PyData.list (pZ l ns)=_;rw [v4]),(sm1.trans sm2).free hn,dg,?_⟩)⟩
  exact (v3 _ (hrs2.same (dW hn _))).imp (fun _ z=>z.elim) (fun z=>z)
 by_cases h1:l.length ≤ 1
 ·refine Om (Att.Cy hmm) uV pli.isList (by rw [len];exact h1) calls hlim fun D h3 ec tk3 F3 N3 lt=>?_
  exact fin D h3 ec tk3 ys l its rvs (by rw [hrs2.length];exact bM h1 (by decide)) (fun Hx r=>RAs.flat hc.2 r) (by unfold pZ;rw [if_pos h1]) F3 N3 lt
 ·refine J4 (Att.Cy hmm) uV pli.isList (by omega) (by omega) calls hlim fun D h3 ec tk3 F3 N3 lt=>?_
  have eo:pZ l ns=(mD its.length (ltK ns)).map fun i=>l.getD i .none:=by unfold pZ;rw [if_neg h1,len];rfl
  have pm:=jc (n:=its.length) (by omega) (ltK ns)
  refine fin D h3 ec tk3 ((mD its.length (ltK ns)).map fun i=>ys.getD i .non) _ _ ?_ ?_ ?_ eo F3 N3 lt
  ·generalize mD its.length (ltK ns)=is
   induction is with
   | nil=>exact .nil
   | cons i is ih=>exact .cons (yE rvs i) ih
  ·rw [aG,pm.length_eq,bB,len]
   exact bM (fV hc.1) (by decide)
  ·intro Hx r
   generalize mD its.length (ltK ns)=is
   induction is with
   | nil=>exact .nil
   | cons i is ih=>exact .cons (RA.flat (vO hc.2 i) (zy r i)) ih
end
theorem Ou {K:Frag} {h:Heap} {c P:Addr} {q:Str} {lp:Pos} (KX:K.In h) (hP:h.get? P=some (tabObj #[])) (hc:codeHdIn K c P=true) (hn:K.lookup P=none) :
 (∀ t ∈ [(P,q,lp)],h.get? t.1=some { cls:=.none,data:=.fields #[] })∧(∀ t ∈ [(P,q,lp)],isCodeTable h t.1)∧∀ t ∈ [(P,q,lp)],K.lookup t.1=none :=
 ⟨fun t ht=>by rw [aK.mp ht];exact hP,fun t ht=>by rw [aK.mp ht];exact ((codeHd_of_K KX hc).tab hP).isCodeTable,fun t ht=>by rw [aK.mp ht];exact hn⟩
theorem J5 {P:Addr} {q:Str} {lp:Pos}:∀ t ∈ [(P,q,lp)],∀ t' ∈ [(P,q,lp)],t.1=t'.1→t=t':=fun t ht t' ht' _=>(aK.mp ht).trans (aK.mp ht').symm
theorem J6 {scope:Scope} {env:Env} {x y:Str} {c:Addr} (hn:scope.names=[(y,.local),(x,.free)]) (h:env.cells.lookup x=some c):closureFor scope env=pure [(x,c)]:=by
 unfold closureFor
 rw [hn]
 simp [cellOf,h]
section
variable {P:Program} {w:World} {K:PySem.W.Frag} {mg:Str→Option Value} {base:Heap} {x:Str} {ps N:List Str} {st:Stmt} {k n:Nat} {fs:FS} {fl:List Fl} {Pt:Addr} {q:Str} {lp:Pos}
structure DgT (K:PySem.W.Frag) (mg:Str→Option Value) (x:Str) (st:Stmt) (ps:List Str) (Pt:Addr) (q:Str) (lp:Pos):Prop where
 ex:∃ (f:Addr) (fd:FuncData) (c:Addr),FunD K x st f fd∧Binds K fd ps []∧mg x=some (.ref f)∧fd.code = .ref c∧codeHdIn K c Pt=true
 tb:(Pt,q,lp) ∈ tabs
theorem Tg {h:Heap} {f c:Addr} {oc kV dc pm ct:Value} {od an:Option Addr} {sl:Array (Option Value)} (X:K.In h) (G:h.Ns mainGlobals mg)
 (hb:∀ (kV doc pm:Value) (an:Option Addr) (cdv ct:Value) (us:List Value),us.length=ps.length→bindArgs (PySem.W.fnOf x x (lQ st) (iH st) (bA st) .none kV doc pm an cdv ct) ⟨us,[]⟩=pure (ps.zip us))
 (a:PySem.W.nsIn K mainGlobals x=some (some (.ref f))) (l:K.lookup f=some ⟨oc,od,.func (PySem.W.fnOf x x (lQ st) (iH st) (bA st) .none kV dc pm an (.ref c) ct),sl⟩) (ci:PySem.W.codeIn K (.ref c) x=true) (k:PySem.W.keepIn K (.ref f)=true)
 (hd:codeHdIn K c Pt=true) (tb:(Pt,q,lp) ∈ tabs):DgT K mg x st ps Pt q lp :=
 ⟨⟨_,_,c,⟨⟨oc,od,.none,kV,dc,pm,an,.ref c,ct,sl,rfl,l,ci⟩,k⟩,.all (hb kV dc pm an (.ref c) ct),PySem.W.mg_of X G a,rfl,hd⟩,tb⟩
theorem okT {f c:Addr} {fd:FuncData} {sp:Sp} (F:FunD K x st f fd) (hcd:fd.code = .ref c) (S:FnScope N ps (bA st)) (len:∀ vs H Q E,sp vs H Q E→vs.length=ps.length)
 (hbody:∀ (A:Around) (outer:List Env) (s:Shared) (H:Hp) (vs:List V) (Q:VK) (E:XK),Room k (A.deeper (envOfC x (bA st) s.heap.objs.size f (.ref c)))→sp vs H Q E →
  ∃ t,PSs (Al CX0 P w K mg base N x (bA st) f (.ref c) A outer s H E).nox (iH st) t∧t { nx:=fun _ H'=>Q .non H',rt:=Q } (L2.start N vs) H):FnOk P w K mg base CX0 (k + 1) f fd ps sp:=by
 obtain ⟨oc,od,dV,kV,doc,pm,an,cdv,ct,osl,rfl,lk,hcd'⟩:=F.ex
 have e:cdv = .ref c:=hcd
 subst e
 refine QC lk hcd' S len fun A outer s H vs Q E hr hsp=>?_
 obtain ⟨t,h,q⟩:=hbody A outer s H vs Q E hr hsp
 exact ⟨t,h.nox,q⟩
theorem Ti (Dd:DgT K mg x st ps Pt q lp) (S:FnScope N ps (bA st)) (hp:∀ i,i < ps.length→fl[i]? = some .A) (hN:ps.length ≤ N.length)
 (hbody:∀ (f c:Addr) (A:Around) (outer:List Env) (s:Shared) (H:Hp) (E:XK),codeHdIn K c Pt=true→Room k (A.deeper (envOfC x (bA st) s.heap.objs.size f (.ref c)))→DSs (cx P w K mg base N x st f (.ref c) A outer s H E) fl (iH st) fs) :
 Has P w K mg base (k + 1) x ps (spD K (fnD ps.length (N.length - ps.length) fs)):=by
 obtain ⟨f,fd,c,Fn,b,m,hcd,hhd⟩:=Dd.ex
 refine ⟨f,fd,?_,b,Fn.kp,m⟩
 refine okT Fn hcd S (fun vs H Q E h=>?_) (fun A outer s H vs Q E hr h=>?_)
 ·obtain ⟨ds,d,r,hf,_⟩:=h
  unfold fnD at hf
  by_cases z:ds.length=ps.length
  ·rw [r.2.length];exact z
  ·rw [if_neg z] at hf;cases hf
 ·obtain ⟨ds,d,r,hf,q⟩:=h
  refine ⟨_,hbody f c A outer s H E hhd hr,?_⟩
  unfold fnD at hf
  by_cases z:ds.length=ps.length
  ·rw [if_pos z] at hf
   split at hf
   ·next d' e =>
    cases hf
    exact ⟨_,_,_,_,lH ps.length hp z hN r,e,fun v H' s r=>q v H' s r⟩
   ·next δ' e =>
    cases hf
    exact ⟨_,_,_,_,lH ps.length hp z hN r,e,fun ow' σ' H' R'=>q .non H' R'.same0 .non⟩
   ·cases hf
  ·rw [if_neg z] at hf;cases hf
end
end XL
namespace D3
open PySem PySem.Spec PyProof.Rows L2 My
section
variable {X:Cx} {fl:List Fl} {e a b:Expr} {es:List Expr} {f fa fb:FE} {fr:FA} {k:Kd} {pos:Pos}
theorem vA (i:Nat) {x:Str} (hfl:fl[i]? = some .A:=by rfl) (hN:X.N[i]? = some x:=by rfl) (hv:Vis X.env.scope x:=by first | exact Or.inl rfl | exact Or.inr (Or.inl rfl) | exact Or.inr (Or.inr rfl)) (hd:(x == ("__debug__" : Str))=false:=by decide)
 (hcd:(x == ("__classdict__" : Str))=false:=by decide):DE X fl .A (.Name x pos) (aD i):=yR i hfl hN hv hd hcd
theorem vP (i:Nat) {x:Str} (hfl:fl[i]? = some .A:=by rfl) (hN:X.N[i]? = some x:=by rfl) (hv:Vis X.env.scope x:=by first | exact Or.inl rfl | exact Or.inr (Or.inl rfl) | exact Or.inr (Or.inr rfl)) (hd:(x == ("__debug__" : Str))=false:=by decide)
 (hcd:(x == ("__classdict__" : Str))=false:=by decide):DE X fl .P (.Name x pos) (aD i):=cg (yR i hfl hN hv hd hcd)
theorem vB (i:Nat) {x:Str} (hfl:fl[i]? = some .A:=by rfl) (hN:X.N[i]? = some x:=by rfl) (hv:Vis X.env.scope x:=by first | exact Or.inl rfl | exact Or.inr (Or.inl rfl) | exact Or.inr (Or.inr rfl)) (hd:(x == ("__debug__" : Str))=false:=by decide)
 (hcd:(x == ("__classdict__" : Str))=false:=by decide):DE X fl (.B []) (.Name x pos) (aD i):=dH (yR i hfl hN hv hd hcd)
theorem iP {i j pos}:DE X fl .P (.Constant (.int i) j pos) (dC (.int i)):=bC Jm
theorem iC {i j pos}:DE X fl .C (.Constant (.int i) j pos) (dC (.int i)):=iy Jm
theorem dz:DB X fl k [] bh:=Js
theorem dq (h:DE X fl k e f) (hr:DB X fl k es fr) (hk:isR k=true:=by rfl) (hs:starEach (e :: es) X.env=(false,eval e X.env) :: starEach es X.env:=by exact n_ rfl):DB X fl k (e :: es) (aF f fr):=Nj hk h hr hs
theorem dx {L:List Nat} (ha:DE X fl (.B L) a fa) (hb:DE X fl .P b fb) (hs:uI b:=by exact fun _ _=>rfl):DE X fl .A (.Subscript a b pos) (dOp gIx fa fb):=Vy ha hb hs
theorem sA {i:Nat} {x:Str} {pos':Pos} (hN:X.N.Nodup) (h:DE X fl .A e f) (hfl:fl[i]? = some .A:=by rfl) (hi:X.N[i]? = some x:=by rfl) (hv:X.env.scope.names.lookup x=some .local∨X.env.scope.names.lookup x=some .cell:=by first | exact Or.inl rfl | exact Or.inr rfl)
 (hs:swapsWith e (some (.Name x pos')) pos.line X.env=pure false:=by rfl) (hfn:X.fn x=true∨X.env.scope.names.lookup x=some .local:=by first | exact .inl rfl | exact .inr rfl) :
 DS1 X fl (.Assign [.Name x pos'] e pos) (cD i f):=Nh hfl hN hi hv h hs hfn
theorem gN' {i:Nat} {x:Str} {pos:Pos} (hN:X.N.Nodup) (hfl:fl[i]? = some .A:=by rfl) (hi:X.N[i]? = some x:=by rfl) (hv:X.env.scope.names.lookup x=some .local∨X.env.scope.names.lookup x=some .cell:=by first | exact Or.inl rfl | exact Or.inr rfl)
 (hfn:X.fn x=true∨X.env.scope.names.lookup x=some .local:=by first | exact .inl rfl | exact .inr rfl):DG X fl [i] (.Name x pos) (gNl i):=Ni hfl hN hi hv hfn
end
theorem fsc {N P:List Str} {sc:Scope} (a:sc.kind = .function:=by rfl) (b:sc.isCoroutine=false:=by rfl) (c:sc.isGenerator=false:=by rfl) (d:N.Nodup:=by decide +kernel) (e:N.take P.length=P:=by rfl) (f:∀ x ∈ P,sc.names.lookup x=some .local∨sc.names.lookup x=some .cell:=by decide +kernel) (g:∀ y ∈ sc.names,y.2 ≠ .free:=by decide +kernel):FnScope N P sc:=⟨a,b,c,d,e,f,g⟩
end D3
namespace D3
open PySem
def qS (o:Option Oc) (b:FS):Option Oc:=match o with
 | some (.nx δ)=>b δ
 | some o=>some o
 | none=>none
def qI (o:Option Bool) (a b:FS) (δ:DS):Option Oc:=match o with
 | some true=>a δ
 | some false=>b δ
 | none=>none
def qO (g:D→D→Option D) (a b:Option D):Option D:=match a,b with
 | some x,some y=>g x y
 | _,_=>none
def qU (g:D→Option D) (a:Option D):Option D:=match a with
 | some x=>g x
 | none=>none
def qC (a:Option D) (r:Option (List D)):Option (List D):=match a,r with
 | some x,some l=>some (x :: l)
 | _,_=>none
def qF (F:List D→Option D) (l:Option (List D)):Option D:=match l with
 | some l=>F l
 | none=>none
def qR (a:Option D):Option Oc:=match a with
 | some d=>some (.rt d)
 | none=>none
def Tj (i:Nat) (a:Option D) (δ:DS):Option Oc:=match a with
 | some d=>if i < δ.length then some (.nx (δ.set i (some (.d d)))) else none
 | none=>none
def Hj (a:Option D) (fb:FE) (δ:DS):Option D:=match a with
 | some (.bool true)=>fb δ
 | some (.bool false)=>some (.bool false)
 | _=>none
def qOr (a:Option D) (fb:FE) (δ:DS):Option D:=match a with
 | some (.bool true)=>some (.bool true)
 | some (.bool false)=>fb δ
 | _=>none
def qN (a:Option D):Option D:=match a with
 | some (.bool b)=>some (.bool (!b))
 | _=>none
def qB (a:Option D):Option Bool:=match a with
 | some (.bool b)=>some b
 | _=>none
def qTA (a:Option Bool) (b:FT) (δ:DS):Option Bool:=match a with
 | some true=>b δ
 | some false=>some false
 | none=>none
def qTO (a:Option Bool) (b:FT) (δ:DS):Option Bool:=match a with
 | some true=>some true
 | some false=>b δ
 | none=>none
def qTN (a:Option Bool):Option Bool:=match a with
 | some b=>some (!b)
 | none=>none
def qE (a:Option Bool) (fa fb:FE) (δ:DS):Option D:=match a with
 | some true=>fa δ
 | some false=>fb δ
 | none=>none
def qL (a:Option D):Option (List D):=match a with
 | some (.list l)=>some l
 | _=>none
def Tp (a:Option (List D)) (g:FG) (b:FS) (δ:DS):Option Oc:=match a with
 | some l=>jB g b l δ
 | none=>none
def qD (a:Option DS):Option Oc:=match a with
 | some δ=>some (.nx δ)
 | none=>none
def qG (a:Option D) (g:FG) (δ:DS):Option DS:=match a with
 | some d=>g d δ
 | none=>none
def qGs (a:Option DS) (r:List D→DS→Option DS) (l:List D):Option DS:=match a with
 | some δ=>r l δ
 | none=>none
def qT (a:Option (List D)):Option D:=match a with
 | some l=>if l.length ≤ sizeLine then some (.tuple l) else none
 | none=>none
def qK (a:Option (List D)):Option D:=match a with
 | some l=>if l.length ≤ sizeLine then some (.list l) else none
 | none=>none
def qFl (p:D→Bool) (a:Option D):Option D:=match a with
 | some d=>if p d=true then some d else none
 | none=>none
def qA (i:Nat) (x a:Option D) (δ:DS):Option Oc:=match x,a with
 | some (.list l),some d=>if l.length < 1000000 then some (.nx (δ.set i (some (.d (.list (l++[d])))))) else none
 | _,_=>none
def qP (i:Nat) (a x k:Option D) (δ:DS):Option Oc:=match a,x,k with
 | some d,some (.list l),some (.int j)=>(pIx l.length j).bind fun n=>some (.nx (δ.set i (some (.d (.list (l.set n d))))))
 | _,_,_=>none
def qCh (g':D→D→Option D) (z:Option D) (y:Option D) (fc:FE) (δ:DS):Option D:=match z with
 | some (.bool true)=>qO g' y (fc δ)
 | some (.bool false)=>some (.bool false)
 | _=>none
def qFn (o:Option Oc):Option D:=match o with
 | some (.rt d)=>some d
 | some (.nx _)=>some .none
 | _=>none
def qCo (a:Option (List D)) (g:FG) (c:FT) (e:FE) (t:Nat) (ix:List Nat) (δ:DS):Option D:=match a with
 | some l=>if l.length ≤ 100000 then (match fJ g c e (jM t ix δ) l with | some r=>some (.list r) | none=>none) else none
 | none=>none
section
variable {a b:FS} {c c':FT} {fa fb fc:FE} {fr:FA} {δ:DS} {g:D→D→Option D} {h:D→Option D} {F:List D→Option D} {i:Nat} {G:FG} {d:D}
theorem V9:bY a b δ=qS (a δ) b:=by
 unfold bY qS
 cases a δ with
 | none=>rfl
 | some o=>cases o <;> rfl
theorem J7 {δ':DS}:qS (some (.nx δ')) b=b δ':=rfl
theorem J8:qS (some (.rt d)) b=some (.rt d):=rfl
theorem J9 {δ':DS}:qS (some (.bk δ')) b=some (.bk δ'):=rfl
theorem J_ {δ':DS}:qS (some (.ct δ')) b=some (.ct δ'):=rfl
theorem V_:cZ δ=some (.nx δ):=rfl
theorem XR:sBk δ=some (.bk δ):=rfl
theorem X3:sCt δ=some (.ct δ):=rfl
theorem X4:sIf c a b δ=qI (c δ) a b δ:=by
 unfold sIf qI
 cases c δ with
 | none=>rfl
 | some t=>cases t <;> rfl
theorem Tq:qI (some true) a b δ=a δ:=rfl
theorem Tr:qI (some false) a b δ=b δ:=rfl
theorem v_op:dOp g fa fb δ=qO g (fa δ) (fb δ):=by
 unfold dOp qO
 cases fa δ <;> cases fb δ <;> rfl
theorem Tt {x y:D}:qO g (some x) (some y)=g x y:=rfl
theorem X5:dUn h fa δ=qU h (fa δ):=by
 unfold dUn qU
 cases fa δ <;> rfl
theorem Tv {x:D}:qU h (some x)=h x:=rfl
theorem Tw:bh δ=some []:=rfl
theorem Ov:aF fa fr δ=qC (fa δ) (fr δ):=by
 unfold aF qC
 cases fa δ <;> cases fr δ <;> rfl
theorem Hl {x:D} {l:List D}:qC (some x) (some l)=some (x :: l):=rfl
theorem Tz:dCall F fr δ=qF F (fr δ):=by
 unfold dCall qF
 cases fr δ <;> rfl
theorem Ka {l:List D}:qF F (some l)=F l:=rfl
theorem Wa:cT fa δ=qR (fa δ):=by
 unfold cT qR
 cases fa δ <;> rfl
theorem Ox:qR (some d)=some (.rt d):=rfl
theorem TF:Vs δ=some (.rt .none):=rfl
theorem Wb:cD i fa δ=Tj i (fa δ) δ:=by
 unfold cD Vr Tj
 cases fa δ with
 | none=>simp
 | some d=>rfl
theorem Oz:Tj i (some d) δ=if i < δ.length then some (.nx (δ.set i (some (.d d)))) else none:=rfl
theorem v_c:dC d δ=some d:=rfl
theorem v_and:rP fa fb δ=Hj (fa δ) fb δ:=by
 unfold rP Hj
 cases fa δ with
 | none=>rfl
 | some x =>
  cases x <;> try rfl
  next b=>cases b <;> rfl
theorem OD:Hj (some (.bool true)) fb δ=fb δ:=rfl
theorem OJ:Hj (some (.bool false)) fb δ=some (.bool false):=rfl
theorem v_or:dOr fa fb δ=qOr (fa δ) fb δ:=by
 unfold dOr qOr
 cases fa δ with
 | none=>rfl
 | some x =>
  cases x <;> try rfl
  next b=>cases b <;> rfl
theorem TJ:qOr (some (.bool true)) fb δ=some (.bool true):=rfl
theorem TQ:qOr (some (.bool false)) fb δ=fb δ:=rfl
theorem v_not:Ji fa δ=qN (fa δ):=by
 unfold Ji qN
 cases fa δ with
 | none=>rfl
 | some x=>cases x <;> rfl
theorem O1 {b:Bool}:qN (some (.bool b))=some (.bool (!b)):=rfl
theorem X6:aW fa δ=qB (fa δ):=by
 unfold aW qB
 cases fa δ with
 | none=>rfl
 | some x=>cases x <;> rfl
theorem TX {b:Bool}:qB (some (.bool b))=some b:=rfl
theorem TY:D3.iG c c' δ=qTA (c δ) c' δ:=by
 unfold D3.iG qTA
 cases c δ with
 | none=>rfl
 | some t=>cases t <;> rfl
theorem Kc:qTA (some true) c δ=c δ:=rfl
theorem Ke:qTA (some false) c δ=some false:=rfl
theorem Wc:D3.tOr c c' δ=qTO (c δ) c' δ:=by
 unfold D3.tOr qTO
 cases c δ with
 | none=>rfl
 | some t=>cases t <;> rfl
theorem O2:qTO (some true) c δ=some true:=rfl
theorem O3:qTO (some false) c δ=c δ:=rfl
theorem T3:D3.jW c δ=qTN (c δ):=by
 unfold D3.jW qTN
 cases c δ <;> rfl
theorem Kf {b:Bool}:qTN (some b)=some (!b):=rfl
theorem v_ite:dIf c fa fb δ=qE (c δ) fa fb δ:=by
 unfold dIf qE
 cases c δ with
 | none=>rfl
 | some t=>cases t <;> rfl
theorem O4:qE (some true) fa fb δ=fa δ:=rfl
theorem O5:qE (some false) fa fb δ=fb δ:=rfl
theorem Wf:jP fa δ=qL (fa δ):=by
 unfold jP qL asList
 cases fa δ with
 | none=>rfl
 | some x=>cases x <;> rfl
theorem O6 {l:List D}:qL (some (.list l))=some l:=rfl
theorem Wg:jD fr G b δ=Tp (fr δ) G b δ:=by
 unfold jD Tp
 cases fr δ <;> rfl
theorem O7 {l:List D}:Tp (some l) G b δ=jB G b l δ:=rfl
theorem Ho:jB G b [] δ=some (.nx δ):=rfl
theorem Wh:GC fa G δ=qD (qG (fa δ) G δ):=by
 unfold GC qG qD
 cases fa δ with
 | none=>rfl
 | some d =>
  dsimp only [aJ]
  cases G d δ <;> rfl
theorem O8:qG (some d) G δ=G d δ:=rfl
theorem O9 {δ':DS}:qD (some δ')=some (.nx δ'):=rfl
theorem X7:gNl i d δ=if i < δ.length then some (δ.set i (some (.d d))) else none:=rfl
theorem X8 {n:Nat} {gs:List D→DS→Option DS} {l:List D}:gTn n gs (.tuple l) δ=if l.length=n then gs l δ else none:=rfl
theorem Wi:lg [] δ=some δ:=rfl
theorem Wj {gs:List D→DS→Option DS} {l:List D}:cU G gs (d :: l) δ=qGs (G d δ) gs l:=by
 show (G d δ).bind (fun δ'=>gs l δ')=qGs (G d δ) gs l
 cases G d δ <;> rfl
theorem O_ {gs:List D→DS→Option DS} {l:List D} {δ':DS}:qGs (some δ') gs l=gs l δ':=rfl
theorem Wk:dTup fr δ=qT (fr δ):=by
 unfold dTup qT
 cases fr δ <;> rfl
theorem Pa {l:List D}:qT (some l)=if l.length ≤ sizeLine then some (.tuple l) else none:=rfl
theorem X_:jA fr δ=qK (fr δ):=by
 unfold jA qK
 cases fr δ <;> rfl
theorem T4 {l:List D}:qK (some l)=if l.length ≤ sizeLine then some (.list l) else none:=rfl
theorem T5:dX fa δ=qFl flat (fa δ):=by
 unfold dX qFl
 cases fa δ <;> rfl
theorem Wl:sS fa δ=qFl fl1 (fa δ):=by
 unfold sS qFl
 cases fa δ <;> rfl
theorem T6 {p:D→Bool}:qFl p (some d)=if p d=true then some d else none:=rfl
theorem Wm:sU i fa δ=qA i (aD i δ) (fa δ) δ:=by
 unfold sU qA
 cases aD i δ with
 | none=>rfl
 | some x =>
  cases fa δ with
  | none=>cases x <;> rfl
  | some d=>cases x <;> rfl
theorem Pb {l:List D}:qA i (some (.list l)) (some d) δ=if l.length < 1000000 then some (.nx (δ.set i (some (.d (.list (l++[d])))))) else none:=rfl
theorem Wn {fk:FE}:uF i fk fa δ=qP i (fa δ) (aD i δ) (fk δ) δ:=by
 unfold uF qP
 cases fa δ with
 | none=>rfl
 | some d =>
  cases aD i δ with
  | none=>rfl
  | some x =>
   cases fk δ with
   | none=>cases x <;> rfl
   | some k=>cases x <;> cases k <;> rfl
theorem Pg {l:List D} {j:Int}:qP i (some d) (some (.list l)) (some (.int j)) δ=(pIx l.length j).bind fun n=>some (.nx (δ.set i (some (.d (.list (l.set n d)))))):=rfl
theorem Ph {g':D→D→Option D}:oE g g' fa fb fc δ=qCh g' (qO g (fa δ) (fb δ)) (fb δ) fc δ:=by
 unfold oE qCh qO
 cases fa δ with
 | none=>rfl
 | some x =>
  cases fb δ with
  | none=>rfl
  | some y =>
   dsimp only [aJ]
   cases g x y with
   | none=>rfl
   | some z =>
    cases z <;> try rfl
    next b =>
    cases b with
    | false=>rfl
    | true=>dsimp only [aJ];cases fc δ <;> rfl
theorem Hq {g':D→D→Option D} {y:Option D}:qCh g' (some (.bool true)) y fc δ=qO g' y (fc δ):=rfl
theorem Hr {g':D→D→Option D} {y:Option D}:qCh g' (some (.bool false)) y fc δ=some (.bool false):=rfl
theorem Wo {p q:Nat} {ds:List D}:fnD p q b ds=if ds.length=p then qFn (b (ds.map (fun d=>some (.d d))++bG q none)) else none:=by
 unfold fnD qFn
 rfl
theorem Pj:qFn (some (.rt d))=some d:=rfl
theorem Pq {δ':DS}:qFn (some (.nx δ'))=some .none:=rfl
theorem T7 {t:Nat} {ix:List Nat}:iT fr G c fa t ix δ=qCo (fr δ) G c fa t ix δ:=by
 unfold iT qCo
 cases fr δ with
 | none=>rfl
 | some l =>
  dsimp only [aJ]
  by_cases z:l.length ≤ 100000
  ·rw [if_pos z,if_pos z]
   cases fJ G c fa (jM t ix δ) l <;> rfl
  ·rw [if_neg z,if_neg z]
theorem Kg {t:Nat} {ix:List Nat} {l:List D}:qCo (some l) G c fa t ix δ=if l.length ≤ 100000 then (match fJ G c fa (jM t ix δ) l with | some r=>some (.list r) | none=>none) else none:=rfl
theorem Wq:D3.jX δ=some true:=rfl
theorem T8 {r:DS} {x:D}:aD 0 (some (.d x) :: r)=some x:=rfl
theorem T9 {r:DS} {y:Option U}:aD (i + 1) (y :: r)=aD i r:=rfl
end
section
variable {i j:Int} {l m:List D} {d:D}
theorem Wr:jd (.int i) (.int j)=some (.int (i + j)):=rfl
theorem Ws:Gi (.int i) (.int j)=some (.int (i - j)):=rfl
theorem Yb:gLt (.int i) (.int j)=some (.bool (decide (i < j))):=rfl
theorem Yc:gLe (.int i) (.int j)=some (.bool (decide (i ≤ j))):=rfl
theorem Yd:gGt (.int i) (.int j)=some (.bool (decide (j < i))):=rfl
theorem Ye:gGe (.int i) (.int j)=some (.bool (decide (j ≤ i))):=rfl
theorem Kh:gEq (.int i) (.int j)=some (.bool (decide (i=j))):=rfl
theorem BK:gNe (.int i) (.int j)=some (.bool (!decide (i=j))):=rfl
theorem Wt:ju [.list l]=some (.int l.length):=rfl
theorem T_:ju [.tuple l]=some (.int l.length):=rfl
theorem rC:∀ ns:List Int,jE (ns.map .int)=some ns
 | []=>rfl
 | n :: r=>by rw [bJ,jE,rC r];rfl
theorem Wu:XC [.int i]=some (.int (if i < 0 then -i else i)):=rfl
theorem Kl:yh [.int i,.int j]=some (.int (if j > i then j else i)):=rfl
theorem Km:yj [.int i,.int j]=some (.int (if j < i then j else i)):=rfl
theorem Wv:yP (.int i)=some (.int (-i)):=rfl
theorem Yg:gIx (.list l) (.int i)=pAt l i:=rfl
theorem Ww:gIx (.tuple l) (.int i)=pAt l i:=rfl
theorem yG:nR (.list l) (.list m)=if l.length + m.length ≤ 1000000 then some (.list (l++m)) else none:=rfl
theorem Ua:sW (.list l)=some (.list l):=rfl
theorem Pr:sW (.tuple l)=some (.list l):=rfl
theorem Wx:pAt (d :: l) 0=some d:=by
 unfold pAt pIx
 rw [if_pos (by decide),if_pos (by simp)]
 rfl
end
def Ub (i j:Nat) (a:Option (List D)) (δ:DS):Option Oc:=match a with
 | some l=>match l with
  | [x,y]=>if i < δ.length∧j < δ.length then some (.nx ((δ.set i (some (.d x))).set j (some (.d y)))) else none
  | _=>none
 | none=>none
def oY (a:Option (List D)):Option (List D):=match a with
 | some l=>match l with
  | [.int j]=>if rH j=true then some (gh 0 j) else none
  | _=>none
 | none=>none
def Fw (a:Option (List D)):Option (List D):=match a with
 | some l=>match l with
  | [.int i,.int j]=>if (rH i && rH j)=true then some (gh i j) else none
  | _=>none
 | none=>none
def qSl (x:Option D) (a b:Option (Option Int)):Option D:=match x,a,b with
 | some (.list l),some a,some b=>some (.list (cutD l a b))
 | _,_,_=>none
def qOP (x:Option D):Option (Option Int):=match x with
 | some (.int i)=>some (some i)
 | _=>none
def qEn (x:Option D):Option (List D):=match x with
 | some (.list l)=>some (lF l)
 | _=>none
section
variable {a b:FS} {fa:FE} {fr:FA} {δ:DS} {i j:Nat} {g:FG}
theorem Wy:Vu i j fr δ=Ub i j (fr δ) δ:=by
 unfold Vu Ub
 cases fr δ with
 | none=>rfl
 | some l=>rfl
theorem Pu {x y:D}:Ub i j (some [x,y]) δ=if i < δ.length∧j < δ.length then some (.nx ((δ.set i (some (.d x))).set j (some (.d y)))) else none:=rfl
theorem Uc:jQ fr δ=oY (fr δ):=by
 unfold jQ oY
 cases fr δ with
 | none=>rfl
 | some l=>rfl
theorem Ko {k:Int} (h : -(2 ^ 62) ≤ k) (h2:k < 2 ^ 62):oY (some [.int k])=some (gh 0 k):=by
 show (if rH k=true then some (gh 0 k) else none)=_
 rw [if_pos]
 unfold rH
 rw [dTr h,dTr h2]
 rfl
theorem Ud:Et fr δ=Fw (fr δ):=by
 unfold Et Fw
 cases fr δ with
 | none=>rfl
 | some l=>rfl
theorem Yh {i k:Int} (h : -(2 ^ 62) ≤ k) (h2:k < 2 ^ 62) (h3 : -(2 ^ 62) ≤ i) (h4:i < 2 ^ 62):Fw (some [.int i,.int k])=some (gh i k):=by
 show (if (rH i && rH k)=true then some (gh i k) else none)=_
 rw [if_pos]
 unfold rH
 rw [dTr h,dTr h2,dTr h3,dTr h4]
 rfl
theorem Ue {lo hi:FO}:dSl fa lo hi δ=qSl (fa δ) (lo δ) (hi δ):=by
 unfold dSl qSl
 cases fa δ with
 | none=>rfl
 | some x =>
  dsimp only [aJ]
  cases lo δ with
  | none=>cases x <;> rfl
  | some p =>
   dsimp only [aJ]
   cases hi δ with
   | none=>cases x <;> rfl
   | some r=>cases x <;> rfl
theorem Dz {l:List D} {p r:Option Int}:qSl (some (.list l)) (some p) (some r)=some (.list (cutD l p r)):=rfl
theorem Yi:yp δ=some none:=rfl
theorem Yj:vp fa δ=qOP (fa δ):=by
 unfold vp qOP
 cases fa δ with
 | none=>rfl
 | some x=>cases x <;> rfl
theorem Ug {k:Int}:qOP (some (.int k))=some (some k):=rfl
theorem Uh:vq fa δ=qEn (fa δ):=by
 unfold vq qEn
 cases fa δ with
 | none=>rfl
 | some x=>cases x <;> rfl
theorem Kp {l:List D}:qEn (some (.list l))=some (lF l):=rfl
theorem iK (Inv:Nat→DS→Prop):∀ (l:List D) (δ:DS),Inv 0 δ→(∀ i d δ,l[i]? = some d→Inv i δ→∃ δ1 δ',g d δ=some δ1∧(b δ1=some (.nx δ')∨b δ1=some (.ct δ'))∧Inv (i + 1) δ')→∃ δ',jB g b l δ=some (.nx δ')∧Inv l.length δ':=by
 have key:∀ (l:List D) (k:Nat) (δ:DS),Inv k δ→(∀ i d δ,l[i]? = some d→Inv (k + i) δ→∃ δ1 δ',g d δ=some δ1∧(b δ1=some (.nx δ')∨b δ1=some (.ct δ'))∧Inv (k + i + 1) δ')→∃ δ',jB g b l δ=some (.nx δ')∧Inv (k + l.length) δ':=by
  intro l
  induction l with
  | nil=>exact fun k δ h _=>⟨δ,rfl,h⟩
  | cons d r ih =>
   intro k δ h hs
   obtain ⟨δ1,δ',e1,e2,e3⟩:=hs 0 d δ rfl h
   obtain ⟨δ2,e4,e5⟩:=ih (k + 1) δ' e3 fun i d' δ'' hd hi=>by
    have:=hs (i + 1) d' δ'' (by simpa using hd) (by rw [show k + (i + 1)=k + 1 + i by omega];exact hi)
    rw [show k + (i + 1) + 1=k + 1 + i + 1 by omega] at this
    exact this
   refine ⟨δ2,?_,by rw [bQ,show k + (r.length + 1)=k + 1 + r.length by omega];exact e5⟩
   rw [jB,e1,aJ]
   rcases e2 with e2 | e2
   ·rw [e2];exact e4
   ·rw [e2];exact e4
 intro l δ h hs
 have:=key l 0 δ h fun i d δ hd hi=>by
  have:=hs i d δ hd (by rw [kY] at hi;exact hi)
  rw [kY]
  exact this
 rw [kY] at this
 exact this
end
def qX (a:Option D) (δ:DS):Option Oc:=match a with
 | some _=>some (.nx δ)
 | none=>none
theorem Ui {fa:FE} {δ:DS}:vg fa δ=qX (fa δ) δ:=by
 unfold vg qX
 cases fa δ <;> rfl
theorem Kq {d:D} {δ:DS}:qX (some d) δ=some (.nx δ):=rfl
theorem Kr {g g' g'':D→D→Option D} {fa fb fc fd:FE} {δ:DS}:uJ g g' g'' fa fb fc fd δ=Hj (qO g (fa δ) (fb δ)) (oE g' g'' fb fc fd) δ:=by
 unfold uJ Hj oE qO
 cases fa δ with
 | none=>rfl
 | some x =>
  cases fb δ with
  | none=>rfl
  | some y =>
   dsimp only [aJ]
   cases g x y with
   | none=>rfl
   | some z =>
    cases z <;> try rfl
    next b=>cases b <;> rfl
def qZ (a b:Option D):Option (List D):=match a,b with
 | some (.list l),some (.list m)=>some (M9 l m)
 | _,_=>none
theorem Wz {f g:FE} {δ:DS}:Vv f g δ=qZ (f δ) (g δ):=by
 unfold Vv qZ
 cases f δ with
 | none=>rfl
 | some x =>
  cases g δ with
  | none=>cases x <;> rfl
  | some y=>cases x <;> cases y <;> rfl
theorem Px {l m:List D}:qZ (some (.list l)) (some (.list m))=some (M9 l m):=rfl
theorem Yk {fa:FE} {δ:DS}:dN1 fa δ=qFl (fun d=>decide (nl d ≤ 1)) (fa δ):=by
 unfold dN1 qFl
 cases fa δ <;> rfl
theorem WD:flat .none=true:=rfl
theorem Yl {b:Bool}:flat (.bool b)=true:=rfl
theorem f_int {i:Int}:flat (.int i)=true:=rfl
theorem WK {x:Str}:flat (.str x)=true:=rfl
theorem WL {l:List D}:flat (.list l)=false:=rfl
theorem f_tup {l:List D}:flat (.tuple l)=flats l:=rfl
theorem WM:flats []=true:=rfl
theorem Uj {d:D} {l:List D}:flats (d :: l)=(flat d && flats l):=rfl
theorem Uk:fl1 .none=true:=rfl
theorem WQ {b:Bool}:fl1 (.bool b)=true:=rfl
theorem Ul {i:Int}:fl1 (.int i)=true:=rfl
theorem Um {x:Str}:fl1 (.str x)=true:=rfl
theorem nG {l:List D}:fl1 (.list l)=flats l:=rfl
theorem Uo {l:List D}:fl1 (.tuple l)=flats l:=rfl
theorem Ym {c:String} {d:D}:gIs c d=some (.bool (isT c (tyD d))):=rfl
theorem WR {d:D}:nA d=some (.bool (isNone d)):=rfl
theorem Uq {d:D}:kE d=some (.bool (!isNone d)):=rfl
theorem WT:isNone .none=true:=rfl
theorem Yn {b:Bool}:isNone (.bool b)=false:=rfl
theorem WW {i:Int}:isNone (.int i)=false:=rfl
theorem WX {x:Str}:isNone (.str x)=false:=rfl
theorem WY {l:List D}:isNone (.list l)=false:=rfl
theorem W0 {l:List D}:isNone (.tuple l)=false:=rfl
theorem W2 {l:List (D × D)}:isNone (.dict l)=false:=rfl
def EVL:=And.intro @WD <| And.intro @Yl <| And.intro @f_int <| And.intro @WK <| And.intro @WL <| And.intro @f_tup <| And.intro @WM <| And.intro @Uj <| And.intro @Uk <| And.intro @WQ <| And.intro @Ul <| And.intro @Um <| And.intro @nG <| And.intro @Uo <| And.intro @Ym <| And.intro @WR <| And.intro @Uq <| And.intro @WT <| And.intro @Yn <| And.intro @WW <| And.intro @WX <| And.intro @WY <| And.intro @W0 <| And.intro @W2 <| And.intro @bQ.{0} <| And.intro @jo.{0} <| And.intro @bJ.{0,0} <| And.intro @kJ.{0,0} <| And.intro @cY.{0} <| And.intro @List.replicate_zero.{0} <| And.intro @List.cons_append.{0} <| And.intro @mK.{0} <| And.intro @cH.{0} <| And.intro @List.set_cons_zero.{0} <| And.intro @List.set_cons_succ.{0} <| And.intro @kY <| And.intro @if_true.{1} <| And.intro @decide_true <| And.intro @decide_false <| And.intro @Int.cast_ofNat_Int <| And.intro @bL <| And.intro @cC <| @Bool.and_self
def EV:=And.intro EVL <| And.intro @Yk <| And.intro @Wz <| And.intro @Px <| And.intro @Ui <| And.intro @Kq <| And.intro @Kr <| And.intro @V9 (And.intro @J7 (And.intro @J8 (And.intro @J9 (And.intro @J_ (And.intro @V_ (And.intro @XR (And.intro @X3 (And.intro @X4 (And.intro @Tq (And.intro @Tr (And.intro @v_op (And.intro @Tt (And.intro @X5 (And.intro @Tv (And.intro @Tw (And.intro @Ov (And.intro @Hl (And.intro @Tz (And.intro @Ka (And.intro @Wa (And.intro @Ox (And.intro @TF (And.intro @Wb (And.intro @Oz (And.intro @v_c (And.intro @v_and (And.intro @OD (And.intro @OJ (And.intro @v_or (And.intro @TJ (And.intro @TQ (And.intro @v_not (And.intro @O1 (And.intro @X6 (And.intro @TX (And.intro @TY (And.intro @Kc (And.intro @Ke (And.intro @Wc (And.intro @O2 (And.intro @O3 (And.intro @T3 (And.intro @Kf (And.intro @v_ite (And.intro @O4 (And.intro @O5 (And.intro @Wf (And.intro @O6 (And.intro @Wg (And.intro @O7 (And.intro @Ho (And.intro @Wh (And.intro @O8 (And.intro @O9 (And.intro @X7 (And.intro @X8 (And.intro @Wi (And.intro @Wj (And.intro @O_ (And.intro @Wk (And.intro @Pa (And.intro @X_ (And.intro @T4 (And.intro @T5 (And.intro @Wl (And.intro @T6 (And.intro @Wm (And.intro @Pb (And.intro @Wn (And.intro @Pg (And.intro @Ph (And.intro @Hq (And.intro @Hr (And.intro @Wo (And.intro @Pj (And.intro @Pq (And.intro @T7 (And.intro @Kg (And.intro @Wq (And.intro @T8 (And.intro @T9 (And.intro @Wr (And.intro @Ws (And.intro @Yb (And.intro @Yc (And.intro @Yd (And.intro @Ye (And.intro @Kh (And.intro @BK (And.intro @Wt (And.intro @T_ (And.intro @Wu (And.intro @Kl (And.intro @Km (And.intro @Wv (And.intro @Yg (And.intro @Ww (And.intro @yG (And.intro @Ua (And.intro @Pr (And.intro @Wx (And.intro @Wy (And.intro @Pu (And.intro @Uc (And.intro @Ud (And.intro @Ue (And.intro @Dz (And.intro @Yi (And.intro @Yj (And.intro @Ug (And.intro @Uh @Kp)))))))))))))))))))))))))))))))))))))))))))))))))))))))))))))))))))))))))))))))))))))))))))))))))))))))))))))))
end D3
namespace My
def ou (ns:List Int) (i:Int):Int :=
 if i < (ns.length:Int) then ns.getD i.toNat 0 % 1000000007
 else if ns=[] then 7919 * i + 5000011
 else ns.getD (i * 7 % (ns.length:Int)).toNat 0 % 1000000007 + 7919 * i
def divs (n:Int):Nat→Int
 | 0=>n
 | k + 1=>divs n k / 1000003
def Fx (c i k m:Int):Int :=
 (((c + 65537 * i + 3) * (1299709 + 15485863 * k) % 2147483629 * ((c + 65537 * i + 3) * (1299709 + 15485863 * k) % 2147483629) % 1500450271 + 104729) *
  ((c + 65537 * i + 3) * (1299709 + 15485863 * k) % 2147483629 * ((c + 65537 * i + 3) * (1299709 + 15485863 * k) % 2147483629) % 1500450271 + 104729)) % 715827883 / 64 % m
def jG (ns:List Int) (i k m:Int):Int :=
 if i < (ns.length:Int)∧10 ^ 40 ≤ ns.getD i.toNat 0∧0 < divs (ns.getD i.toNat 0) k.toNat then divs (ns.getD i.toNat 0) k.toNat % 1000003 % m
 else Fx (ou ns i) i k m
theorem fD (ns:List Int) (i k:Int) {m:Int} (h:0 < m):0 ≤ jG ns i k m∧jG ns i k m < m:=by
 unfold jG Fx
 split
 ·exact ⟨jU _ (by omega),jg _ h⟩
 ·exact ⟨jU _ (by omega),jg _ h⟩
theorem Hs {ns:List Int} {i k m:Int} (h1:i < (ns.length:Int)) (h2:10 ^ 40 ≤ ns.getD i.toNat 0) (h3:0 < divs (ns.getD i.toNat 0) k.toNat) :
 jG ns i k m=divs (ns.getD i.toNat 0) k.toNat % 1000003 % m:=by
 unfold jG
 rw [if_pos ⟨h1,h2,h3⟩]
theorem rY {ns:List Int} {i k m:Int} (h:¬ (i < (ns.length:Int)∧10 ^ 40 ≤ ns.getD i.toNat 0∧0 < divs (ns.getD i.toNat 0) k.toNat)) :
 jG ns i k m=Fx (ou ns i) i k m:=by
 unfold jG
 rw [if_neg h]
end My
namespace Com
open PySem D3
noncomputable def fO:List D→Option D:=fnD 1 0 (cT (rP (dUn (gIs "int") (aD 0)) (Ji (dUn (gIs "bool") (aD 0)))))
noncomputable def jf:List D→Option D:=fnD 2 0 (bY (sIf (aW (dOp gLt (aD 1) (dCall ju (aF (aD 0) (bh))))) (cT (dOp rQ (dOp gIx (aD 0) (aD 1)) (dC (.int 1000000007)))) (cZ))
 (bY (sIf (aW (dOp gEq (aD 0) (jA (bh)))) (cT (dOp jd (dOp pF (dC (.int 7919)) (aD 1)) (dC (.int 5000011)))) (cZ))
 (cT (dOp jd (dOp rQ (dOp gIx (aD 0) (dOp rQ (dOp pF (aD 1) (dC (.int 7))) (dCall ju (aF (aD 0) (bh))))) (dC (.int 1000000007))) (dOp pF (dC (.int 7919)) (aD 1))))))
noncomputable def bT:List D→Option D:=fnD 4 2 (bY (sIf (D3.iG (aW (dOp gLt (aD 1) (dCall ju (aF (aD 0) (bh))))) (aW (dOp gGe (dOp gIx (aD 0) (aD 1)) (dOp RP (dC (.int 10)) (dC (.int 40)))))) (bY (cD 4 (dOp gIx (aD 0) (aD 1)))
 (bY (jD (jQ (aF (aD 2) (bh))) (gNl 5) (cD 4 (dOp Ay (aD 4) (dC (.int 1000003)))))
 (sIf (aW (dOp gGt (aD 4) (dC (.int 0)))) (cT (dOp rQ (dOp rQ (aD 4) (dC (.int 1000003))) (aD 3))) (cZ)))) (cZ))
 (bY (cD 4 (dOp rQ (dOp pF (dOp jd (dOp jd (dCall jf (aF (aD 0) (aF (aD 1) (bh)))) (dOp pF (dC (.int 65537)) (aD 1))) (dC (.int 3))) (dOp jd (dC (.int 1299709)) (dOp pF (dC (.int 15485863)) (aD 2)))) (dC (.int 2147483629))))
 (bY (cD 4 (dOp jd (dOp rQ (dOp pF (aD 4) (aD 4)) (dC (.int 1500450271))) (dC (.int 104729))))
 (cT (dOp rQ (dOp Ay (dOp rQ (dOp pF (aD 4) (aD 4)) (dC (.int 715827883))) (dC (.int 64))) (aD 3))))))
noncomputable def cJ:List D→Option D:=fnD 1 0 (cT (rP (dUn (gIs "int") (aD 0)) (Ji (dUn (gIs "bool") (aD 0)))))
noncomputable def jN:List D→Option D:=fnD 2 0 (cT (oE gLe gLt (dOp gIx (aD 0) (dC (.int 0))) (aD 1) (dOp gIx (aD 0) (dC (.int 1)))))
noncomputable def iR:List D→Option D:=fnD 2 0 (cT (dCall ju (aF (iT (jP (aD 0)) (gNl 0) (aW (dCall jN (aF (aD 0) (aF (aD 1) (bh))))) (dX (aD 0)) 1 [1]) (bh))))
noncomputable def nJ:List D→Option D:=fnD 1 0 (cT (iT (jP (aD 0)) (gNl 0) (jX) (dX (dOp gIx (aD 0) (dC (.int 0)))) 1 []))
noncomputable def lA:List D→Option D:=fnD 3 2 (bY (cD 3 (iT (jP (dCall nJ (aF (aD 0) (bh)))) (gNl 0) (aW (dOp gGt (aD 0) (aD 1))) (dX (aD 0)) 1 [2]))
 (bY (jD (jP (dOp nR (jA (aF (aD 2) (bh))) (dCall sV (aF (aD 3) (bh))))) (gNl 4) (sIf (aW (dOp gGt (dCall iR (aF (aD 0) (aF (aD 4) (bh)))) (aD 1))) (cT (dX (aD 4))) (cZ)))
 (cT (dC (.none)))))
noncomputable def dh:List D→Option D:=fnD 1 0 (cT (dTup (aF (dX (dOp gIx (aD 0) (dC (.int 0)))) (aF (dX (dOp gIx (aD 0) (dC (.int 1)))) (bh)))))
noncomputable def gj:List D→Option D:=fnD 5 2 (bY (cD 5 (dCall yj (aF (dC (.int 399)) (aF (dOp jd (aD 4) (dCall bT (aF (aD 0) (aF (aD 1) (aF (aD 2) (aF (dOp gIx (jA (aF (dC (.int 3)) (aF (dC (.int 9)) (aF (dC (.int 24)) (aF (dC (.int 60)) (bh)))))) (aD 3)) (bh))))))) (bh)))))
 (bY (cD 6 (dOp jd (dC (.int 1)) (dCall bT (aF (aD 0) (aF (aD 1) (aF (dOp jd (aD 2) (dC (.int 1))) (aF (dOp gIx (jA (aF (dC (.int 2)) (aF (dC (.int 6)) (aF (dC (.int 24)) (aF (dC (.int 60)) (bh)))))) (dCall bT (aF (aD 0) (aF (aD 1) (aF (dOp jd (aD 2) (dC (.int 2))) (aF (dC (.int 4)) (bh))))))) (bh))))))))
 (cT (dTup (aF (dX (aD 5)) (aF (dCall yj (aF (dC (.int 400)) (aF (dOp jd (aD 5) (aD 6)) (bh)))) (aF (dC (.none)) (bh))))))))
noncomputable def iM:List D→Option D:=fnD 3 1 (bY (cD 3 (dCall lA (aF (iT (jP (aD 0)) (gNl 0) (jX) (dCall dh (aF (aD 0) (bh))) 1 []) (aF (aD 1) (aF (aD 2) (bh))))))
 (sIf (aW (dUn kE (aD 3))) ((fun _=>none)) (cZ)))
noncomputable def cO:List D→Option D:=fnD 3 2 (bY (cD 3 (dOp Jj (jA (aF (aD 2) (bh))) (aD 1)))
 (bY (jD (jP (aD 0)) (gNl 4) (sIf (aW (dUn kE (dOp gIx (aD 4) (dC (.int 2))))) (uF 3 (dOp gIx (aD 4) (dC (.int 2))) (dOp gIx (aD 4) (dC (.int 1)))) (cZ)))
 (cT (sS (aD 3)))))
noncomputable def gU:List D→Option D:=fnD 2 0 (cT (dX (dOp gIx (iT (vq (aD 0)) (gTn 2 (cU (gNl 0) (cU (gNl 1) (lg)))) (aW (dOp gLe (aD 1) (aD 2))) (dX (aD 0)) 2 [1]) (dC (.int 0)))))
noncomputable def gW:List D→Option D:=fnD 5 2 (bY (cD 5 (dCall yh (aF (dC (.int 0)) (aF (dOp Gi (aD 3) (dCall bT (aF (aD 0) (aF (aD 1) (aF (aD 2) (aF (dC (.int 6)) (bh))))))) (bh)))))
 (bY (cD 6 (dCall bT (aF (aD 0) (aF (aD 1) (aF (dOp jd (aD 2) (dC (.int 1))) (aF (dOp gIx (jA (aF (dC (.int 2)) (aF (dC (.int 9)) (aF (dC (.int 30)) (bh))))) (dCall bT (aF (aD 0) (aF (aD 1) (aF (dOp jd (aD 2) (dC (.int 2))) (aF (dC (.int 3)) (bh))))))) (bh)))))))
 (cT (dTup (aF (dX (aD 5)) (aF (dCall yj (aF (dC (.int 400)) (aF (dOp jd (dOp jd (aD 3) (dC (.int 1))) (aD 6)) (bh)))) (aF (dX (aD 4)) (bh))))))))
noncomputable def gw:List D→Option D:=fnD 3 1 (bY (jD (jP (dCall sV (aF (dOp nR (jA (aF (aD 2) (bh))) (iT (jP (aD 0)) (gNl 0) (jX) (dCall yh (aF (aD 1) (aF (dOp gIx (aD 0) (dC (.int 0))) (bh)))) 1 [2])) (bh)))) (gNl 3) (sIf (aW (dOp gGt (dCall ju (aF (iT (jP (aD 0)) (gNl 0) (D3.iG (aW (dOp gLe (dOp gIx (aD 0) (dC (.int 0))) (aD 1))) (aW (dOp gLt (aD 1) (dOp gIx (aD 0) (dC (.int 1)))))) (dX (aD 0)) 1 [3]) (bh))) (aD 1))) (cT (dX (aD 3))) (cZ)))
 (cT (dC (.none))))
noncomputable def jk:List D→Option D:=fnD 4 7 (bY (cD 4 (dCall bT (aF (aD 0) (aF (dC (.int 0)) (aF (dC (.int 0)) (aF (dC (.int 4)) (bh)))))))
 (bY (cD 5 (jA (bh)))
 (bY (jD (jQ (aF (aD 1) (bh))) (gNl 6) (sIf (D3.iG (aW (dOp gEq (dCall bT (aF (aD 0) (aF (dC (.int 1)) (aF (aD 6) (aF (dC (.int 3)) (bh)))))) (dC (.int 1)))) (aW (dOp gLt (dCall ju (aF (aD 5) (bh))) (aD 3)))) (bY (cD 7 (dCall bT (aF (aD 0) (aF (dC (.int 1)) (aF (dOp jd (dC (.int 12)) (aD 6)) (aF (dOp jd (dCall ju (aF (aD 5) (bh))) (dC (.int 1))) (bh)))))))
 (wR 5 (aD 7) (dCall gW (aF (aD 0) (aF (dC (.int 2)) (aF (dOp pF (dC (.int 3)) (aD 6)) (aF (aD 2) (aF (aD 6) (bh))))))))) (cZ)))
 (bY (cD 8 (dOp gEq (dCall bT (aF (aD 0) (aF (dC (.int 0)) (aF (dC (.int 6)) (aF (dC (.int 6)) (bh)))))) (dC (.int 1))))
 (bY (jD (jQ (aF (dOp gIx (jA (aF (dC (.int 10)) (aF (dC (.int 30)) (bh)))) (dCall Az (aF (aD 8) (bh)))) (bh))) (gNl 9) (bY (cD 10 (dCall gj (aF (aD 0) (aF (dOp jd (dC (.int 10)) (aD 9)) (aF (dC (.int 0)) (aF (aD 4) (aF (aD 2) (bh))))))))
 (bY (cD 7 (dCall bT (aF (aD 0) (aF (dC (.int 4)) (aF (aD 9) (aF (dOp jd (dCall ju (aF (aD 5) (bh))) (dC (.int 1))) (bh)))))))
 (sIf (D3.iG (aW (dOp gLt (dCall ju (aF (aD 5) (bh))) (aD 3))) (aW (dUn nA (dCall gw (aF (dOp nR (aD 5) (jA (aF (aD 10) (bh)))) (aF (aD 1) (aF (aD 2) (bh)))))))) (wR 5 (aD 7) (aD 10)) (cZ)))))
 (cT (sS (aD 5))))))))
noncomputable def fK:List D→Option D:=fnD 2 0 (sIf (D3.jW (aW (oE gLe gLt (dC (.int 0)) (aD 1) (aD 0)))) ((fun _=>none)) (cZ))
noncomputable def jm:List D→Option D:=fnD 3 0 (cT (dOp gEq (dCall iR (aF (iT (jP (aD 0)) (gNl 0) (jX) (dCall dh (aF (aD 0) (bh))) 1 []) (aF (aD 2) (bh)))) (aD 1)))
noncomputable def fX:List D→Option D:=fnD 4 1 (bY (cD 4 (dOp gIx (aD 0) (aD 2)))
 (cT (rP (dOp gNe (aD 2) (aD 1)) (rP (dUn nA (dOp gIx (aD 4) (dC (.int 2)))) (rP (dOp gEq (dOp gIx (aD 4) (dC (.int 0))) (aD 3)) (dOp gLe (dOp gIx (aD 4) (dC (.int 1))) (dOp gIx (dOp gIx (aD 0) (aD 1)) (dC (.int 0)))))))))
noncomputable def fY:List D→Option D:=fnD 4 1 (bY (cD 4 (iT (vq (aD 0)) (gTn 2 (cU (gNl 0) (cU (gNl 1) (lg)))) (aW (dCall fX (aF (aD 2) (aF (aD 3) (aF (aD 0) (aF (aD 4) (bh))))))) (dX (dTup (aF (dOp gIx (aD 1) (dC (.int 1))) (aF (aD 0) (bh))))) 2 [0,2,3]))
 (bY (sIf (D3.jW (aW (dCall jm (aF (aD 0) (aF (aD 1) (aF (aD 3) (bh))))))) (sU 4 (dTup (aF (dOp jd (aD 3) (dC (.int 1))) (aF (dC (.none)) (bh))))) (cZ))
 (cT (sS (aD 4)))))
noncomputable def j8:List D→Option D:=fnD 1 0 (cT (dX (dOp gIx (jA (aF (dC (.int 0)) (aF (dCall bT (aF (aD 0) (aF (dC (.int 0)) (aF (dC (.int 1)) (aF (dC (.int 40)) (bh)))))) (aF (dCall bT (aF (aD 0) (aF (dC (.int 0)) (aF (dC (.int 1)) (aF (dC (.int 400)) (bh)))))) (aF (dC (.int 390)) (bh)))))) (dCall bT (aF (aD 0) (aF (dC (.int 0)) (aF (dC (.int 2)) (aF (dC (.int 4)) (bh)))))))))
noncomputable def fZ:List D→Option D:=fnD 3 3 (bY (jD (jP (aD 0)) (gTn 3 (cU (gNl 3) (cU (gNl 4) (cU (gNl 5) (lg))))) (sIf (D3.iG (aW (dUn kE (aD 5))) (aW (dOp gEq (aD 5) (aD 2)))) (cT (dX (aD 4))) (cZ)))
 (cT (dX (aD 1))))
noncomputable def eG:List D→Option D:=fnD 1 0 (bY (sIf (D3.tOr (D3.jW (aW (dUn (gIs "list") (aD 0)))) (D3.jW (aW (dCall vC (aF (iT (jP (aD 0)) (gNl 0) (jX) (dCall cJ (aF (aD 0) (bh))) 1 []) (bh)))))) (cT (dC (.bool false))) (cZ))
 (cT (dCall vC (aF (iT (jQ (aF (dOp Gi (dCall ju (aF (aD 0) (bh))) (dC (.int 1))) (bh))) (gNl 0) (jX) (dOp gLt (dOp gIx (aD 1) (aD 0)) (dOp gIx (aD 1) (dOp jd (aD 0) (dC (.int 1))))) 1 [0]) (bh)))))
end Com
namespace Com
open PySem D3 My
theorem tH {ns:List Int} {i:Int} (h0:0 ≤ i) (h1:i < ns.length):pAt (ns.map PyData.int) i=some (.int (ns.getD i.toNat 0)):=by
 unfold pAt pIx
 rw [aG,if_pos h0,if_pos h1,aJ,aQ]
 have h:i.toNat < ns.length:=by omega
 rw [aN h]
 simp [List.getD,h]
theorem jV {l:List D} {k:Nat}:pAt l (k:Int)=l[k]?:=by
 unfold pAt pIx
 rw [if_pos (by omega)]
 by_cases h:k < l.length
 ·rw [if_pos (by omega),aJ]
  simp
 ·rw [if_neg (by omega),bf (by omega)]
  rfl
theorem at0 {a:D} {l:List D}:pAt (a :: l) 0=some a:=jV (k:=0)
theorem at1 {a b:D} {l:List D}:pAt (a :: b :: l) 1=some b:=jV (k:=1)
theorem zM {i j:Int} (h:0 < j):rQ (.int i) (.int j)=some (.int (i % j)):=by
 show (if decide (j ≠ 0)=true then some (PyData.int (i.fmod j)) else none)=_
 rw [if_pos (dTr (by omega)),Int.fmod_eq_emod_of_nonneg i (by omega)]
theorem Ks {j:Int} (h:j.natAbs < 2 ^ 64):j.natAbs < 2 ^ 9000:=bN h (qd (by decide) (by decide))
theorem Yo {i j:Int} (h:0 < j) (h2:j.natAbs < 2 ^ 9000):Ay (.int i) (.int j)=some (.int (i / j)):=by
 show (if CK i j=true then some (PyData.int (i.fdiv j)) else none)=_
 have e:CK i j=true:=by
  unfold CK
  rw [aL]
  exact ⟨dTr (by omega),dTr h2⟩
 rw [if_pos e,Int.fdiv_eq_ediv_of_nonneg i (by omega)]
theorem W3 {i j:Int} (h:0 < j) (h2:j < 18446744073709551616):Ay (.int i) (.int j)=some (.int (i / j)):=Yo h (Ks (by omega))
theorem mulL {i j:Int} (h1 : -18446744073709551616 < i) (h2:i < 18446744073709551616):pF (.int i) (.int j)=some (.int (i * j)):=by
 show (if vh i j=true then some (PyData.int (i * j)) else none)=_
 have e:vh i j=true:=by
  unfold vh
  rw [dTr (show i.natAbs < 2 ^ 64 by omega)]
  rfl
 rw [if_pos e]
theorem mulR {i j:Int} (h1 : -18446744073709551616 < j) (h2:j < 18446744073709551616):pF (.int i) (.int j)=some (.int (i * j)):=by
 show (if vh i j=true then some (PyData.int (i * j)) else none)=_
 have e:vh i j=true:=by
  unfold vh
  rw [dTr (show j.natAbs < 2 ^ 64 by omega),Bool.or_true]
  rfl
 rw [if_pos e]
theorem QV:RP (.int 10) (.int 40)=some (.int (10 ^ 40)):=rfl
theorem sz {n:Nat} (h:n ≤ 1000000):n ≤ sizeLine:=bM h (by decide)
theorem shaped_ints (ns:List Int):SeqAt.shaped (.list (ns.map PyData.int))=true:=by
 have h1:∀ ns:List Int,PyData.canLayAll0 (ns.map PyData.int)=true:=fun ns=>by
  induction ns with
  | nil=>rfl
  | cons a r ih=>simp [PyData.canLayAll0,PyData.canLay0,ih]
 have h2:∀ ns:List Int,PyData.depthAll (ns.map PyData.int) ≤ 1:=fun ns=>by
  induction ns with
  | nil=>simp [PyData.depthAll]
  | cons a r ih=>simp [PyData.depthAll,PyData.depth];omega
 unfold SeqAt.shaped
 rw [aL]
 refine ⟨by simp [PyData.canLay0,h1],dTr ?_⟩
 have:=h2 ns
 simp only [PyData.depth]
 omega
theorem eq_empty (ns:List Int):gEq (.list (ns.map PyData.int)) (.list [])=some (.bool (decide (ns=[]))):=by
 unfold gEq
 rw [shaped_ints ns]
 cases ns with
 | nil=>rfl
 | cons a r=>rfl
theorem Ht {ns:List Int} {i:Int} (h0:0 ≤ i):jf [.list (ns.map .int),.int i]=some (.int (ou ns i)):=by
 unfold jf ou
 by_cases h:i < (ns.length:Int)
 ·rw [if_pos h]
  simp only [EV,reduceIte,aq,au,aj,ao,aA,aB,aC,lMp,dTr h,tH h0 h,zM (show (0:Int) < 1000000007 by decide)]
 ·rw [if_neg h]
  by_cases hn:ns=[]
  ·rw [if_pos hn]
   simp only [EV,reduceIte,aq,au,aj,ao,aA,aB,aC,lMp,dFa h,eq_empty,dTr hn,eY,mulL (show (-18446744073709551616:Int) < 7919 by decide) (show (7919:Int) < 18446744073709551616 by decide)]
  ·rw [if_neg hn]
   have hl:0 < ns.length:=by
    cases ns with
    | nil=>exact absurd rfl hn
    | cons _ _=>simp
   have h7:0 ≤ i * 7 % (ns.length:Int):=jU _ (by omega)
   have h8:i * 7 % (ns.length:Int) < (ns.length:Int):=jg _ (by omega)
   simp only [EV,reduceIte,aq,au,aj,ao,aA,aB,aC,lMp,dFa h,eq_empty,dFa hn,eY,mulL (show (-18446744073709551616:Int) < 7919 by decide) (show (7919:Int) < 18446744073709551616 by decide),mulR (show (-18446744073709551616:Int) < 7 by decide) (show (7:Int) < 18446744073709551616 by decide),zM (show (0:Int) < 1000000007 by decide),zM (show (0:Int) < ns.length by omega),tH h7 h8]
theorem yH {l:D} {i k m:D} (n:Int):∀ (js:List D) (c:Nat) (y:Option U),(∀ j ∈ js,∃ x,j = .int x)→∃ y',jB (gNl 5) (cD 4 (dOp Ay (aD 4) (dC (.int 1000003)))) js [some (.d l),some (.d i),some (.d k),some (.d m),some (.d (.int (divs n c))),y] =
 some (.nx [some (.d l),some (.d i),some (.d k),some (.d m),some (.d (.int (divs n (c + js.length)))),y'])
 | [],c,y,_=>⟨y,rfl⟩
 | j :: js,c,y,h=>by
  obtain ⟨y',e⟩:=yH (l:=l) (i:=i) (k:=k) (m:=m) n js (c + 1) (some (.d j)) fun j' hj=>h j' (aO _ hj)
  refine ⟨y',?_⟩
  rw [jB]
  simp only [EV,reduceIte,aq,au,aj,ao,aA,aB,aC,W3 (show (0:Int) < 1000003 by decide) (show (1000003:Int) < 18446744073709551616 by decide),aJ]
  rw [show c + (js.length + 1)=c + 1 + js.length by omega,← e]
  rfl
theorem Hu (lo hi:Int):∀ j ∈ gh lo hi,∃ x,j = .int x:=by
 intro j hj
 unfold gh at hj
 obtain ⟨k,_,rfl⟩:=cQ.mp hj
 exact ⟨_,rfl⟩
theorem fP {ns:List Int} {i k m:Int} (h0:0 ≤ i) (hk0:0 ≤ k) (hk:k ≤ 1000) (hm:0 < m):bT [.list (ns.map .int),.int i,.int k,.int m]=some (.int (jG ns i k m)):=by
 have rest:∀ x y:Option U,qFn ((bY (cD 4 (dOp rQ (dOp pF (dOp jd (dOp jd (dCall jf (aF (aD 0) (aF (aD 1) (bh)))) (dOp pF (dC (.int 65537)) (aD 1))) (dC (.int 3))) (dOp jd (dC (.int 1299709)) (dOp pF (dC (.int 15485863)) (aD 2)))) (dC (.int 2147483629))))
  (bY (cD 4 (dOp jd (dOp rQ (dOp pF (aD 4) (aD 4)) (dC (.int 1500450271))) (dC (.int 104729))))
  (cT (dOp rQ (dOp Ay (dOp rQ (dOp pF (aD 4) (aD 4)) (dC (.int 715827883))) (dC (.int 64))) (aD 3))))) [some (.d (.list (ns.map .int))),some (.d (.int i)),some (.d (.int k)),some (.d (.int m)),x,y])=some (.int (Fx (ou ns i) i k m)):=by
  intro x y
  have b1:0 ≤ (ou ns i + 65537 * i + 3) * (1299709 + 15485863 * k) % 2147483629:=jU _ (by decide)
  have b2:(ou ns i + 65537 * i + 3) * (1299709 + 15485863 * k) % 2147483629 < 2147483629:=jg _ (by decide)
  have b3:0 ≤ (ou ns i + 65537 * i + 3) * (1299709 + 15485863 * k) % 2147483629 * ((ou ns i + 65537 * i + 3) * (1299709 + 15485863 * k) % 2147483629) % 1500450271:=jU _ (by decide)
  have b4:(ou ns i + 65537 * i + 3) * (1299709 + 15485863 * k) % 2147483629 * ((ou ns i + 65537 * i + 3) * (1299709 + 15485863 * k) % 2147483629) % 1500450271 < 1500450271:=jg _ (by decide)
  simp only [EV,reduceIte,aq,au,aj,ao,aA,aB,aC,Ht h0,mulL (show (-18446744073709551616:Int) < 65537 by decide) (show (65537:Int) < 18446744073709551616 by decide),mulL (show (-18446744073709551616:Int) < 15485863 by decide) (show (15485863:Int) < 18446744073709551616 by decide),
   mulR (i:=ou ns i + 65537 * i + 3) (show (-18446744073709551616:Int) < 1299709 + 15485863 * k by omega) (show 1299709 + 15485863 * k < (18446744073709551616:Int) by omega),zM (show (0:Int) < 2147483629 by decide)]
  simp only [mulL (show (-18446744073709551616:Int) < (ou ns i + 65537 * i + 3) * (1299709 + 15485863 * k) % 2147483629 by omega) (show (ou ns i + 65537 * i + 3) * (1299709 + 15485863 * k) % 2147483629 < (18446744073709551616:Int) by omega)]
  simp only [EV,reduceIte,aq,au,aj,ao,aA,aB,aC,zM (show (0:Int) < 1500450271 by decide)]
  rw [mulL (by omega) (by omega)]
  simp only [EV,reduceIte,aq,au,aj,ao,aA,aB,aC,zM (show (0:Int) < 715827883 by decide),W3 (show (0:Int) < 64 by decide) (show (64:Int) < 18446744073709551616 by decide),zM hm]
  rfl
 unfold bT
 rw [Wo]
 simp only [EV,reduceIte,aq,au,aj,ao,aA,aB,aC]
 by_cases h:i < (ns.length:Int)
 ·by_cases h2:10 ^ 40 ≤ ns.getD i.toNat 0
  ·simp only [EV,reduceIte,aq,au,aj,ao,aA,aB,aC,lMp,dTr h,tH h0 h,QV,dTr h2]
   obtain ⟨y',e⟩:=yH (l:=.list (ns.map .int)) (i:=.int i) (k:=.int k) (m:=.int m) (ns.getD i.toNat 0) (gh 0 k) 0 none (Hu 0 k)
   have el:0 + (gh 0 k).length=k.toNat:=by simp [gh]
   rw [el] at e
   have e':jB (gNl 5) (cD 4 (dOp Ay (aD 4) (dC (.int 1000003)))) (gh 0 k) [some (.d (.list (ns.map .int))),some (.d (.int i)),some (.d (.int k)),some (.d (.int m)),some (.d (.int (ns.getD i.toNat 0))),none] =
    some (.nx [some (.d (.list (ns.map .int))),some (.d (.int i)),some (.d (.int k)),some (.d (.int m)),some (.d (.int (divs (ns.getD i.toNat 0) k.toNat))),y']):=e
   rw [Ko (by omega) (by omega)]
   simp only [EV,reduceIte,aq,au,aj,ao,aA,aB,aC,e']
   by_cases h3:0 < divs (ns.getD i.toNat 0) k.toNat
   ·simp only [EV,reduceIte,aq,au,aj,ao,aA,aB,aC,dTr h3,zM (show (0:Int) < 1000003 by decide),zM hm]
    rw [Hs h h2 h3]
   ·simp only [EV,reduceIte,aq,au,aj,ao,aA,aB,aC,dFa h3]
    rw [rY (fun z=>h3 z.2.2)]
    have:=rest (some (.d (.int (divs (ns.getD i.toNat 0) k.toNat)))) y'
    simp only [EV,reduceIte,aq,au,aj,ao,aA,aB,aC] at this
    exact this
  ·simp only [EV,reduceIte,aq,au,aj,ao,aA,aB,aC,lMp,dTr h,tH h0 h,QV,dFa h2]
   rw [rY (fun z=>h2 z.2.1)]
   have:=rest none none
   simp only [EV,reduceIte,aq,au,aj,ao,aA,aB,aC] at this
   exact this
 ·simp only [EV,reduceIte,aq,au,aj,ao,aA,aB,aC,lMp,dFa h]
  rw [rY (fun z=>h z.1)]
  have:=rest none none
  simp only [EV,reduceIte,aq,au,aj,ao,aA,aB,aC] at this
  exact this
end Com
namespace Com
open PySem D3 My
theorem zN {α:Type} {g:FG} {c:FT} {e:FE} {δ:DS} (f:α→D) (p:α→Bool) (h:α→D):∀ l:List α,(∀ s ∈ l,∃ δ1,g (f s) δ=some δ1∧c δ1=some (p s)∧(p s=true→e δ1=some (h s)))→fJ g c e δ (l.map f)=some ((l.filter p).map h)
 | [],_=>rfl
 | s :: r,hs=>by
  obtain ⟨δ1,e1,e2,e3⟩:=hs s aM
  have ih:=zN f p h r fun x hx=>hs x (aO _ hx)
  rw [bJ,fJ,e1,aJ,e2,aJ]
  by_cases c:p s=true
  ·rw [if_pos c,e3 c,aJ,ih,List.filter_cons,if_pos c]
   rfl
  ·rw [if_neg c,ih,List.filter_cons,if_neg c]
theorem wY {α:Type} {g:FG} {c:FT} {e:FE} {δ:DS} (f:α→D) (h:α→D):∀ l:List α,(∀ s ∈ l,∃ δ1,g (f s) δ=some δ1∧c δ1=some true∧e δ1=some (h s))→fJ g c e δ (l.map f)=some (l.map h)
 | [],_=>rfl
 | s :: r,hs=>by
  obtain ⟨δ1,e1,e2,e3⟩:=hs s aM
  rw [bJ,fJ,e1,aJ,e2,aJ,if_pos rfl,e3,aJ,wY f h r fun x hx=>hs x (aO _ hx)]
  rfl
theorem gG {α:Type} (f:α→D) (h:∀ a,flat (f a)=true):∀ l:List α,flats (l.map f)=true
 | []=>rfl
 | a :: r=>by rw [bJ,flats,h,gG f h r];rfl
theorem at2 {a b c:D} {l:List D}:pAt (a :: b :: c :: l) 2=some c:=jV (k:=2)
theorem at3 {a b c d:D} {l:List D}:pAt (a :: b :: c :: d :: l) 3=some d:=jV (k:=3)
theorem m7 {m:Int}:(gh 0 m).length=m.toNat:=by unfold gh;rw [aG,bB,sy]
theorem zO (m:Int):gh 0 m=(aH m.toNat).map fun k:Nat=>PyData.int (k:Int):=by
 unfold gh
 rw [sy]
 apply gO
 intro k _
 rw [Int.zero_add]
theorem pN {m:Int} {i:Nat} {d:D} (h:(gh 0 m)[i]? = some d):(i:Int) < m∧d = .int (i:Int):=by
 rw [zO,aQ] at h
 by_cases hi:i < m.toNat
 ·rw [bZ hi] at h
  cases h
  exact ⟨by omega,rfl⟩
 ·rw [bf (by simpa using hi)] at h
  cases h
theorem W4 {l:List D} {k:Int} (h:0 ≤ k):cutD l none (some k)=l.take k.toNat:=by
 unfold cutD
 have e:pSx l.length l.length (some k)=min k.toNat l.length:=by
  show (if k < 0 then _ else _)=_
  rw [if_neg (by omega)]
 rw [e,show pSx l.length 0 none=0 from rfl,List.drop_zero,Nat.sub_zero,List.take_eq_take_iff]
 omega
theorem isList:D3.isT "list" "list" = true:=rfl
mutual
theorem eqv_refl:∀ d:D,d.canLay0=true→PyData.eqv d d=true
 | .none,_=>by simp [PyData.eqv]
 | .bool b,_=>by simp [PyData.eqv]
 | .int i,_=>by simp [PyData.eqv]
 | .str x,_=>by simp [PyData.eqv]
 | .list l,h=>by
  have:=eqvAll_refl l (by simpa [PyData.canLay0] using h)
  simpa [PyData.eqv] using this
 | .tuple l,h=>by
  have:=eqvAll_refl l (by simpa [PyData.canLay0] using h)
  simpa [PyData.eqv] using this
 | .dict l,h=>by simp [PyData.canLay0] at h
theorem eqvAll_refl:∀ l:List D,PyData.canLayAll0 l=true→PyData.eqvAll l l=true
 | [],_=>by simp [PyData.eqvAll]
 | d :: r,h=>by
  rw [PyData.canLayAll0,aL] at h
  rw [PyData.eqvAll,eqv_refl d h.1,eqvAll_refl r h.2]
  rfl
end
def ly (n:Nat) (d:D):Prop:=d.canLay0=true∧d.depth ≤ n
def lys (n:Nat) (l:List D):Prop:=PyData.canLayAll0 l=true∧PyData.depthAll l ≤ n
theorem Fy {n m:Nat} {d:D} (h:ly n d) (l:n ≤ m):ly m d:=⟨h.1,bM h.2 l⟩
theorem Py {n:Nat}:lys n []:=⟨by simp [PyData.canLayAll0],by simp [PyData.depthAll]⟩
theorem Ku {n:Nat} {d:D} {l:List D} (h:ly n d) (q:lys n l):lys n (d :: l) :=
 ⟨by rw [PyData.canLayAll0,h.1,q.1];rfl,by have:=h.2;have:=q.2;simp only [PyData.depthAll];omega⟩
theorem Fz {α:Type} {n:Nat} (f:α→D) (h:∀ a,ly n (f a)):∀ l:List α,lys n (l.map f)
 | []=>Py
 | a :: r=>Ku (h a) (Fz f h r)
theorem Pz {n:Nat} {l:List D} (h:lys n l):ly (n + 1) (.list l):=⟨by simp [PyData.canLay0,h.1],by have:=h.2;simp only [PyData.depth];omega⟩
theorem Ur {n:Nat} {i:Int}:ly (n + 1) (.int i):=⟨rfl,by simp [PyData.depth]⟩
theorem yI {d:D} (h:ly 60 d):SeqAt.shaped d=true:=by
 unfold SeqAt.shaped
 rw [aL]
 exact ⟨h.1,dTr (by have:=h.2;omega)⟩
theorem eq_self {d:D} (h:ly 60 d):gEq d d=some (.bool true):=by
 unfold gEq
 rw [yI h,eqv_refl d h.1]
 rfl
theorem ne_self {d:D} (h:ly 60 d):gNe d d=some (.bool false):=by
 unfold gNe
 rw [yI h,eqv_refl d h.1]
 rfl
end Com
namespace Com
open PySem D3 My
def q (t b:Int):Rat:=mkRat t b.toNat
end Com
namespace Com
open PySem D3 My
def sm (k:Nat) (x:Int):Prop:=x.natAbs < 2 ^ k
end Com
namespace Com
open PySem D3 My
structure Tb where
 N:Nat
 w:Nat→Int
 B:Int
def sumTo (f:Nat→Int):Nat→Int
 | 0=>0
 | n + 1=>sumTo f n + f n
structure TbOk (t:Tb) (k:Nat):Prop where
 B0:0 < t.B
 Bs:sm (7 * k + 1) t.B
 w0:∀ j,0 ≤ t.w j
 wB:∀ j,t.w j ≤ t.B
 wz:∀ j,t.N ≤ j→t.w j=0
 N1:1 ≤ t.N
 N4:t.N ≤ 1 + 4 * k
 sum:sumTo t.w t.N=t.B
theorem comp_map {g:FG} {c:FT} {e:FE} {δ:DS} (h:D→D):∀ l:List D,(∀ d ∈ l,∃ δ1,g d δ=some δ1∧c δ1=some true∧e δ1=some (h d))→fJ g c e δ l=some (l.map h)
 | [],_=>rfl
 | d :: r,hs=>by
  obtain ⟨δ1,e1,e2,e3⟩:=hs d aM
  rw [fJ,e1,aJ,e2,aJ,if_pos rfl,e3,aJ,comp_map h r fun x hx=>hs x (aO _ hx)]
  rfl
end Com
namespace Com
open PySem D3 My
end Com
namespace Com
open PySem D3 My
theorem sm1 (k:Nat) {x:Int} (h:x.natAbs ≤ 1):sm (k + 1) x:=by
 unfold sm
 rw [Nat.pow_succ]
 have:=Nat.one_le_two_pow (n:=k)
 omega
structure bd (k:Nat) (a:Rat):Prop where
 n:sm k a.num
 d:sm k (a.den:Int)
end Com
namespace Com
open PySem D3 My
end Com
namespace Com
open PySem D3 My
abbrev Sh:=Int × Int
def stD (s:Sh):D:=.tuple [.int s.1,.int s.2]
def W5 (s:Sh):Prop:=0 ≤ s.1∧s.1 < s.2∧s.2 ≤ 400
def hb (n:Int) (s:Sh):Bool:=decide (s.1 ≤ n) && decide (n < s.2)
def cnt (ss:List Sh) (n:Int):Nat:=(ss.filter (hb n)).length
theorem PB (r:Sh):flat (stD r)=true:=rfl
theorem DK (s:Sh) (n:Int):jN [stD s,.int n]=some (.bool (hb n s)):=by
 unfold jN stD hb
 by_cases h:s.1 ≤ n
 ·simp only [EV,reduceIte,aq,au,aj,ao,aA,aB,aC,at0,at1,dTr h,jr]
 ·simp only [EV,reduceIte,aq,au,aj,ao,aA,aB,aC,at0,at1,dFa h,f9]
theorem uy {g:FG} {c:FT} {e:FE} {δ:DS} (f:Sh→D) (p:Sh→Bool) (h:Sh→D):∀ l:List Sh,(∀ s ∈ l,∃ δ1,g (f s) δ=some δ1∧c δ1=some (p s)∧e δ1=some (h s))→fJ g c e δ (l.map f)=some ((l.filter p).map h)
 | [],_=>rfl
 | s :: r,hs=>by
  obtain ⟨δ1,e1,e2,e3⟩:=hs s aM
  have ih:=uy f p h r fun x hx=>hs x (aO _ hx)
  rw [bJ,fJ,e1,aJ,e2,aJ]
  cases hp:p s with
  | true =>
   rw [if_pos rfl,e3,aJ,ih,dJ (by simpa using hp)]
   rfl
  | false =>
   rw [if_neg (by decide),ih,dM (by simpa using hp)]
theorem wu {ss:List Sh} (hl:ss.length ≤ 1000) (n:Int):iR [.list (ss.map stD),.int n]=some (.int (cnt ss n:Int)):=by
 have C:=uy (g:=gNl 0) (c:=aW (dCall jN (aF (aD 0) (aF (aD 1) (bh))))) (e:=dX (aD 0)) (δ:=[none,some (.d (.int n))]) stD (hb n) stD ss (fun s _=>⟨[some (.d (stD s)),some (.d (.int n))],rfl,by simp only [EV,reduceIte,aq,au,aj,ao,aA,aB,aC,DK],by simp only [EV,reduceIte,aq,au,aj,ao,aA,aB,aC,PB]⟩)
 unfold iR
 simp only [EV,reduceIte,aq,au,aj,ao,aA,aB,aC,lMp,show ss.length ≤ 100000 by omega]
 rw [show jM 1 [1] [some (U.d (PyData.list (ss.map stD))),some (U.d (PyData.int n))]=[none,some (.d (.int n))] from rfl,C]
 simp only [EV,reduceIte,aq,au,aj,ao,aA,aB,aC,lMp]
 rfl
theorem BL {ss:List Sh} (hl:ss.length ≤ 1000):nJ [.list (ss.map stD)]=some (.list ((ss.map (·.1)).map .int)):=by
 unfold nJ
 have C:=comp_map (g:=gNl 0) (c:=D3.jX) (e:=dX (dOp gIx (aD 0) (dC (.int 0)))) (δ:=[none]) (fun d=>match d with | .tuple (a :: _)=>a | _=>.none) (ss.map stD) (fun d hd=>by
  obtain ⟨r,_,rfl⟩:=cQ.mp hd
  refine ⟨[some (.d (stD r))],rfl,rfl,?_⟩
  unfold stD
  simp only [EV,reduceIte,aq,au,aj,ao,aA,aB,aC,at0])
 simp only [EV,reduceIte,aq,au,aj,ao,aA,aB,aC,lMp,show ss.length ≤ 100000 by omega]
 rw [show ∀ a:Option U,jM 1 [] [a]=[none] from fun _=>rfl,C]
 simp only [EV,reduceIte,aq,au,aj,ao,aA,aB,aC]
 rw [dU,dU]
 rfl
end Com
namespace Com
open PySem D3 My
end Com
namespace Com
open PySem D3 My
theorem zl0:0 ≤ sizeLine:=eY _
theorem zl1:1 ≤ sizeLine:=sz (by decide)
theorem zl2:2 ≤ sizeLine:=sz (by decide)
theorem zl3:3 ≤ sizeLine:=sz (by decide)
theorem zl4:4 ≤ sizeLine:=sz (by decide)
abbrev Ty:=Int × Int × Option Nat
def hD:Option Nat→D
 | none=>.none
 | some r=>.int (r:Int)
def yD (s:Ty):D:=.tuple [.int s.1,.int s.2.1,hD s.2.2]
theorem fli (i:Int):flat (.int i)=true:=rfl
theorem zP (s:Ty):flat (yD s)=true:=by
 unfold yD hD
 obtain ⟨a,b,c⟩:=s
 cases c <;> rfl
def hol (x:Int) (s:Ty):Bool:=decide (s.1 ≤ x) && decide (x < s.2.1)
def je (L:List Ty) (x:Int):Nat:=(L.filter (hol x)).length
theorem Hv {L L':List Ty} (p:L.Perm L') (x:Int):je L x=je L' x:=(p.filter _).length_eq
theorem FJ (L:List Ty) (x:Int):je L x ≤ L.length:=cW _ _
theorem DN (ns:List Int) {a m now:Int} (h0:0 ≤ a) (m0:0 ≤ m) (m1:m < 4) (n1:now ≤ 399) :
 ∃ s:Ty,(now ≤ s.1∧s.1 ≤ now + 59)∧(s.1 < s.2.1∧s.2.1 ≤ 400)∧s.2.2=none∧gj [.list (ns.map .int),.int a,.int 0,.int m,.int now]=some (yD s):=by
 have go:∀ A:Int,pAt [.int 3,.int 9,.int 24,.int 60] m=some (.int A)→0 < A→A ≤ 60→∃ s:Ty,(now ≤ s.1∧s.1 ≤ now + 59)∧(s.1 < s.2.1∧s.2.1 ≤ 400)∧s.2.2=none∧gj [.list (ns.map .int),.int a,.int 0,.int m,.int now]=some (yD s):=by
  intro A eA A0 A6
  have p1:=fP (ns:=ns) (i:=a) (k:=0) (m:=A) h0 (by decide) (by decide) A0
  have p2:=fP (ns:=ns) (i:=a) (k:=2) (m:=4) h0 (by decide) (by decide) (by decide)
  have r1:=fD ns a 0 A0
  have r2:=fD ns a 2 (m:=4) (by decide)
  generalize jG ns a 0 A=x1 at *
  generalize jG ns a 2 4=x2 at *
  have inner:∀ B:Int,pAt [.int 2,.int 6,.int 24,.int 60] x2=some (.int B)→0 < B→∃ s:Ty,(now ≤ s.1∧s.1 ≤ now + 59)∧(s.1 < s.2.1∧s.2.1 ≤ 400)∧s.2.2=none∧gj [.list (ns.map .int),.int a,.int 0,.int m,.int now]=some (yD s):=by
   intro B eB B0
   have p3:=fP (ns:=ns) (i:=a) (k:=1) (m:=B) h0 (by decide) (by decide) B0
   have r3:=fD ns a 1 B0
   generalize jG ns a 1 B=x3 at *
   refine ⟨(if now + x1 < 399 then now + x1 else 399,if (if now + x1 < 399 then now + x1 else 399) + (1 + x3) < 400 then (if now + x1 < 399 then now + x1 else 399) + (1 + x3) else 400,none),?_,?_,rfl,?_⟩
   ·dsimp only;refine ⟨?_,?_⟩ <;> split <;> omega
   ·dsimp only;refine ⟨?_,?_⟩ <;> split <;> split <;> omega
   ·have z1:(0:Int) + 1=1:=rfl
    have z2:(0:Int) + 2=2:=rfl
    unfold gj
    simp only [EV,reduceIte,aq,au,aj,ao,aA,aB,aC,zl4,zl3,fli,eA,p1,z1,z2,p2,eB,p3,Km]
    rfl
  have:x2=0∨x2=1∨x2=2∨x2=3:=by omega
  rcases this with rfl | rfl | rfl | rfl
  ·exact inner 2 rfl (by decide)
  ·exact inner 6 rfl (by decide)
  ·exact inner 24 rfl (by decide)
  ·exact inner 60 rfl (by decide)
 have:m=0∨m=1∨m=2∨m=3:=by omega
 rcases this with rfl | rfl | rfl | rfl
 ·exact go 3 rfl (by decide) (by decide)
 ·exact go 9 rfl (by decide) (by decide)
 ·exact go 24 rfl (by decide) (by decide)
 ·exact go 60 rfl (by decide) (by decide)
theorem DP (ns:List Int) {now:Int} {r:Nat} (hr:r ≤ 12) (n0:0 ≤ now) (n1:now ≤ 399) :
 ∃ b e:Int,(0 ≤ b∧b ≤ now)∧(now < e∧e ≤ 400)∧gW [.list (ns.map .int),.int 2,.int (3 * (r:Int)),.int now,.int (r:Int)]=some (yD (b,e,some r)):=by
 have p1:=fP (ns:=ns) (i:=2) (k:=3 * (r:Int)) (m:=6) (by decide) (by omega) (by omega) (by decide)
 have p2:=fP (ns:=ns) (i:=2) (k:=3 * (r:Int) + 2) (m:=3) (by decide) (by omega) (by omega) (by decide)
 have r1:=fD ns 2 (3 * (r:Int)) (m:=6) (by decide)
 have r2:=fD ns 2 (3 * (r:Int) + 2) (m:=3) (by decide)
 generalize jG ns 2 (3 * (r:Int)) 6=x1 at *
 generalize jG ns 2 (3 * (r:Int) + 2) 3=x2 at *
 have inner:∀ B:Int,pAt [.int 2,.int 9,.int 30] x2=some (.int B)→0 < B→∃ b e:Int,(0 ≤ b∧b ≤ now)∧(now < e∧e ≤ 400)∧gW [.list (ns.map .int),.int 2,.int (3 * (r:Int)),.int now,.int (r:Int)]=some (yD (b,e,some r)):=by
  intro B eB B0
  have p3:=fP (ns:=ns) (i:=2) (k:=3 * (r:Int) + 1) (m:=B) (by decide) (by omega) (by omega) B0
  have r3:=fD ns 2 (3 * (r:Int) + 1) B0
  generalize jG ns 2 (3 * (r:Int) + 1) B=x3 at *
  refine ⟨if now - x1 > 0 then now - x1 else 0,if now + 1 + x3 < 400 then now + 1 + x3 else 400,?_,?_,?_⟩
  ·refine ⟨?_,?_⟩ <;> split <;> omega
  ·refine ⟨?_,?_⟩ <;> split <;> omega
  ·unfold gW
   simp only [EV,reduceIte,aq,au,aj,ao,aA,aB,aC,zl3,fli,p1,p2,eB,p3,Km,Kl]
   rfl
 have:x2=0∨x2=1∨x2=2:=by omega
 rcases this with rfl | rfl | rfl
 ·exact inner 2 rfl (by decide)
 ·exact inner 9 rfl (by decide)
 ·exact inner 30 rfl (by decide)
theorem Kv (ns:List Int):∃ now:Int,0 ≤ now∧now ≤ 399∧j8 [.list (ns.map .int)]=some (.int now):=by
 have p1:=fP (ns:=ns) (i:=0) (k:=1) (m:=40) (by decide) (by decide) (by decide) (by decide)
 have p2:=fP (ns:=ns) (i:=0) (k:=1) (m:=400) (by decide) (by decide) (by decide) (by decide)
 have p3:=fP (ns:=ns) (i:=0) (k:=2) (m:=4) (by decide) (by decide) (by decide) (by decide)
 have r1:=fD ns 0 1 (m:=40) (by decide)
 have r2:=fD ns 0 1 (m:=400) (by decide)
 have r3:=fD ns 0 2 (m:=4) (by decide)
 generalize jG ns 0 1 40=x1 at *
 generalize jG ns 0 1 400=x2 at *
 generalize jG ns 0 2 4=x3 at *
 have:x3=0∨x3=1∨x3=2∨x3=3:=by omega
 have fl:∀ i,flat (.int i)=true:=fun _=>rfl
 unfold j8
 rcases this with rfl | rfl | rfl | rfl
 ·exact ⟨0,by omega,by omega,by simp only [EV,reduceIte,aq,au,aj,ao,aA,aB,aC,zl4,p1,p2,p3,at0,fl]⟩
 ·exact ⟨x1,by omega,by omega,by simp only [EV,reduceIte,aq,au,aj,ao,aA,aB,aC,zl4,p1,p2,p3,at1,fl]⟩
 ·exact ⟨x2,by omega,by omega,by simp only [EV,reduceIte,aq,au,aj,ao,aA,aB,aC,zl4,p1,p2,p3,at2,fl]⟩
 ·exact ⟨390,by omega,by omega,by simp only [EV,reduceIte,aq,au,aj,ao,aA,aB,aC,zl4,p1,p2,p3,at3,fl]⟩
theorem Kw {g:FG} {b:FS} (Inv:DS→Prop) (P V:D→Prop):∀ (l:List D) (δ:DS),Inv δ→(∀ d ∈ l,∀ δ,Inv δ→∃ δ1,g d δ=some δ1∧((∃ δ',b δ1=some (.nx δ')∧Inv δ'∧P d)∨∃ v,b δ1=some (.rt v)∧V v)) →
 (∃ δ',jB g b l δ=some (.nx δ')∧Inv δ'∧∀ d ∈ l,P d)∨∃ v,jB g b l δ=some (.rt v)∧V v
 | [],δ,h,_=>.inl ⟨δ,rfl,h,fun _ z=>by cases z⟩
 | d :: l,δ,h,s=>by
  obtain ⟨δ1,e1,z⟩:=s d aM δ h
  rcases z with ⟨δ',e2,h2,hp⟩ | ⟨v,e2,hv⟩
  ·have e:jB g b (d :: l) δ=jB g b l δ':=by rw [jB,e1,aJ,e2,aJ]
   rw [e]
   rcases Kw Inv P V l δ' h2 (fun d hd=>s d (aO _ hd)) with ⟨δ2,a1,a2,a3⟩ | z
   ·exact .inl ⟨δ2,a1,a2,fun x hx=>by
     rcases bF.mp hx with rfl | y
     ·exact hp
     ·exact a3 x y⟩
   ·exact .inr z
  ·exact .inr ⟨v,by rw [jB,e1,aJ,e2,aJ],hv⟩
theorem Hw {L:List Ty} {M:Nat} {now:Int} (hl:L.length ≤ 62) :
 (gw [.list (L.map yD),.int (M:Int),.int now]=some .none∧∀ s ∈ L,je L (if s.1 > now then s.1 else now) ≤ M)∨∃ x,gw [.list (L.map yD),.int (M:Int),.int now]=some (.int x)∧M < je L x:=by
 have C:fJ (gNl 0) (D3.jX) (dCall yh (aF (aD 1) (aF (dOp gIx (aD 0) (dC (.int 0))) (bh)))) (jM 1 [2] [some (.d (.list (L.map yD))),some (.d (.int (M:Int))),some (.d (.int now)),none]) (L.map yD)=some ((L.map fun s=>if s.1 > now then s.1 else now).map PyData.int):=by
  rw [dU]
  exact wY yD _ L fun s _=>⟨[some (.d (yD s)),some (.d (.int now))],rfl,rfl,by unfold yD;simp only [EV,reduceIte,aq,au,aj,ao,aA,aB,aC,at0,Kl];rfl⟩
 have len:(L.map yD).length ≤ 100000:=by rw [aG];omega
 have C2:∀ x:Int,∀ u:Option U,fJ (gNl 0) (D3.iG (aW (dOp gLe (dOp gIx (aD 0) (dC (.int 0))) (aD 1))) (aW (dOp gLt (aD 1) (dOp gIx (aD 0) (dC (.int 1)))))) (dX (aD 0)) (jM 1 [3] [some (.d (.list (L.map yD))),some (.d (.int (M:Int))),some (.d (.int now)),some (.d (.int x))]) (L.map yD)=some ((L.filter (hol x)).map yD):=fun x u =>
  zN yD (hol x) yD L fun s _=>⟨[some (.d (yD s)),some (.d (.int x))],rfl,by
   obtain ⟨a,b,c⟩:=s
   unfold yD hol
   simp only [EV,reduceIte,aq,au,aj,ao,aA,aB,aC,at0,at1]
   cases decide (a ≤ x) <;> simp only [D3.qTA,jr,f9] <;> simp only [EV,reduceIte,aq,au,aj,ao,aA,aB,aC,at0,at1],fun _=>by simp only [EV,reduceIte,aq,au,aj,ao,aA,aB,aC,zP]⟩
 let S:=now :: (L.map fun s=>if s.1 > now then s.1 else now)
 have gs:sV [.list (S.map PyData.int)]=some (.list ((oO S).map .int)):=by
  unfold sV
  have:S.length < 64:=by show (L.map _).length + 1 < 64;rw [aG];omega
  simp only [rC,aJ,if_pos this]
 have cat:nR (.list [.int now]) (.list ((L.map fun s=>if s.1 > now then s.1 else now).map PyData.int))=some (.list (S.map PyData.int)):=by
  rw [yG,if_pos (by rw [aG,aG];show 1 + L.length ≤ _;omega)]
  rfl
 have F:=Kw (g:=(gNl 3)) (b:=(sIf (aW (dOp gGt (dCall ju (aF (iT (jP (aD 0)) (gNl 0) (D3.iG (aW (dOp gLe (dOp gIx (aD 0) (dC (.int 0))) (aD 1))) (aW (dOp gLt (aD 1) (dOp gIx (aD 0) (dC (.int 1)))))) (dX (aD 0)) 1 [3]) (bh))) (aD 1))) (cT (dX (aD 3))) (cZ))) (fun δ=>∃ u,δ=[some (.d (.list (L.map yD))),some (.d (.int (M:Int))),some (.d (.int now)),u]) (fun d=>∀ x,d = .int x→je L x ≤ M) (fun v=>∃ x,v = .int x∧M < je L x) ((oO S).map .int)
  [some (.d (.list (L.map yD))),some (.d (.int (M:Int))),some (.d (.int now)),none] ⟨none,rfl⟩ (by
   rintro d hd δ ⟨u,rfl⟩
   obtain ⟨x,hx,rfl⟩:=cQ.mp hd
   refine ⟨[some (.d (.list (L.map yD))),some (.d (.int (M:Int))),some (.d (.int now)),some (.d (.int x))],rfl,?_⟩
   have c2:=C2 x none
   have lf:((L.filter (hol x)).map yD).length=je L x:=by rw [aG];rfl
   by_cases z:je L x ≤ M
   ·left
    refine ⟨[some (.d (.list (L.map yD))),some (.d (.int (M:Int))),some (.d (.int now)),some (.d (.int x))],?_,⟨_,rfl⟩,fun y hy=>by cases hy;exact z⟩
    have:decide ((je L x:Int) > (M:Int))=false:=dFa (by omega)
    simp only [EV,reduceIte,aq,au,aj,ao,aA,aB,aC,len,c2,lf,this]
   ·right
    refine ⟨.int x,?_,x,rfl,by omega⟩
    have:decide ((je L x:Int) > (M:Int))=true:=dTr (by omega)
    have fl:flat (.int x)=true:=rfl
    simp only [EV,reduceIte,aq,au,aj,ao,aA,aB,aC,len,c2,lf,this,fl])
 rcases F with ⟨δ',e,⟨u,rfl⟩,hP⟩ | ⟨v,e,x,rfl,hx⟩
 ·left
  refine ⟨?_,fun s hs=>hP (.int (if s.1 > now then s.1 else now)) (List.mem_map_of_mem ((iZ S).mem_iff.mpr (aO _ (cQ.mpr ⟨s,hs,rfl⟩)))) _ rfl⟩
  unfold gw
  simp only [EV,reduceIte,aq,au,aj,ao,aA,aB,aC,zl1,len,C,cat,gs]
  rw [e]
  simp only [EV,reduceIte,aq,au,aj,ao,aA,aB,aC]
 ·right
  refine ⟨x,?_,hx⟩
  unfold gw
  simp only [EV,reduceIte,aq,au,aj,ao,aA,aB,aC,zl1,len,C,cat,gs]
  rw [e]
  simp only [EV,reduceIte,aq,au,aj,ao,aA,aB,aC]
end Com
namespace Com
open PySem D3 My
structure TOk (L:List Ty) (M:Nat) (now:Int):Prop where
 len:L.length ≤ 24
 ok:∀ s ∈ L,s.1 < s.2.1∧(∀ r,s.2.2=some r→r < M∧s.1 ≤ now∧now < s.2.1)∧(s.2.2=none→now ≤ s.1)
 nd:(L.filterMap (·.2.2)).Nodup
 full:∀ s ∈ L,je L (if s.1 > now then s.1 else now) ≤ M
 bd:∀ s ∈ L,0 ≤ s.1∧s.2.1 ≤ 400
 nr:∀ s ∈ L,s.2.2=none→s.1 ≤ now + 59
def zQ (k:Nat) (s:Ty) (L:List Ty):List Ty:=L.take k++s :: L.drop k
theorem yJ (k:Nat) (s:Ty) (L:List Ty):(zQ k s L).Perm (s :: L):=by
 unfold zQ
 refine List.perm_middle.trans ?_
 rw [p8]
theorem BP {s:Ty} {L:List Ty} {j:Int} (hl:L.length ≤ 1000) (h0:0 ≤ j) (h1:j ≤ 1000):∃ k,Dk j (yD s) (L.map yD)=some ((zQ k s L).map yD):=by
 refine ⟨Bk (L.map yD).length j,?_⟩
 unfold Dk
 rw [if_pos ⟨by rw [aG];omega,by omega,by omega⟩]
 unfold zQ
 rw [cL,bJ,List.map_take,List.map_drop]
theorem Ky {L:List Ty} (h:∀ s ∈ L,∃ r,s.2.2=some r):(L.filterMap (·.2.2)).length=L.length:=by
 induction L with
 | nil=>rfl
 | cons s L ih =>
  obtain ⟨r,e⟩:=h s aM
  rw [cX,e]
  show _ + 1=_ + 1
  rw [ih fun s hs=>h s (aO _ hs)]
theorem PJ (x:Int):decide (x=1)=true∨decide (x=1)=false:=by cases decide (x=1) <;> simp
theorem BR (ns:List Int) {M:Nat} {now:Int} (hM:M ≤ 12) (n0:0 ≤ now) (n1:now ≤ 399) :
 ∃ L:List Ty,TOk L M now∧(1 ≤ M→L ≠ [])∧jk [.list (ns.map .int),.int (M:Int),.int now,.int 24]=some (.list (L.map yD)):=by
 have p0:=fP (ns:=ns) (i:=0) (k:=0) (m:=4) (by decide) (by decide) (by decide) (by decide)
 have r0:=fD ns 0 0 (m:=4) (by decide)
 have p6:=fP (ns:=ns) (i:=0) (k:=6) (m:=6) (by decide) (by decide) (by decide) (by decide)
 generalize jG ns 0 0 4=mo at *
 generalize jG ns 0 6 6=wi at *
 have rg:oY (some [.int (M:Int)])=some (gh 0 (M:Int)):=Ko (by omega) (by omega)
 obtain ⟨bw,hb⟩:∃ bw,decide (wi=1)=bw:=⟨_,rfl⟩
 obtain ⟨δ1,e1,L1,u6,u7,l1,g1,d1,rfl⟩:=iK (g:=(gNl 6)) (b:=(sIf (D3.iG (aW (dOp gEq (dCall bT (aF (aD 0) (aF (dC (.int 1)) (aF (aD 6) (aF (dC (.int 3)) (bh)))))) (dC (.int 1)))) (aW (dOp gLt (dCall ju (aF (aD 5) (bh))) (aD 3)))) (bY (cD 7 (dCall bT (aF (aD 0) (aF (dC (.int 1)) (aF (dOp jd (dC (.int 12)) (aD 6)) (aF (dOp jd (dCall ju (aF (aD 5) (bh))) (dC (.int 1))) (bh))))))) (wR 5 (aD 7) (dCall gW (aF (aD 0) (aF (dC (.int 2)) (aF (dOp pF (dC (.int 3)) (aD 6)) (aF (aD 2) (aF (aD 6) (bh))))))))) (cZ)))
  (fun i δ=>∃ (L:List Ty) (u6 u7:Option U),L.length ≤ 24∧(∀ s ∈ L,∃ r,s.2.2=some r∧r < i∧(0 ≤ s.1∧s.1 ≤ now)∧(now < s.2.1∧s.2.1 ≤ 400))∧(L.filterMap (·.2.2)).Nodup ∧
   δ=[some (.d (.list (ns.map .int))),some (.d (.int (M:Int))),some (.d (.int now)),some (.d (.int 24)),some (.d (.int mo)),some (.d (.list (L.map yD))),u6,u7,none,none,none]) (gh 0 (M:Int))
  [some (.d (.list (ns.map .int))),some (.d (.int (M:Int))),some (.d (.int now)),some (.d (.int 24)),some (.d (.int mo)),some (.d (.list [])),none,none,none,none,none]
  ⟨[],none,none,by decide,fun _ h=>(by cases h),List.nodup_nil,rfl⟩ (by
   rintro i d δ hd ⟨L,u6,u7,l1,g1,d1,rfl⟩
   obtain ⟨hi,rfl⟩:=pN hd
   have g1':∀ s ∈ L,∃ r,s.2.2=some r∧r < i + 1∧(0 ≤ s.1∧s.1 ≤ now)∧(now < s.2.1∧s.2.1 ≤ 400):=fun s hs=>by
    obtain ⟨r,a,b,c⟩:=g1 s hs
    exact ⟨r,a,by omega,c⟩
   have q1:=fP (ns:=ns) (i:=1) (k:=(i:Int)) (m:=3) (by decide) (by omega) (by omega) (by decide)
   have q2:=fP (ns:=ns) (i:=1) (k:=12 + (i:Int)) (m:=(L.length:Int) + 1) (by decide) (by omega) (by omega) (by omega)
   have q2r:=fD ns 1 (12 + (i:Int)) (m:=(L.length:Int) + 1) (by omega)
   obtain ⟨b,e,gb,ge,gs⟩:=DP ns (r:=i) (by omega) n0 n1
   generalize jG ns 1 (i:Int) 3=y1 at *
   generalize jG ns 1 (12 + (i:Int)) ((L.length:Int) + 1)=y2 at *
   obtain ⟨k,ek⟩:=BP (s:=(b,e,some i)) (L:=L) (j:=y2) (by omega) q2r.1 (by omega)
   have ll:((L.map yD).length:Int)=(L.length:Int):=by rw [aG]
   have m3:pF (.int 3) (.int (i:Int))=some (.int (3 * (i:Int))):=mulL (by decide) (by decide)
   rcases PJ y1 with z | z
   ·by_cases hlt:L.length < 24
    ·have z2:decide ((L.length:Int) < 24)=true:=dTr (by omega)
     refine ⟨_,[some (.d (.list (ns.map .int))),some (.d (.int (M:Int))),some (.d (.int now)),some (.d (.int 24)),some (.d (.int mo)),some (.d (.list ((zQ k (b,e,some i) L).map yD))),some (.d (.int (i:Int))),some (.d (.int y2)),none,none,none],rfl,.inl ?_,?_⟩
     ·simp only [EV,reduceIte,aq,au,aj,ao,aA,aB,aC,q1,z,ll,z2,q2,m3,gs,JF,zj,Sd ek]
     ·have pm:=yJ k (b,e,some i) L
      refine ⟨zQ k (b,e,some i) L,_,_,?_,fun s hs=>?_,?_,rfl⟩
      ·rw [pm.length_eq,bQ];omega
      ·rcases bF.mp (pm.mem_iff.mp hs) with rfl | y
       ·exact ⟨i,rfl,by omega,gb,ge⟩
       ·exact g1' s y
      ·rw [(pm.filterMap _).nodup_iff]
       show (i :: L.filterMap _).Nodup
       refine bU.mpr ⟨fun y=>?_,d1⟩
       obtain ⟨s,hs,es⟩:=fL.mp y
       obtain ⟨r,a,c,_⟩:=g1 s hs
       rw [a] at es
       cases es
       omega
    ·have z2:decide ((L.length:Int) < 24)=false:=dFa (by omega)
     refine ⟨_,[some (.d (.list (ns.map .int))),some (.d (.int (M:Int))),some (.d (.int now)),some (.d (.int 24)),some (.d (.int mo)),some (.d (.list (L.map yD))),some (.d (.int (i:Int))),u7,none,none,none],rfl,.inl ?_,L,_,_,l1,g1',d1,rfl⟩
     simp only [EV,reduceIte,aq,au,aj,ao,aA,aB,aC,q1,z,ll,z2]
   ·refine ⟨_,[some (.d (.list (ns.map .int))),some (.d (.int (M:Int))),some (.d (.int now)),some (.d (.int 24)),some (.d (.int mo)),some (.d (.list (L.map yD))),some (.d (.int (i:Int))),u7,none,none,none],rfl,.inl ?_,L,_,_,l1,g1',d1,rfl⟩
    simp only [EV,reduceIte,aq,au,aj,ao,aA,aB,aC,q1,z])
 rw [m7] at g1
 have ok1:TOk L1 M now:=by
  have hs:∀ s ∈ L1,∃ r,s.2.2=some r:=fun s hs=>let ⟨r,a,_⟩:=g1 s hs;⟨r,a⟩
  have lM:L1.length ≤ M:=by
   rw [← Ky hs]
   have:=List.Nodup.length_le_of_subset (l₂:=aH M) d1 fun r hr=>by
    obtain ⟨s,h1,h2⟩:=fL.mp hr
    obtain ⟨r',a,b,_⟩:=g1 s h1
    rw [a] at h2
    cases h2
    exact aY.mpr (by omega)
   rwa [bB] at this
  refine ⟨l1,fun s h=>?_,d1,fun s h=>bM (FJ _ _) lM,fun s h=>(let ⟨_,_,_,c,d⟩:=g1 s h;⟨c.1,d.2⟩),fun s h e=>(by obtain ⟨r,a,_⟩:=g1 s h;rw [a] at e;cases e)⟩
  obtain ⟨r,a,b,c,d⟩:=g1 s h
  refine ⟨by omega,fun r' e=>?_,fun e=>(by rw [a] at e;cases e)⟩
  rw [a] at e
  cases e
  exact ⟨by omega,c.2,d.1⟩
 clear g1 d1 l1
 have loop:∀ N:Int,0 ≤ N→N ≤ 30→∃ δ',jB (gNl 9) (bY (cD 10 (dCall gj (aF (aD 0) (aF (dOp jd (dC (.int 10)) (aD 9)) (aF (dC (.int 0)) (aF (aD 4) (aF (aD 2) (bh)))))))) (bY (cD 7 (dCall bT (aF (aD 0) (aF (dC (.int 4)) (aF (aD 9) (aF (dOp jd (dCall ju (aF (aD 5) (bh))) (dC (.int 1))) (bh))))))) (sIf (D3.iG (aW (dOp gLt (dCall ju (aF (aD 5) (bh))) (aD 3))) (aW (dUn nA (dCall gw (aF (dOp nR (aD 5) (jA (aF (aD 10) (bh)))) (aF (aD 1) (aF (aD 2) (bh)))))))) (wR 5 (aD 7) (aD 10)) (cZ)))) (gh 0 N) [some (.d (.list (ns.map .int))),some (.d (.int (M:Int))),some (.d (.int now)),some (.d (.int 24)),some (.d (.int mo)),some (.d (.list (L1.map yD))),u6,u7,some (.d (.bool (bw))),none,none]=some (.nx δ') ∧
  ∃ (L:List Ty) (u7 u9 u10:Option U),TOk L M now∧(0 < N→1 ≤ M→L ≠ [])∧δ'=[some (.d (.list (ns.map .int))),some (.d (.int (M:Int))),some (.d (.int now)),some (.d (.int 24)),some (.d (.int mo)),some (.d (.list (L.map yD))),u6,u7,some (.d (.bool (bw))),u9,u10]:=by
  intro N N0 N1
  have:=iK (g:=(gNl 9)) (b:=(bY (cD 10 (dCall gj (aF (aD 0) (aF (dOp jd (dC (.int 10)) (aD 9)) (aF (dC (.int 0)) (aF (aD 4) (aF (aD 2) (bh)))))))) (bY (cD 7 (dCall bT (aF (aD 0) (aF (dC (.int 4)) (aF (aD 9) (aF (dOp jd (dCall ju (aF (aD 5) (bh))) (dC (.int 1))) (bh))))))) (sIf (D3.iG (aW (dOp gLt (dCall ju (aF (aD 5) (bh))) (aD 3))) (aW (dUn nA (dCall gw (aF (dOp nR (aD 5) (jA (aF (aD 10) (bh)))) (aF (aD 1) (aF (aD 2) (bh)))))))) (wR 5 (aD 7) (aD 10)) (cZ))))) (fun i δ=>∃ (L:List Ty) (u7 u9 u10:Option U),TOk L M now∧(0 < i→1 ≤ M→L ≠ [])∧δ=[some (.d (.list (ns.map .int))),some (.d (.int (M:Int))),some (.d (.int now)),some (.d (.int 24)),some (.d (.int mo)),some (.d (.list (L.map yD))),u6,u7,some (.d (.bool (bw))),u9,u10]) (gh 0 N) [some (.d (.list (ns.map .int))),some (.d (.int (M:Int))),some (.d (.int now)),some (.d (.int 24)),some (.d (.int mo)),some (.d (.list (L1.map yD))),u6,u7,some (.d (.bool (bw))),none,none] ⟨L1,u7,none,none,ok1,fun z=>absurd z (fU 0),rfl⟩ ?step
  ·obtain ⟨δ',e,L,a,b,c,h1,h2,h3⟩:=this
   exact ⟨δ',e,L,a,b,c,h1,fun z=>h2 (by rw [m7];omega),h3⟩
  rintro i d δ hd ⟨L,u7,u9,u10,ok,_,rfl⟩
  obtain ⟨hi,rfl⟩:=pN hd
  have l24:=ok.len
  obtain ⟨s,s1,s2,s3,es⟩:=DN ns (a:=10 + (i:Int)) (m:=mo) (now:=now) (by omega) r0.1 r0.2 n1
  have q2:=fP (ns:=ns) (i:=4) (k:=(i:Int)) (m:=(L.length:Int) + 1) (by decide) (by omega) (by omega) (by omega)
  have q2r:=fD ns 4 (i:Int) (m:=(L.length:Int) + 1) (by omega)
  generalize jG ns 4 (i:Int) ((L.length:Int) + 1)=y2 at *
  obtain ⟨k,ek⟩:=BP (s:=s) (L:=L) (j:=y2) (by omega) q2r.1 (by omega)
  have ll:((L.map yD).length:Int)=(L.length:Int):=by rw [aG]
  by_cases hlt:L.length < 24
  ·have z2:decide ((L.length:Int) < 24)=true:=dTr (by omega)
   have cat:nR (.list (L.map yD)) (.list [yD s])=some (.list ((L++[s]).map yD)):=by
    rw [yG,if_pos (by rw [aG];show L.length + 1 ≤ _;omega),cL]
    rfl
   rcases Hw (L:=L++[s]) (M:=M) (now:=now) (by rw [bH];show L.length + 1 ≤ 62;omega) with ⟨f1,f2⟩ | ⟨x,f1,f3⟩
   ·have nN:isNone .none=true:=rfl
    refine ⟨_,[some (.d (.list (ns.map .int))),some (.d (.int (M:Int))),some (.d (.int now)),some (.d (.int 24)),some (.d (.int mo)),some (.d (.list ((zQ k s L).map yD))),u6,some (.d (.int y2)),some (.d (.bool (bw))),some (.d (.int (i:Int))),some (.d (yD s))],rfl,.inl ?_,?_⟩
    ·simp only [EV,reduceIte,aq,au,aj,ao,aA,aB,aC,es,ll,q2,z2,zl1,cat,f1,nN,JF,zj,Sd ek]
    ·have pm:=yJ k s L
     have pm2:(zQ k s L).Perm (L++[s]):=pm.trans (List.perm_append_singleton s L).symm
     refine ⟨zQ k s L,_,_,_,⟨?_,fun t ht=>?_,?_,fun t ht=>?_,fun t ht=>?_,fun t ht en=>?_⟩,fun _ _ z=>by (have:=pm.length_eq;rw [z] at this;cases this),rfl⟩
     ·rw [pm.length_eq,bQ];omega
     ·rcases bF.mp (pm.mem_iff.mp ht) with rfl | y
      ·exact ⟨s2.1,fun r e=>(by rw [s3] at e;cases e),fun _=>s1.1⟩
      ·exact ok.ok t y
     ·rw [(pm.filterMap _).nodup_iff,cX,s3]
      exact ok.nd
     ·rw [Hv pm2]
      exact f2 t (pm2.mem_iff.mp ht)
     ·rcases bF.mp (pm.mem_iff.mp ht) with rfl | y
      ·exact ⟨Int.le_trans n0 s1.1,s2.2⟩
      ·exact ok.bd t y
     ·rcases bF.mp (pm.mem_iff.mp ht) with rfl | y
      ·exact s1.2
      ·exact ok.nr t y en
   ·have nN:isNone (.int x)=false:=rfl
    refine ⟨_,[some (.d (.list (ns.map .int))),some (.d (.int (M:Int))),some (.d (.int now)),some (.d (.int 24)),some (.d (.int mo)),some (.d (.list (L.map yD))),u6,some (.d (.int y2)),some (.d (.bool (bw))),some (.d (.int (i:Int))),some (.d (yD s))],rfl,.inl ?_,L,_,_,_,ok,fun _ m1 z=>by
     rw [z] at f3
     have:=FJ [s] x
     have f3:M < je [s] x:=f3
     have:je [s] x ≤ 1:=this
     omega,rfl⟩
    simp only [EV,reduceIte,aq,au,aj,ao,aA,aB,aC,es,ll,q2,z2,zl1,cat,f1,nN]
  ·have z2:decide ((L.length:Int) < 24)=false:=dFa (by omega)
   refine ⟨_,[some (.d (.list (ns.map .int))),some (.d (.int (M:Int))),some (.d (.int now)),some (.d (.int 24)),some (.d (.int mo)),some (.d (.list (L.map yD))),u6,some (.d (.int y2)),some (.d (.bool (bw))),some (.d (.int (i:Int))),some (.d (yD s))],rfl,.inl ?_,L,_,_,_,ok,fun _ _ z=>by rw [z] at hlt;exact hlt (by decide),rfl⟩
   simp only [EV,reduceIte,aq,au,aj,ao,aA,aB,aC,es,ll,q2,z2]
 have w10:pAt [.int 10,.int 30] (if bw=true then 1 else 0)=some (.int (if bw=true then 30 else 10)):=by
  cases bw <;> rfl
 have iN:Az [.bool (bw)]=some (.int (if bw=true then 1 else 0)):=rfl
 obtain ⟨δ2,e2,L,v7,v9,v10,ok,hne,rfl⟩:=loop (if bw=true then 30 else 10) (by split <;> decide) (by split <;> decide)
 refine ⟨L,ok,hne (by split <;> decide),?_⟩
 clear hne
 have rg2:oY (some [.int (if bw=true then 30 else 10)])=some (gh 0 (if bw=true then 30 else 10)):=Ko (by split <;> decide) (by split <;> decide)
 have fl:flats (L.map yD)=true:=gG _ zP L
 unfold jk
 simp only [EV,reduceIte,aq,au,aj,ao,aA,aB,aC,p0,zl0,rg]
 rw [e1]
 generalize (if bw=true then (30:Int) else 10)=NN at *
 simp only [EV,reduceIte,aq,au,aj,ao,aA,aB,aC,p6,hb,zl2,iN,w10,rg2]
 rw [e2]
 simp only [EV,reduceIte,aq,au,aj,ao,aA,aB,aC,nG,fl]
end Com
namespace Xg
structure Ss where
 n:Nat
 fst:Nat→Int
 bhd:Nat→Int
 hld:Nat→Bool
 now:Int
structure Ss.Ok (S:Ss):Prop where
 lt:∀ k,k < S.n→S.fst k < S.bhd k
 h1:∀ k,k < S.n→S.hld k=true→S.fst k ≤ S.now∧S.now < S.bhd k
 h2:∀ k,k < S.n→S.hld k=false→S.now ≤ S.fst k
def Valid (S:Ss) (h:Nat→Int):Prop:=∀ k l,k < S.n→l < S.n→k ≠ l→S.fst k < S.bhd l→S.fst l < S.bhd k→h k ≠ h l
def hind (S:Ss) (t:Int) (k:Nat):Prop:=(S.hld k=true∨S.fst k < t)∧t < S.bhd k
def swp (S:Ss) (h:Nat→Int) (t a b:Int) (k:Nat):Int:=if S.fst k < t then h k else if h k=a then b else if h k=b then a else h k
structure Agr (S:Ss) (h o:Nat→Int) (done:Nat→Prop):Prop where
 held:∀ k,k < S.n→S.hld k=true→h k=o k
 don:∀ k,k < S.n→done k→h k=o k
section
variable {S:Ss} {h o:Nat→Int} {done:Nat→Prop} {p:Nat}
end
end Xg
namespace Xg
abbrev Sp3:=Int × Int × Int
def Hy (S:Ss) (h:Nat→Int) (st:List Sp3):Nat→Int:=st.foldl (fun g s=>swp S g s.1 s.2.1 s.2.2) h
structure W5 (S:Ss) (M:Int) (g:Nat→Int) (s:Sp3):Prop where
 now:S.now ≤ s.1
 ne:s.2.1 ≠ s.2.2
 a0:0 ≤ s.2.1
 a1:s.2.1 < M
 b0:0 ≤ s.2.2
 b1:s.2.2 < M
 nh:∀ k,k < S.n→(g k=s.2.1∨g k=s.2.2)→¬ hind S s.1 k
def Good (S:Ss) (M:Int) (h:Nat→Int) (st:List Sp3):Prop:=∀ i s,st[i]? = some s→W5 S M (Hy S h (st.take i)) s
variable {S:Ss} {M:Int} {h o:Nat→Int} {st:List Sp3} {s:Sp3} {done:List Nat} {p:Nat}
structure LInv (S:Ss) (M:Int) (h o:Nat→Int) (done:List Nat) (st:List Sp3):Prop where
 good:Good S M h st
 val:Valid S (Hy S h st)
 agr:Agr S (Hy S h st) o (· ∈ done)
 bd:∀ k,k < S.n→0 ≤ Hy S h st k∧Hy S h st k < M
 len:st.length ≤ done.length
theorem LInv.fin (I:LInv S M h o done st) (all:∀ k,k < S.n→S.hld k=false→k ∈ done):∀ k,k < S.n→Hy S h st k=o k:=fun k hk=>by
 cases z:S.hld k with
 | true=>exact I.agr.held k hk z
 | false=>exact I.agr.don k hk (all k hk z)
end Xg
namespace Com
open PySem D3 My
theorem Kz {n c:Nat} {l:List D} (hl:l.length=n) (h:c < n):pIx l.length (c:Int)=some c:=by
 unfold pIx
 rw [hl,if_pos (by omega),if_pos (by omega)]
 rfl
theorem zR {n c:Nat} (f:Nat→D) (h:c < n):pAt ((aH n).map f) (c:Int)=some (f c):=by
 rw [jV,aQ,bZ h]
 rfl
theorem BW {n c:Nat} {d:D} (f:Nat→D):((aH n).map f).set c d=(aH n).map fun p=>if p=c then d else f p:=by
 apply dY
 intro i
 rw [kO,aQ,aQ]
 by_cases hi:i < n
 ·rw [bZ hi,eN,eN]
  by_cases z:c=i
  ·subst z
   rw [if_pos rfl,if_pos (by simpa using hi),if_pos rfl]
  ·rw [if_neg z,if_neg (fun w=>z w.symm)]
 ·rw [bf (l:=aH n) (by simpa using hi)]
  by_cases z:c=i
  ·subst z
   rw [if_pos rfl,if_neg (by simpa using hi)]
   rfl
  ·rw [if_neg z]
   rfl
theorem W6 {n:Nat} {f g:Nat→D} (h:∀ k,k < n→f k=g k):(aH n).map f=(aH n).map g:=gO fun k hk=>h k (aY.mp hk)
def tAt (L:List Ty) (k:Nat):Ty:=L.getD k (0,0,none)
theorem jO {L:List Ty} {k:Nat} (h:k < L.length):tAt L k ∈ L:=by
 unfold tAt
 rw [aP,aN h]
 exact jJ h
theorem pO (L:List Ty):L.map yD=(aH L.length).map fun k=>yD (tAt L k):=by
 apply dY
 intro i
 rw [aQ,aQ]
 by_cases h:i < L.length
 ·rw [bZ h,aN h]
  unfold tAt
  rw [eN,eN,aP,aN h]
  rfl
 ·rw [bf (by omega),bf (by simpa using h)]
  rfl
def plD (n:Nat) (h:Nat→Int):List D:=(aH n).map fun k=>PyData.int (h k)
def ssT (L:List Ty) (now:Int):Xg.Ss:=⟨L.length,fun k=>(tAt L k).1,fun k=>(tAt L k).2.1,fun k=>(tAt L k).2.2.isSome,now⟩
def hB (s:Ty) (t:Int):Bool:=(s.2.2.isSome || decide (s.1 < t)) && decide (t < s.2.1)
theorem rZ (o:Option Nat):isNone (hD o) = !o.isSome:=by cases o <;> rfl
section
variable {L:List Ty} {now t a b:Int} {h:Nat→Int}
end
end Com
namespace Gr
structure GInv (M:Nat) (b e:Nat→Int) (done:List Nat) (seat:Nat→Option Nat) (fs:Nat→Int):Prop where
 out:∀ p,p ∉ done→seat p=none
 inn:∀ p ∈ done,∃ r,seat p=some r∧r < M∧e p ≤ fs r
 bk:∀ r,r < M→fs r ≤ 0∨∃ p ∈ done,seat p=some r∧e p=fs r
 dj:∀ p ∈ done,∀ q ∈ done,p ≠ q→seat p=seat q→e p ≤ b q∨e q ≤ b p
def holds (b e:Nat→Int) (x:Int) (p:Nat):Bool:=decide (b p ≤ x) && decide (x < e p)
theorem GInv.step {M:Nat} {b e:Nat→Int} {done:List Nat} {seat:Nat→Option Nat} {fs:Nat→Int} {c r:Nat} (I:GInv M b e done seat fs) (hc:c ∉ done) (hr:r < M) (hf:fs r ≤ b c) (h1:b c < e c) :
 GInv M b e (done++[c]) (fun p=>if p=c then some r else seat p) (fun x=>if x=r then e c else fs x):=by
 have ne:∀ p ∈ done,p ≠ c:=fun p hp z=>hc (z ▸ hp)
 refine ⟨fun p hp=>?_,fun p hp=>?_,fun x hx=>?_,fun p hp q hq hpq hs=>?_⟩
 ·have h2:p ≠ c:=fun z=>hp (aU _ (by rw [z];exact aK.mpr rfl))
  rw [if_neg h2]
  exact I.out p fun z=>hp (bx _ z)
 ·rcases aX.mp hp with z | z
  ·obtain ⟨x,s1,s2,s3⟩:=I.inn p z
   refine ⟨x,by rw [if_neg (ne p z)];exact s1,s2,?_⟩
   by_cases hx:x=r
   ·rw [if_pos hx];rw [hx] at s3;omega
   ·rw [if_neg hx];exact s3
  ·have z:=aK.mp z
   exact ⟨r,by rw [if_pos z],hr,by rw [if_pos rfl,z];exact gY _⟩
 ·by_cases z:x=r
  ·exact .inr ⟨c,aU _ (aK.mpr rfl),by rw [if_pos rfl,z],by rw [if_pos z]⟩
  ·rw [if_neg z]
   rcases I.bk x hx with w | ⟨p,hp,w1,w2⟩
   ·exact .inl w
   ·exact .inr ⟨p,bx _ hp,by rw [if_neg (ne p hp)];exact w1,w2⟩
 ·rcases aX.mp hp with z | z
  ·rcases aX.mp hq with w | w
   ·rw [if_neg (ne p z),if_neg (ne q w)] at hs
    exact I.dj p z q w hpq hs
   ·have w:=aK.mp w
    rw [if_neg (ne p z),if_pos w] at hs
    obtain ⟨x,s1,_,s3⟩:=I.inn p z
    rw [s1] at hs
    injection hs with hs
    rw [hs] at s3
    left
    rw [w]
    omega
  ·have z:=aK.mp z
   rcases aX.mp hq with w | w
   ·rw [if_pos z,if_neg (ne q w)] at hs
    obtain ⟨x,s1,_,s3⟩:=I.inn q w
    rw [s1] at hs
    injection hs with hs
    rw [← hs] at s3
    right
    rw [z]
    omega
   ·exact absurd (z.trans (aK.mp w).symm) hpq
end Gr
namespace Pl
open Gr
structure PInv (n M:Nat) (b e:Nat→Int) (held:Nat→Option Nat) (done:List Nat) (seat:Nat→Option Nat):Prop where
 hl:∀ k r,k < n→held k=some r→seat k=some r
 out:∀ k,k < n→held k=none→k ∉ done→seat k=none
 inn:∀ k,k ∈ done→k < n→seat k ≠ none
 lt:∀ k r,k < n→seat k=some r→r < M
 dj:∀ k l r,k < n→l < n→k ≠ l→seat k=some r→seat l=some r→e k ≤ b l∨e l ≤ b k
variable {n M:Nat} {b e:Nat→Int} {held seat:Nat→Option Nat} {done:List Nat} {now:Int} {c r:Nat}
theorem skip (I:PInv n M b e held done seat) (hs:seat c ≠ none):PInv n M b e held (done++[c]) seat :=
 ⟨I.hl,fun k hk h hn=>I.out k hk h fun z=>hn (bx _ z),fun k hk hn=>by
  rcases aX.mp hk with w | w
  ·exact I.inn k w hn
  ·rw [aK.mp w];exact hs,I.lt,I.dj⟩
end Pl
namespace XS
open PySem PySem.W PyProof.Rows
structure Weak (lt:Nat→Nat→Bool):Prop where
 irr:∀ a,lt a a=false
 tr:∀ a b c,lt a b=true→lt b c=true→lt a c=true
 nt:∀ a b c,lt a c=true→lt a b=true∨lt b c=true
def Rk (lt:Nat→Nat→Bool) (a b:Nat):Prop:=lt a b=true∨(lt b a=false∧a < b)
section
variable {lt:Nat→Nat→Bool} {p:Array Nat} {n:Nat}
theorem Weak.not (W:Weak lt) {a b c:Nat} (h1:lt a b=false) (h2:lt b c=false):lt a c=false:=by
 cases q:lt a c with
 | false=>rfl
 | true =>
  rcases W.nt a b c q with z | z
  ·rw [z] at h1;cases h1
  ·rw [z] at h2;cases h2
theorem Rk.trans (W:Weak lt) {a b c:Nat} (h1:Rk lt a b) (h2:Rk lt b c):Rk lt a c:=by
 rcases h1 with h1 | ⟨h1,l1⟩
 ·rcases h2 with h2 | ⟨h2,l2⟩
  ·exact .inl (W.tr _ _ _ h1 h2)
  ·rcases W.nt a c b h1 with z | z
   ·exact .inl z
   ·rw [z] at h2;cases h2
 ·rcases h2 with h2 | ⟨h2,l2⟩
  ·rcases W.nt b a c h2 with z | z
   ·rw [z] at h1;cases h1
   ·exact .inl z
  ·exact .inr ⟨W.not h2 h1,by omega⟩
abbrev ga (p:Array Nat) (i:Nat):Nat:=p.getD i 0
def Asc (lt:Nat→Nat→Bool) (p:Array Nat) (m:Nat):Prop:=∀ i j,i < j→j < m→Rk lt (ga p i) (ga p j)
structure Run (lt:Nat→Nat→Bool) (n:Nat) (p:Array Nat) (m:Nat):Prop where
 asc:Asc lt p m
 rest:∀ k,m ≤ k→k < n→ga p k=k
 low:∀ k,k < m→ga p k < m
theorem Run.snoc (W:Weak lt) {a:Nat} (R:Run lt n p a) (h1:1 ≤ a) (ha:a < n) (h:lt (ga p a) (ga p (a - 1))=false):Run lt n p (a + 1):=by
 have ea:=R.rest a (aZ _) ha
 have la:=R.low (a - 1) (by omega)
 have st:Rk lt (ga p (a - 1)) (ga p a):=.inr ⟨h,by omega⟩
 refine ⟨fun i j hij hj=>?_,fun k hk hn=>R.rest k (by omega) hn,fun k hk=>?_⟩
 ·by_cases z:j < a
  ·exact R.asc i j hij z
  ·have:j=a:=by omega
   subst this
   by_cases y:i=j - 1
   ·rw [y];exact st
   ·exact (R.asc i (j - 1) (by omega) (by omega)).trans W st
 ·by_cases z:k < a
  ·have:=R.low k z;omega
  ·have:k=a:=by omega
   subst this
   omega
theorem DQ (W:Weak lt):∀ (f a:Nat),Run lt n p a→1 ≤ a→a + f ≤ n→Run lt n p (dI lt (kas_asc p f a))∧a ≤ dI lt (kas_asc p f a)∧dI lt (kas_asc p f a) ≤ a + f∧(dI lt (kas_asc p f a) < a + f→lt (ga p (dI lt (kas_asc p f a))) (ga p (dI lt (kas_asc p f a) - 1))=true)
 | 0,a,R,h1,hf=>⟨R,aZ _,aZ _,fun z=>by
  have z:a < a + 0:=z
  omega⟩
 | f + 1,a,R,h1,hf=>by
  have e:dI lt (kas_asc p (f + 1) a)=dI lt (if lt (ga p a) (ga p (a - 1))=true then .ret a else kas_asc p f (a + 1)):=rfl
  rw [e]
  by_cases c:lt (ga p a) (ga p (a - 1))=true
  ·rw [if_pos c]
   exact ⟨R,aZ _,by show a ≤ a + (f + 1);omega,fun _=>c⟩
  ·rw [if_neg c]
   obtain ⟨q1,q2,q3,q4⟩:=DQ W f (a + 1) (R.snoc W h1 (by omega) (by simpa using c)) (by omega) (by omega)
   exact ⟨q1,by omega,by omega,fun z=>q4 (by omega)⟩
theorem wA (W:Weak lt) {k:Nat} (R:Run lt n p k):∀ (f l r:Nat),l ≤ r→r ≤ k→r - l ≤ f→(∀ i,i < l→lt (ga p k) (ga p i)=false)→(∀ i,r ≤ i→i < k→lt (ga p k) (ga p i)=true) →
 dI lt (kas_place p k f l r) ≤ k∧(∀ i,i < dI lt (kas_place p k f l r)→lt (ga p k) (ga p i)=false)∧(∀ i,dI lt (kas_place p k f l r) ≤ i→i < k→lt (ga p k) (ga p i)=true)
 | 0,l,r,h1,h2,h3,h4,h5=>by
  have:l=r:=by omega
  subst this
  exact ⟨h2,h4,h5⟩
 | f + 1,l,r,h1,h2,h3,h4,h5=>by
  by_cases z:l ≥ r
  ·have:l=r:=by omega
   subst this
   have e:kas_place p k (f + 1) l l = .ret l:=by unfold kas_place;rw [if_pos z]
   rw [e]
   exact ⟨h2,h4,h5⟩
  ·have e:dI lt (kas_place p k (f + 1) l r)=dI lt (if lt (ga p k) (ga p ((l + r) / 2))=true then kas_place p k f l ((l + r) / 2) else kas_place p k f ((l + r) / 2 + 1) r):=by
    conv=>lhs;unfold kas_place
    rw [if_neg z]
    rfl
   rw [e]
   have m1:l ≤ (l + r) / 2:=by omega
   have m2:(l + r) / 2 < r:=by omega
   by_cases c:lt (ga p k) (ga p ((l + r) / 2))=true
   ·rw [if_pos c]
    refine wA W R f l ((l + r) / 2) m1 (by omega) (by omega) h4 fun i hi hk=>?_
    by_cases y:i=(l + r) / 2
    ·rw [y];exact c
    ·rcases R.asc ((l + r) / 2) i (by omega) hk with q | ⟨q,_⟩
     ·exact W.tr _ _ _ c q
     ·rcases W.nt _ (ga p i) _ c with w | w
      ·exact w
      ·rw [w] at q;cases q
   ·rw [if_neg c]
    have c:lt (ga p k) (ga p ((l + r) / 2))=false:=by simpa using c
    refine wA W R f ((l + r) / 2 + 1) r (by omega) h2 (by omega) (fun i hi=>?_) h5
    by_cases y:i=(l + r) / 2
    ·rw [y];exact c
    ·cases q:lt (ga p k) (ga p i) with
     | false=>rfl
     | true =>
      rcases R.asc i ((l + r) / 2) (by omega) (by omega) with w | ⟨w,_⟩
      ·rw [W.tr _ _ _ q w] at c;cases c
      ·rcases W.nt _ (ga p ((l + r) / 2)) _ q with w2 | w2
       ·rw [w2] at c;cases c
       ·rw [w2] at w;cases w
theorem Us {k l:Nat} (hk:k < p.size) (hl:l ≤ k) (i:Nat):ga (bubble p k (k - l)) i=if i=l then ga p k else if l < i∧i ≤ k then ga p (i - 1) else ga p i:=by
 have e:=getElem?_bubble hk (k - l) (by omega) i
 rw [show k - (k - l)=l by omega] at e
 have g:∀ (q:Array Nat) (i:Nat),ga q i=(q[i]?).getD 0:=fun q i=>by simp [ga,gQ]
 rw [g,e,g p k,g p (i - 1),g p i]
 by_cases c1:i=l
 ·rw [if_pos c1,if_pos c1]
 ·rw [if_neg c1,if_neg c1]
  by_cases c2:l < i∧i ≤ k
  ·rw [if_pos c2,if_pos c2]
  ·rw [if_neg c2,if_neg c2]
theorem KC (W:Weak lt) (hs:p.size=n) {k l:Nat} (R:Run lt n p k) (hk:k < n) (hl:l ≤ k) (h1:∀ i,i < l→lt (ga p k) (ga p i)=false) (h2:∀ i,l ≤ i→i < k→lt (ga p k) (ga p i)=true):Run lt n (bubble p k (k - l)) (k + 1):=by
 have ek:=R.rest k (aZ _) hk
 have B:=Us (p:=p) (k:=k) (by omega) hl
 refine ⟨fun i j hij hj=>?_,fun m hm hn=>?_,fun m hm=>?_⟩
 ·rw [B,B]
  by_cases c1:i=l
  ·rw [if_pos c1,if_neg (by omega),if_pos (by omega)]
   exact .inl (h2 (j - 1) (by omega) (by omega))
  ·rw [if_neg c1]
   by_cases c2:j=l
   ·rw [if_pos c2,if_neg (by omega)]
    exact .inr ⟨h1 i (by omega),by rw [ek];exact R.low i (by omega)⟩
   ·rw [if_neg c2]
    by_cases c3:l < i∧i ≤ k
    ·rw [if_pos c3,if_pos (by omega)]
     exact R.asc _ _ (by omega) (by omega)
    ·rw [if_neg c3]
     by_cases c4:l < j∧j ≤ k
     ·rw [if_pos c4]
      exact R.asc _ _ (by omega) (by omega)
     ·rw [if_neg c4]
      exact R.asc _ _ hij (by omega)
 ·rw [B,if_neg (by omega),if_neg (by omega)]
  exact R.rest m (by omega) hn
 ·rw [B]
  split
  ·omega
  ·split
   ·have:=R.low (m - 1) (by omega);omega
   ·have:=R.low m (by omega);omega
theorem KD (W:Weak lt):∀ (f:Nat) (p:Array Nat) (k:Nat),p.size=n→Run lt n p k→k + f=n→Run lt n (dI lt (kas_bin f p k)) n
 | 0,p,k,hs,R,h=>by
  have:k=n:=by omega
  subst this
  exact R
 | f + 1,p,k,hs,R,h=>by
  have e:dI lt (kas_bin (f + 1) p k)=dI lt (kas_bin f (bubble p k (k - dI lt (kas_place p k k 0 k))) (k + 1)):=m9 _ _
  rw [e]
  obtain ⟨q1,q2,q3⟩:=wA W R k 0 k (eY _) (aZ _) (by omega) (fun i hi=>by omega) (fun i h1 h2=>by omega)
  exact KD W f _ (k + 1) (by rw [bubble_size];exact hs) (KC W hs R (by omega) q1 q2 q3) (by omega)
end
end XS
namespace XS
open PySem PySem.W PyProof.Rows
section
variable {lt:Nat→Nat→Bool} {p p':Array Nat} {n a q:Nat}
theorem Rk.nr (W:Weak lt) {a b:Nat} (h:Rk lt a b):lt b a=false:=by
 rcases h with h | ⟨h,_⟩
 ·cases z:lt b a with
  | false=>rfl
  | true=>have:=W.tr _ _ _ h z;rw [W.irr] at this;cases this
 ·exact h
theorem DR {i j:Nat} (hj:j ≤ p.size) (k:Nat):ga (kas_rev p i j) k=if i ≤ k∧k < j then ga p (i + j - 1 - k) else ga p k:=by
 have e:=getElem?_mirror_all (i:=i) hj k
 have g:∀ (q:Array Nat) (i:Nat),ga q i=(q[i]?).getD 0:=fun q i=>by simp [ga,gQ]
 rw [g,g p (i + j - 1 - k),g p k]
 unfold kas_rev
 rw [e]
 by_cases c:i ≤ k∧k < j
 ·rw [if_pos c,if_pos c]
 ·rw [if_neg c,if_neg c]
theorem wC (i j:Nat):(kas_rev p i j).size=p.size:=mirror_size _ _ _ _
structure Dn (lt:Nat→Nat→Bool) (n:Nat) (p:Array Nat) (a q:Nat):Prop where
 le:q + 1 ≤ a
 desc:∀ i j,i < j→j < a - (q + 1)→Rk lt (ga p j) (ga p i)
 strict:∀ i j,i < a - (q + 1)→a - (q + 1) ≤ j→j < a→lt (ga p j) (ga p i)=true
 run:∀ i j,a - (q + 1) ≤ i→i < j→j < a→lt (ga p i) (ga p j)=false∧lt (ga p j) (ga p i)=false∧ga p i < ga p j
 rest:∀ k,a ≤ k→k < n→ga p k=k
 low:∀ k,k < a→ga p k < a
structure Desc (lt:Nat→Nat→Bool) (n:Nat) (p:Array Nat) (a:Nat):Prop where
 desc:∀ i j,i < j→j < a→Rk lt (ga p j) (ga p i)
 rest:∀ k,a ≤ k→k < n→ga p k=k
 low:∀ k,k < a→ga p k < a
theorem Dn.turn (D:Dn lt n p a q) (h:∀ k,ga p' k=if a - (q + 1) ≤ k∧k < a then ga p (a - (q + 1) + a - 1 - k) else ga p k):Desc lt n p' a:=by
 have l:=D.le
 refine ⟨fun i j hij hj=>?_,fun k hk hn=>?_,fun k hk=>?_⟩
 ·by_cases c:j < a - (q + 1)
  ·rw [h,h,if_neg (by omega),if_neg (by omega)]
   exact D.desc i j hij c
  ·rw [h j,if_pos (by omega),h i]
   by_cases e:i < a - (q + 1)
   ·rw [if_neg (by omega)]
    exact .inl (D.strict _ _ e (by omega) (by omega))
   ·rw [if_pos (by omega)]
    obtain ⟨x,y,z⟩:=D.run (a - (q + 1) + a - 1 - j) (a - (q + 1) + a - 1 - i) (by omega) (by omega) (by omega)
    exact .inr ⟨y,z⟩
 ·rw [h,if_neg (by omega)];exact D.rest k hk hn
 ·rw [h]
  split
  ·exact D.low _ (by omega)
  ·exact D.low _ hk
theorem Desc.up (D:Desc lt n p a) (ha:a < n) (h:∀ i,i < a→lt (ga p a) (ga p i)=true):Dn lt n p (a + 1) 0:=by
 refine ⟨by omega,fun i j hij hj=>D.desc i j hij (by omega),fun i j hi h1 h2=>?_,fun i j h1 h2 h3=>by omega,fun k hk hn=>D.rest k (by omega) hn,fun k hk=>?_⟩
 ·have:j=a:=by omega
  subst this
  exact h i (by omega)
 ·by_cases z:k < a
  ·have:=D.low k z;omega
  ·have:k=a:=by omega
   subst this
   rw [D.rest k (aZ _) ha];omega
def turned (p:Array Nat) (a q:Nat):Array Nat:=if q > 0 then kas_rev p (a - (q + 1)) a else p
theorem rD (hs:p.size=n) (ha:a ≤ n) (l:q + 1 ≤ a) (k:Nat):ga (turned p a q) k=if a - (q + 1) ≤ k∧k < a then ga p (a - (q + 1) + a - 1 - k) else ga p k:=by
 unfold turned
 by_cases c:q > 0
 ·rw [if_pos c];exact DR (by omega) k
 ·rw [if_neg c]
  by_cases e:a - (q + 1) ≤ k∧k < a
  ·rw [if_pos e,show a - (q + 1) + a - 1 - k=k by omega]
  ·rw [if_neg e]
theorem uz:(turned p a q).size=p.size:=by
 unfold turned
 split
 ·exact wC _ _
 ·rfl
theorem Dn.below (W:Weak lt) (D:Dn lt n p a q) (hs:p.size=n) (ha:a < n) (h:lt (ga p a) (ga p (a - 1))=true) (i:Nat) (hi:i < a):lt (ga (turned p a q) a) (ga (turned p a q) i)=true:=by
 have l:=D.le
 have all:∀ i,i < a→lt (ga p a) (ga p i)=true:=fun i hi=>by
  by_cases c:i < a - (q + 1)
  ·exact W.tr _ _ _ h (D.strict i (a - 1) c (by omega) (by omega))
  ·by_cases e:i=a - 1
   ·rw [e];exact h
   ·rcases W.nt _ (ga p i) _ h with w | w
    ·exact w
    ·rw [(D.run i (a - 1) (by omega) (by omega) (by omega)).1] at w;cases w
 rw [rD hs (by omega) l,if_neg (by omega),rD hs (by omega) l]
 split
 ·exact all _ (by omega)
 ·exact all _ hi
theorem Dn.same (W:Weak lt) (D:Dn lt n p a q) (ha:a < n) (h1:lt (ga p a) (ga p (a - 1))=false) (h2:lt (ga p (a - 1)) (ga p a)=false):Dn lt n p (a + 1) (q + 1):=by
 have l:=D.le
 have ea:=D.rest a (aZ _) ha
 refine ⟨by omega,fun i j hij hj=>D.desc i j hij (by omega),fun i j hi q1 q2=>?_,fun i j q1 q2 q3=>?_,fun k hk hn=>D.rest k (by omega) hn,fun k hk=>?_⟩
 ·by_cases z:j < a
  ·exact D.strict i j (by omega) (by omega) z
  ·have:j=a:=by omega
   subst this
   rcases W.nt _ (ga p j) _ (D.strict i (j - 1) (by omega) (by omega) (by omega)) with w | w
   ·rw [w] at h2;cases h2
   ·exact w
 ·by_cases z:j < a
  ·exact D.run i j (by omega) q2 z
  ·have:j=a:=by omega
   subst this
   have lo:=D.low i (by omega)
   by_cases e:i=j - 1
   ·subst e
    exact ⟨h2,h1,by omega⟩
   ·obtain ⟨x,y,_⟩:=D.run i (j - 1) (by omega) (by omega) (by omega)
    exact ⟨W.not x h2,W.not h1 y,by omega⟩
 ·by_cases z:k < a
  ·have:=D.low k z;omega
  ·have:k=a:=by omega
   subst this
   omega
theorem zT (W:Weak lt):∀ (f:Nat) (p:Array Nat) (a q:Nat),p.size=n→Dn lt n p a q→a + f ≤ n →
 (dI lt (kas_desc f p a q)).1.size=n∧Dn lt n (dI lt (kas_desc f p a q)).1 (dI lt (kas_desc f p a q)).2.1 (dI lt (kas_desc f p a q)).2.2∧(dI lt (kas_desc f p a q)).2.1 ≤ n
 | 0,p,a,q,hs,D,h=>⟨hs,D,h⟩
 | f + 1,p,a,q,hs,D,h=>by
  have e:dI lt (kas_desc (f + 1) p a q)=dI lt (if lt (ga p a) (ga p (a - 1))=true then (if q > 0 then kas_desc f (kas_rev p (a - (q + 1)) a) (a + 1) 0 else kas_desc f p (a + 1) 0) else .ask (ga p (a - 1)) (ga p a) fun d=>if d=true then .ret (p,a,q) else kas_desc f p (a + 1) (q + 1)):=rfl
  rw [e]
  by_cases c:lt (ga p a) (ga p (a - 1))=true
  ·rw [if_pos c]
   have e2:(if q > 0 then kas_desc f (kas_rev p (a - (q + 1)) a) (a + 1) 0 else kas_desc f p (a + 1) 0)=kas_desc f (turned p a q) (a + 1) 0:=by
    unfold turned
    split <;> rfl
   rw [e2]
   exact zT W f (turned p a q) (a + 1) 0 (by rw [uz];exact hs) ((D.turn (rD hs (by omega) D.le)).up (by omega) (D.below W hs (by omega) c)) (by omega)
  ·rw [if_neg c]
   have e3:dI lt (.ask (ga p (a - 1)) (ga p a) fun d=>if d=true then .ret (p,a,q) else kas_desc f p (a + 1) (q + 1))=dI lt (if lt (ga p (a - 1)) (ga p a)=true then .ret (p,a,q) else kas_desc f p (a + 1) (q + 1)):=rfl
   rw [e3]
   by_cases d:lt (ga p (a - 1)) (ga p a)=true
   ·rw [if_pos d]
    exact ⟨hs,D,by show a ≤ n;omega⟩
   ·rw [if_neg d]
    exact zT W f p (a + 1) (q + 1) hs (D.same W (by omega) (by simpa using c) (by simpa using d)) (by omega)
theorem PK (W:Weak lt) (hs:p.size=n) (D:Desc lt n p a) (h1:1 ≤ a) (ha:a ≤ n) :
 (dI lt (kas_tail3 a n p)).2.size=n∧Run lt n (dI lt (kas_tail3 a n p)).2 (dI lt (kas_tail3 a n p)).1∧1 ≤ (dI lt (kas_tail3 a n p)).1∧(dI lt (kas_tail3 a n p)).1 ≤ n:=by
 have e:dI lt (kas_tail3 a n p)=(dI lt (kas_asc (kas_rev p 0 a) (n - a) a),kas_rev p 0 a):=m9 _ _
 rw [e]
 have B:=DR (p:=p) (i:=0) (j:=a) (by omega)
 have R:Run lt n (kas_rev p 0 a) a:=by
  refine ⟨fun i j hij hj=>?_,fun k hk hn=>?_,fun k hk=>?_⟩
  ·rw [B,B,if_pos (by omega),if_pos (by omega)]
   exact D.desc _ _ (by omega) (by omega)
  ·rw [B,if_neg (by omega)];exact D.rest k hk hn
  ·rw [B,if_pos (by omega)];exact D.low _ (by omega)
 obtain ⟨q1,q2,q3,_⟩:=DQ W (n - a) a R h1 (by omega)
 exact ⟨by rw [wC];exact hs,q1,by show 1 ≤ dI lt _;omega,by show dI lt _ ≤ n;omega⟩
theorem FN (W:Weak lt) (hs:p.size=n) (D:Dn lt n p (a + 1) 0) (ha:a < n) :
 (dI lt (kas_descPart a n p)).2.size=n∧Run lt n (dI lt (kas_descPart a n p)).2 (dI lt (kas_descPart a n p)).1∧1 ≤ (dI lt (kas_descPart a n p)).1∧(dI lt (kas_descPart a n p)).1 ≤ n:=by
 obtain ⟨q1,q2,q3⟩:=zT W (n - (a + 1)) p (a + 1) 0 hs D (by omega)
 have e:dI lt (kas_descPart a n p)=dI lt (kas_tail3 (dI lt (kas_desc (n - (a + 1)) p (a + 1) 0)).2.1 n (turned (dI lt (kas_desc (n - (a + 1)) p (a + 1) 0)).1 (dI lt (kas_desc (n - (a + 1)) p (a + 1) 0)).2.1 (dI lt (kas_desc (n - (a + 1)) p (a + 1) 0)).2.2)):=by
  refine (m9 _ _).trans ?_
  unfold turned
  split <;> rfl
 rw [e]
 have l:=q2.le
 exact PK W (by rw [uz];exact q1) (q2.turn (rD q1 q3 l)) (by omega) q3
theorem KH (W:Weak lt) (hs:p.size=n) (hn:1 ≤ n) (R:Run lt n p 1) :
 (dI lt (kas_count n p)).2.size=n∧Run lt n (dI lt (kas_count n p)).2 (dI lt (kas_count n p)).1∧1 ≤ (dI lt (kas_count n p)).1∧(dI lt (kas_count n p)).1 ≤ n:=by
 obtain ⟨q1,q2,q3,q4⟩:=DQ W (n - 1) 1 R (aZ _) (by omega)
 have e:dI lt (kas_count n p)=_:=m9 _ _
 rw [e]
 clear e
 generalize dI lt (kas_asc p (n - 1) 1)=m at q1 q2 q3 q4 ⊢
 by_cases c:(m == n)=true
 ·rw [if_pos c];exact ⟨hs,q1,q2,by show m ≤ n;omega⟩
 ·rw [if_neg c]
  have c:m < n:=by
   have:¬ m=n:=by simpa using c
   omega
  have dn:=q4 (by omega)
  have st:∀ p',(∀ k,ga p' k=if 0 ≤ k∧k < m then ga p (0 + m - 1 - k) else ga p k)→lt (ga p 0) (ga p (m - 1))=false→Dn lt n p' (m + 1) 0:=fun p' B z=>by
   have D:Desc lt n p' m:=by
    refine ⟨fun i j hij hj=>?_,fun k hk hn=>?_,fun k hk=>?_⟩
    ·rw [B,B,if_pos (by omega),if_pos (by omega)]
     exact q1.asc _ _ (by omega) (by omega)
    ·rw [B,if_neg (by omega)];exact q1.rest k hk hn
    ·rw [B,if_pos (by omega)];exact q1.low _ (by omega)
   have all:∀ i,i < m→lt (ga p m) (ga p i)=true:=fun i hi=>by
    rcases W.nt _ (ga p i) _ dn with w | w
    ·exact w
    ·by_cases y:i=0
     ·subst y;rw [z] at w;cases w
     ·rcases W.nt _ (ga p 0) _ w with v | v
      ·rw [(q1.asc 0 i (by omega) hi).nr W] at v;cases v
      ·rw [z] at v;cases v
   refine D.up c fun i hi=>?_
   rw [B,if_neg (by omega),B,if_pos (by omega)]
   exact all _ (by omega)
  by_cases g:m > 1
  ·rw [if_pos g]
   show _∧Run lt n (dI lt (if lt (ga p 0) (ga p (m - 1))=true then .ret (m,p) else kas_descPart m n (kas_rev p 0 m))).2 (dI lt (if lt (ga p 0) (ga p (m - 1))=true then .ret (m,p) else kas_descPart m n (kas_rev p 0 m))).1∧_
   by_cases z:lt (ga p 0) (ga p (m - 1))=true
   ·have e:dI lt (.ask (ga p 0) (ga p (m - 1)) fun c=>if c=true then .ret (m,p) else kas_descPart m n (kas_rev p 0 m))=(m,p):=by
     show dI lt (if lt (ga p 0) (ga p (m - 1))=true then .ret (m,p) else kas_descPart m n (kas_rev p 0 m))=_
     rw [if_pos z];rfl
    rw [e,if_pos z]
    exact ⟨hs,q1,q2,by show m ≤ n;omega⟩
   ·have e:dI lt (.ask (ga p 0) (ga p (m - 1)) fun c=>if c=true then .ret (m,p) else kas_descPart m n (kas_rev p 0 m))=dI lt (kas_descPart m n (kas_rev p 0 m)):=by
     show dI lt (if lt (ga p 0) (ga p (m - 1))=true then .ret (m,p) else kas_descPart m n (kas_rev p 0 m))=_
     rw [if_neg z]
    rw [e,if_neg z]
    exact FN W (by rw [wC];exact hs) (st _ (DR (by omega)) (by simpa using z)) c
  ·rw [if_neg g]
   have:m=1:=by omega
   subst this
   refine FN W hs (st p (fun k=>?_) (W.irr _)) c
   split
   ·rw [show 0 + 1 - 1 - k=k by omega]
   ·rfl
theorem PN (W:Weak lt) (hn:1 ≤ n):Run lt n (dI lt (kas_sort n)) n:=by
 have gr:∀ k,k < n→ga (iD (aH n)) k=k:=fun k hk=>by
  simp [ga,gQ,hk]
 obtain ⟨q1,q2,q3,q4⟩:=KH (p:=iD (aH n)) W (by simp) hn ⟨fun i j h1 h2=>by omega,fun k hk h=>gr k h,fun k hk=>by rw [gr k (by omega)];exact hk⟩
 have e:dI lt (kas_sort n)=_:=m9 _ _
 rw [e]
 clear e
 generalize dI lt (kas_count n (iD (aH n)))=r at q1 q2 q3 q4 ⊢
 by_cases c:r.1 < n
 ·rw [if_pos c,show max r.1 1=r.1 by omega]
  exact KD W _ _ _ q1 q2 (by omega)
 ·rw [if_neg c]
  have:r.1=n:=by omega
  rw [← this]
  rw [← this] at q2
  exact q2
theorem su (W:Weak lt) (hn:1 ≤ n):(mD n lt).Pairwise (Rk lt):=by
 have R:=PN W hn
 have z:(mD n lt).length=n:=by
  have:=(jc (n:=n) (by omega) lt).length_eq
  simpa using this
 rw [dB]
 intro i j hi hj hij
 have:=R.asc i j hij (by omega)
 have g:∀ k (h:k < (mD n lt).length),ga (dI lt (kas_sort n)) k=(mD n lt)[k]:=fun k h=>by
  unfold mD at h ⊢
  have h':k < (dI lt (kas_sort n)).size:=by simpa using h
  simp [ga,gQ,h']
 rw [g i hi,g j hj] at this
 exact this
end
end XS
namespace XS
theorem KJ {k:Nat→Int × Int}:Weak fun i j=>wU (k i) (k j):=by
 refine ⟨fun a=>?_,fun a b c h1 h2=>?_,fun a b c h=>?_⟩
 ·simp [wU]
 ·revert h1 h2
  simp only [wU]
  generalize (k a).1=a1
  generalize (k a).2=a2
  generalize (k b).1=b1
  generalize (k b).2=b2
  generalize (k c).1=c1
  generalize (k c).2=c2
  split <;> split <;> split <;> simp only [decide_eq_true_eq] <;> omega
 ·revert h
  simp only [wU]
  generalize (k a).1=a1
  generalize (k a).2=a2
  generalize (k b).1=b1
  generalize (k b).2=b2
  generalize (k c).1=c1
  generalize (k c).2=c2
  split <;> split <;> split <;> simp only [decide_eq_true_eq] <;> omega
theorem KN (qs:List (Int × Int)):Weak (ltP qs):=KJ (k:=fun i=>qs.getD i (0,0))
theorem BX {k:Nat→Int}:Weak fun i j=>decide (k i < k j):=by
 refine ⟨fun a=>?_,fun a b c h1 h2=>?_,fun a b c h=>?_⟩
 ·simp
 ·simp only [decide_eq_true_eq] at *;omega
 ·simp only [decide_eq_true_eq] at *;omega
theorem Hz {lt:Nat→Nat→Bool} (W:Weak lt):∀ {l m:List Nat},l.Perm m→l.Pairwise (Rk lt)→m.Pairwise (Rk lt)→l=m:=by
 intro l m h h1 h2
 refine List.Perm.eq_of_pairwise (le:=Rk lt) (fun a b _ _ x y=>?_) h1 h2 h
 have n1:=x.nr W
 have n2:=y.nr W
 rcases x with x | ⟨_,x⟩
 ·rw [x] at n2;cases n2
 ·rcases y with y | ⟨_,y⟩
  ·rw [y] at n1;cases n1
  ·omega
theorem DX {lt:Nat→Nat→Bool} {n:Nat} (W:Weak lt) (hn:1 ≤ n) {m:List Nat} (h:m.Perm (aH n)) (h2:m.Pairwise (Rk lt)):mD n lt=m :=
 Hz W ((jc (by omega) lt).trans h.symm) (su W hn) h2
end XS
namespace Com
open PySem D3 My XS
theorem W7 {k:Nat→Int} {i j:Nat} (h:Rk (fun i j=>decide (k i < k j)) i j):k i ≤ k j:=by
 rcases h with z | ⟨z,_⟩
 ·have z:=of_decide_eq_true z;omega
 ·have z:=of_decide_eq_false z;omega
theorem KQ {l:List Nat} {lt:Nat→Nat→Bool} (h0:0 < l.length):((mD l.length lt).map fun i=>l.getD i 0).Perm l:=by
 have e:(aH l.length).map (fun i=>l.getD i 0)=l:=by
  apply dY
  intro i
  rw [aQ]
  by_cases h:i < l.length
  ·rw [bZ h,aN h,eN,aP,aN h]
   rfl
  ·rw [bf (by simpa using h),bf (by omega)]
   rfl
 have:=(jc h0 lt).map (fun i=>l.getD i 0)
 rw [e] at this
 exact this
theorem wD (l:List Nat) (f:Nat→Int):∃ L':List Nat,pZ (l.map fun p:Nat=>PyData.int (p:Int)) (l.map f)=L'.map (fun p:Nat=>PyData.int (p:Int))∧L'.Perm l∧L'.Pairwise fun a b=>f a ≤ f b:=by
 unfold pZ
 rw [aG]
 by_cases h1:l.length ≤ 1
 ·rw [if_pos h1]
  refine ⟨l,rfl,List.Perm.refl _,?_⟩
  match l,h1 with
  | [],_=>exact .nil
  | [_],_=>simp
 ·rw [if_neg h1]
  have gd:∀ i,i < l.length→(l.map f).getD i 0=f (l.getD i 0):=fun i hi=>by
   rw [aP,aQ,aP,aN hi]
   rfl
  refine ⟨(mD l.length fun i j=>decide ((l.map f).getD i 0 < (l.map f).getD j 0)).map fun i=>l.getD i 0,?_,KQ (by omega),?_⟩
  ·rw [dU]
   apply gO
   intro i hi
   have hi':=aY.mp ((jc (n:=l.length) (by omega) _).mem_iff.mp hi)
   rw [aP,aQ,aN hi']
   show _=PyData.int ((l.getD i 0:Nat):Int)
   rw [aP,aN hi']
   rfl
  ·rw [sE]
   have W:Weak fun i j=>decide ((l.map f).getD i 0 < (l.map f).getD j 0):=BX
   refine List.Pairwise.imp_of_mem ?_ (su W (by omega))
   intro i j hi hj hr
   have hi':=aY.mp ((jc (n:=l.length) (by omega) _).mem_iff.mp hi)
   have hj':=aY.mp ((jc (n:=l.length) (by omega) _).mem_iff.mp hj)
   have:=W7 (k:=fun i=>(l.map f).getD i 0) hr
   rw [gd i hi',gd j hj'] at this
   exact this
theorem QW (f g:Nat→Int):∀ l:List Nat,Dq (l.map fun k=>PyData.tuple [.int (f k),.int (g k)])=some (l.map fun k=>(f k,g k))
 | []=>rfl
 | a :: l=>by
  rw [bJ,Dq,QW f g l]
  rfl
theorem DY {n:Nat} (f:Nat→D):lF ((aH n).map f)=(aH n).map fun p:Nat=>PyData.tuple [.int (p:Int),f p]:=by
 unfold lF
 apply dY
 intro i
 rw [jC,aQ,aQ]
 by_cases h:i < n
 ·rw [bZ h]
  rfl
 ·rw [bf (by simpa using h)]
  rfl
theorem W8 {L:List Ty} (u:Option U) (ps:List Nat) (h:∀ p ∈ ps,p < L.length):fJ (gNl 0) D3.jX dK0 (jM 1 [0] [some (.d (.list (L.map yD))),u]) (ps.map fun p:Nat=>PyData.int (p:Int))=some ((ps.map fun p=>(tAt L p).1).map PyData.int):=by
 rw [dU]
 exact wY (fun p:Nat=>PyData.int (p:Int)) (fun p:Nat=>PyData.int (tAt L p).1) ps fun p hp=>⟨[some (.d (.int (p:Int))),some (.d (.list (L.map yD)))],rfl,rfl,by
  show (pAt (L.map yD) (p:Int)).bind _=_
  rw [pO,zR _ (h p hp)]
  rfl⟩
def opn (L:List Ty):List Nat:=(aH L.length).filter fun p=>!(tAt L p).2.2.isSome
theorem W9 {L:List Ty} (x:Int):je L x=((aH L.length).filter (Gr.holds (fun k=>(tAt L k).1) (fun k=>(tAt L k).2.1) x)).length:=by
 have e:L=(aH L.length).map (tAt L):=by
  apply dY
  intro i
  rw [aQ]
  by_cases h:i < L.length
  ·rw [bZ h,aN h,eN]
   unfold tAt
   rw [aP,aN h]
   rfl
  ·rw [bf (by omega),bf (by simpa using h)]
   rfl
 unfold je
 conv=>lhs;rw [e]
 rw [pW,aG]
 rfl
theorem wF {L:List Ty} (nd:(L.filterMap (·.2.2)).Nodup) {k l r:Nat} (hk:k < L.length) (hl:l < L.length) (z1:(tAt L k).2.2=some r) (z2:(tAt L l).2.2=some r):k=l:=by
 induction L generalizing k l with
 | nil=>cases hk
 | cons s L ih =>
  have nd':(L.filterMap (·.2.2)).Nodup:=by
   cases h:s.2.2 with
   | none=>rw [cX,h] at nd;exact nd
   | some x=>rw [cX,h] at nd;exact (bU.mp nd).2
  have no:∀ m,m < L.length→s.2.2=some r→(tAt L m).2.2=some r→False:=fun m hm a b=>by
   rw [cX,a] at nd
   exact (bU.mp nd).1 (fL.mpr ⟨_,jO hm,b⟩)
  cases k with
  | zero =>
   cases l with
   | zero=>rfl
   | succ l=>exact (no l (by simpa using hl) z1 z2).elim
  | succ k =>
   cases l with
   | zero=>exact (no k (by simpa using hk) z2 z1).elim
   | succ l=>exact congrArg (· + 1) (ih nd' (k:=k) (l:=l) (by simpa using hk) (by simpa using hl) z1 z2)
end Com
namespace Rch
structure GInv (z:Int) (M:Nat) (b e:Nat→Int) (done:List Nat) (seat:Nat→Option Nat) (fs:Nat→Int):Prop where
 out:∀ p,p ∉ done→seat p=none
 inn:∀ p ∈ done,∃ r,seat p=some r∧r < M∧e p ≤ fs r
 bk:∀ r,r < M→fs r ≤ z∨∃ p ∈ done,seat p=some r∧e p=fs r
 dj:∀ p ∈ done,∀ q ∈ done,p ≠ q→seat p=seat q→e p ≤ b q∨e q ≤ b p
theorem GInv.step {z:Int} {M:Nat} {b e:Nat→Int} {done:List Nat} {seat:Nat→Option Nat} {fs:Nat→Int} {c r:Nat} (I:GInv z M b e done seat fs) (hc:c ∉ done) (hr:r < M) (hf:fs r ≤ b c) (h1:b c < e c) :
 GInv z M b e (done++[c]) (fun p=>if p=c then some r else seat p) (fun x=>if x=r then e c else fs x):=by
 have ne:∀ p ∈ done,p ≠ c:=fun p hp z=>hc (z ▸ hp)
 refine ⟨fun p hp=>?_,fun p hp=>?_,fun x hx=>?_,fun p hp q hq hpq hs=>?_⟩
 ·have h2:p ≠ c:=fun z=>hp (aU _ (by rw [z];exact aK.mpr rfl))
  rw [if_neg h2]
  exact I.out p fun z=>hp (bx _ z)
 ·rcases aX.mp hp with z | z
  ·obtain ⟨x,s1,s2,s3⟩:=I.inn p z
   refine ⟨x,by rw [if_neg (ne p z)];exact s1,s2,?_⟩
   by_cases hx:x=r
   ·rw [if_pos hx];rw [hx] at s3;omega
   ·rw [if_neg hx];exact s3
  ·have z:=aK.mp z
   exact ⟨r,by rw [if_pos z],hr,by rw [if_pos rfl,z];exact gY _⟩
 ·by_cases z:x=r
  ·exact .inr ⟨c,aU _ (aK.mpr rfl),by rw [if_pos rfl,z],by rw [if_pos z]⟩
  ·rw [if_neg z]
   rcases I.bk x hx with w | ⟨p,hp,w1,w2⟩
   ·exact .inl w
   ·exact .inr ⟨p,bx _ hp,by rw [if_neg (ne p hp)];exact w1,w2⟩
 ·rcases aX.mp hp with z | z
  ·rcases aX.mp hq with w | w
   ·rw [if_neg (ne p z),if_neg (ne q w)] at hs
    exact I.dj p z q w hpq hs
   ·have w:=aK.mp w
    rw [if_neg (ne p z),if_pos w] at hs
    obtain ⟨x,s1,_,s3⟩:=I.inn p z
    rw [s1] at hs
    injection hs with hs
    rw [hs] at s3
    left
    rw [w]
    omega
  ·have z:=aK.mp z
   rcases aX.mp hq with w | w
   ·rw [if_pos z,if_neg (ne q w)] at hs
    obtain ⟨x,s1,_,s3⟩:=I.inn q w
    rw [s1] at hs
    injection hs with hs
    rw [← hs] at s3
    right
    rw [z]
    omega
   ·exact absurd (z.trans (aK.mp w).symm) hpq
theorem KR {α:Type} (P:Nat→α→Prop):∀ rs:List Nat,rs.Nodup→(∀ r ∈ rs,∃ a,P r a)→(∀ r r' a,P r a→P r' a→r=r')→∃ l:List α,l.length=rs.length∧l.Nodup∧∀ a ∈ l,∃ r ∈ rs,P r a
 | [],_,_,_=>⟨[],rfl,List.nodup_nil,fun _ h=>by cases h⟩
 | r0 :: rs,nd,h,u=>by
  obtain ⟨n1,n2⟩:=bU.mp nd
  obtain ⟨l,h1,h2,h3⟩:=KR P rs n2 (fun r hr=>h r (aO _ hr)) u
  obtain ⟨a,ha⟩:=h r0 aM
  refine ⟨a :: l,by rw [bQ,bQ,h1],bU.mpr ⟨fun z=>?_,h2⟩,fun x hx=>?_⟩
  ·obtain ⟨r,hr,hp⟩:=h3 a z
   have:=u r r0 a hp ha
   exact n1 (this ▸ hr)
  ·rcases bF.mp hx with rfl | z
   ·exact ⟨r0,aM,ha⟩
   ·obtain ⟨r,hr,hp⟩:=h3 x z
    exact ⟨r,aO _ hr,hp⟩
def holds (b e:Nat→Int) (x:Int) (p:Nat):Bool:=decide (b p ≤ x) && decide (x < e p)
theorem holds_iff {b e:Nat→Int} {x:Int} {p:Nat}:holds b e x p=true↔b p ≤ x∧x < e p:=by
 unfold holds
 rw [aL,decide_eq_true_iff,decide_eq_true_iff]
def cnt (n:Nat) (b e:Nat→Int) (x:Int):Nat:=((aH n).filter (holds b e x)).length
theorem rE {n:Nat} {b e:Nat→Int} {x:Int} {p:Nat}:p ∈ (aH n).filter (holds b e x)↔p < n∧b p ≤ x∧x < e p:=by
 rw [bR,aY,holds_iff]
theorem Ut {n M:Nat} {b e h:Nat→Int} {x r:Int} (hv:∀ k l,k < n→l < n→k ≠ l→b k < e l→b l < e k→h k ≠ h l) (hb:∀ k,k < n→0 ≤ h k∧h k < (M:Int)) (r0:0 ≤ r) (r1:r < (M:Int))
 (no:∀ k,k < n→b k ≤ x→x < e k→h k ≠ r):cnt n b e x < M:=by
 have nd:(r :: ((aH n).filter (holds b e x)).map h).Nodup:=by
  refine bU.mpr ⟨fun z=>?_,?_⟩
  ·obtain ⟨k,hk,ek⟩:=cQ.mp z
   obtain ⟨k1,k2,k3⟩:=rE.mp hk
   exact no k k1 k2 k3 ek
  ·refine sE.mpr (List.Pairwise.imp_of_mem ?_ (List.Pairwise.filter _ iY))
   intro p q hp hq hne
   obtain ⟨p1,p2,p3⟩:=rE.mp hp
   obtain ⟨q1,q2,q3⟩:=rE.mp hq
   exact hv p q p1 q1 hne (by omega) (by omega)
 have sub:(r :: ((aH n).filter (holds b e x)).map h) ⊆ (aH M).map fun r:Nat=>(r:Int):=fun y hy=>by
  have go:∀ y:Int,0 ≤ y→y < (M:Int)→y ∈ (aH M).map fun r:Nat=>(r:Int):=fun y y0 y1=>cQ.mpr ⟨y.toNat,aY.mpr (by omega),by omega⟩
  rcases bF.mp hy with rfl | z
  ·exact go _ r0 r1
  ·obtain ⟨k,hk,ek⟩:=cQ.mp z
   obtain ⟨k1,_,_⟩:=rE.mp hk
   rw [← ek]
   exact go _ (hb k k1).1 (hb k k1).2
 have:=List.Nodup.length_le_of_subset nd sub
 rw [bQ,aG,aG,bB] at this
 exact this
structure Wd (n M:Nat) (b e:Nat→Int) (hd:Nat→Option Nat) (now:Int) (w r:Nat) (B:Int):Prop where
 lt:∀ k,k < n→b k < e k
 hh:∀ k s,k < n→hd k=some s→s < M∧b k ≤ now∧now < e k
 hn:∀ k,k < n→hd k=none→now ≤ b k
 one:∀ k l s,k < n→l < n→hd k=some s→hd l=some s→k=l
 full:∀ k,k < n→now ≤ b k→cnt n b e (b k) ≤ M
 wn:w < n
 wh:hd w=none
 rM:r < M
 beg:(∃ k,k < n∧hd k=some r∧B=e k)∨((∀ k,k < n→hd k ≠ some r)∧B=now)
section
variable {n M:Nat} {b e:Nat→Int} {hd:Nat→Option Nat} {now:Int} {w r:Nat} {B:Int}
def Go (n:Nat) (b e:Nat→Int) (hd:Nat→Option Nat) (w k:Nat):Prop:=k < n∧k ≠ w∧hd k=none∧e k ≤ b w
inductive Pth (n M:Nat) (b e:Nat→Int) (hd:Nat→Option Nat) (w:Nat) (B:Int):List Nat→Int→Prop
 | start:Pth n M b e hd w B [] B
 | gap {cs:List Nat} {x:Int}:Pth n M b e hd w B cs x→cnt n b e x ≠ M→x < b w→Pth n M b e hd w B cs (x + 1)
 | stay {cs:List Nat} {k:Nat}:Pth n M b e hd w B cs (b k)→Go n b e hd w k→Pth n M b e hd w B (cs++[k]) (e k)
theorem Pth.ge (W:Wd n M b e hd now w r B) {cs:List Nat} {x:Int} (h:Pth n M b e hd w B cs x):B ≤ x:=by
 induction h with
 | start=>exact gY _
 | gap _ _ _ ih=>omega
 | stay _ g ih =>
  have:=W.lt _ g.1
  omega
theorem Pth.mem (W:Wd n M b e hd now w r B) {cs:List Nat} {x:Int} (h:Pth n M b e hd w B cs x):∀ k ∈ cs,Go n b e hd w k∧B ≤ b k∧e k ≤ x:=by
 induction h with
 | start=>intro k hk;cases hk
 | gap _ _ _ ih=>intro k hk;obtain ⟨h1,h2,h3⟩:=ih k hk;exact ⟨h1,h2,by omega⟩
 | stay p g ih =>
  intro k hk
  rcases aX.mp hk with z | z
  ·obtain ⟨h1,h2,h3⟩:=ih k z
   have:=W.lt _ g.1
   exact ⟨h1,h2,by omega⟩
  ·rw [aK.mp z]
   exact ⟨g,p.ge W,gY _⟩
theorem Pth.pw (W:Wd n M b e hd now w r B) {cs:List Nat} {x:Int} (h:Pth n M b e hd w B cs x):cs.Pairwise fun p q=>e p ≤ b q:=by
 induction h with
 | start=>exact .nil
 | gap _ _ _ ih=>exact ih
 | stay p g ih=>exact mj.mpr ⟨ih,j9 _ _,fun a ha q hq=>by rw [aK.mp hq];exact (p.mem W a ha).2.2⟩
theorem Pth.cov (W:Wd n M b e hd now w r B) {cs:List Nat} {x:Int} (h:Pth n M b e hd w B cs x):∀ y,B ≤ y→y < x→(∃ k ∈ cs,b k ≤ y∧y < e k)∨cnt n b e y ≠ M:=by
 induction h with
 | start=>intro y h1 h2;omega
 | @gap cs x p g1 g2 ih =>
  intro y h1 h2
  by_cases z:y=x
  ·rw [z];exact .inr g1
  ·exact ih y h1 (by omega)
 | @stay cs k p g ih =>
  intro y h1 h2
  by_cases z:b k ≤ y
  ·exact .inl ⟨k,aU _ (aK.mpr rfl),z,h2⟩
  ·rcases ih y h1 (by omega) with ⟨k',m,q⟩ | q
   ·exact .inl ⟨k',bx _ m,q⟩
   ·exact .inr q
theorem reach (W:Wd n M b e hd now w r B) {h:Nat→Int} (hv:∀ k l,k < n→l < n→k ≠ l→b k < e l→b l < e k→h k ≠ h l) (hb:∀ k,k < n→0 ≤ h k∧h k < (M:Int)) (hf:∀ k s,k < n→hd k=some s→h k=(s:Int)) (hw:h w=(r:Int)) :
 B ≤ b w∧∀ K:Int→Prop,K B→(∀ x,B ≤ x→x < b w→K x→(cnt n b e x ≠ M→K (x + 1))∧∀ k,Go n b e hd w k→b k=x→K (e k))→K (b w):=by
 have rM:=W.rM
 have late:∀ k,k < n→hd k=none→h k=(r:Int)→B ≤ b k:=fun k k1 k2 k3=>by
  rcases W.beg with ⟨l,l1,l2,l3⟩ | ⟨_,l3⟩
  ·have kl:k ≠ l:=fun z=>by rw [z,l2] at k2;cases k2
   obtain ⟨_,q1,q2⟩:=W.hh l r l1 l2
   have q3:=W.hn k k1 k2
   have q4:=W.lt k k1
   rcases sG (b k) (e l) with z | z
   ·exact absurd (k3.trans (hf l r l1 l2).symm) (hv k l k1 l1 kl z (by omega))
   ·omega
  ·rw [l3];exact W.hn k k1 k2
 have hB:=late w W.wn W.wh hw
 refine ⟨hB,fun K K0 KS=>?_⟩
 have main:∀ m:Nat,∀ x:Int,x=B + (m:Int)→x ≤ b w→(∀ k,k < n→h k=(r:Int)→¬ (b k < x∧x < e k))→K x:=by
  intro m
  induction m using Nat.strongRecOn with
  | _ m ih =>
   intro x hx hg nb
   cases m with
   | zero =>
    have:x=B:=by omega
    rw [this];exact K0
   | succ m =>
    by_cases em:∃ k,k < n∧h k=(r:Int)∧b k ≤ x - 1∧x - 1 < e k
    ·obtain ⟨k,k1,k2,k3,k4⟩:=em
     have k5:e k=x:=by
      have:=nb k k1 k2
      omega
     have kn:hd k=none:=by
      cases z:hd k with
      | none=>rfl
      | some s =>
       have:=hf k s k1 z
       have sr:s=r:=by omega
       rw [sr] at z
       exfalso
       rcases W.beg with ⟨l,l1,l2,l3⟩ | ⟨l1,_⟩
       ·have:=W.one k l r k1 l1 z l2
        rw [this] at k5
        omega
       ·exact l1 k k1 z
     have kw:k ≠ w:=fun z=>by
      have:=W.lt w W.wn
      rw [z] at k5
      omega
     have kb:=late k k1 kn k2
     have lk:=W.lt k k1
     have:=ih (b k - B).toNat (by omega) (b k) (by omega) (by omega) (fun l l1 l2 l3=>by
      have kl:k ≠ l:=fun z=>by rw [z] at l3;omega
      exact hv k l k1 l1 kl (by omega) (by omega) (k2.trans l2.symm))
     have:=(KS (b k) kb (by omega) this).2 k ⟨k1,kw,kn,by omega⟩ rfl
     rwa [k5] at this
    ·have c:=Ut (x:=x - 1) (r:=(r:Int)) hv hb (by omega) (by omega) (fun k k1 k2 k3 k4=>em ⟨k,k1,k4,k2,k3⟩)
     have:=ih m (by omega) (x - 1) (by omega) (by omega) (fun k k1 k2 k3=>em ⟨k,k1,k2,by omega,k3.2⟩)
     have:=(KS (x - 1) (by omega) (by omega) this).1 (by omega)
     rwa [show x - 1 + 1=x by omega] at this
 refine main (b w - B).toNat (b w) (by omega) (gY _) fun k k1 k2 k3=>?_
 have kw:k ≠ w:=fun z=>by rw [z] at k3;omega
 have:=W.lt w W.wn
 exact hv k w k1 W.wn kw (by omega) (by omega) (k2.trans hw.symm)
theorem W_ (W:Wd n M b e hd now w r B) (hB:B ≤ b w) {cs:List Nat} (p:Pth n M b e hd w B cs (b w)) {f:Nat→Int} (hf:∀ s,s < M→(∃ k,k < n∧hd k=some s∧f s=e k)∨((∀ k,k < n→hd k ≠ some s)∧f s=now)) (hr:f r=B) {hel:List Nat} (hh:∀ k,k ∈ hel↔k < n∧(hd k).isSome=true) (ho:∀ k,n ≤ k→hd k=none) :
 GInv now M b e (hel++(cs++[w])) (fun k=>if k ∈ cs++[w] then some r else hd k) (fun s=>if s=r then e w else f s):=by
 have lw:=W.lt w W.wn
 have rM:=W.rM
 have inC:∀ k ∈ cs++[w],k < n∧hd k=none∧B ≤ b k∧e k ≤ e w:=fun k hk=>by
  rcases aX.mp hk with z | z
  ·obtain ⟨g,g1,g2⟩:=p.mem W k z
   exact ⟨g.1,g.2.2.1,g1,by omega⟩
  ·rw [aK.mp z]
   exact ⟨W.wn,W.wh,hB,gY _⟩
 have ap:∀ k l,k ∈ cs++[w]→l ∈ cs++[w]→k ≠ l→e k ≤ b l∨e l ≤ b k:=by
  have pw:(cs++[w]).Pairwise fun p q=>e p ≤ b q:=mj.mpr ⟨p.pw W,j9 _ _,fun a ha q hq=>by rw [aK.mp hq];exact (p.mem W a ha).2.2⟩
  intro k l hk hl kl
  obtain ⟨i,hi,ei⟩:=gM hk
  obtain ⟨j,hj,ej⟩:=gM hl
  rcases sH i j with z | z | z
  ·left
   have:=dB.mp pw i j hi hj z
   rwa [ei,ej] at this
  ·subst z
   exact absurd (ei.symm.trans ej) kl
  ·right
   have:=dB.mp pw j i hj hi z
   rwa [ei,ej] at this
 have held:∀ k s,k < n→hd k=some s→k ∉ cs++[w]:=fun k s _ k2 z=>by
  rw [(inC k z).2.1] at k2;cases k2
 have heldB:∀ k,k < n→hd k=some r→e k=B:=fun k k1 k2=>by
  rcases W.beg with ⟨l,l1,l2,l3⟩ | ⟨l1,_⟩
  ·rw [W.one k l r k1 l1 k2 l2,l3]
  ·exact absurd k2 (l1 k k1)
 refine ⟨fun k hk=>?_,fun k hk=>?_,fun s hs=>?_,fun k hk l hl kl hs=>?_⟩
 ·have h1:k ∉ cs++[w]:=fun z=>hk (aU _ z)
  show (if k ∈ cs++[w] then some r else hd k)=none
  rw [if_neg h1]
  cases z:hd k with
  | none=>rfl
  | some s =>
   rcases fW k n with y | y
   ·exact absurd (bx _ ((hh k).mpr ⟨y,by rw [z];rfl⟩)) hk
   ·rw [ho k y] at z;cases z
 ·show ∃ s,(if k ∈ cs++[w] then some r else hd k)=some s∧s < M∧e k ≤ if s=r then e w else f s
  by_cases c:k ∈ cs++[w]
  ·exact ⟨r,by rw [if_pos c],rM,by rw [if_pos rfl];exact (inC k c).2.2.2⟩
  ·have kh:k ∈ hel:=by
    rcases aX.mp hk with z | z
    ·exact z
    ·exact absurd z c
   obtain ⟨k1,k2⟩:=(hh k).mp kh
   obtain ⟨s,es⟩:=cR.mp k2
   refine ⟨s,by rw [if_neg c];exact es,(W.hh k s k1 es).1,?_⟩
   by_cases z:s=r
   ·rw [if_pos z]
    rw [z] at es
    have:=heldB k k1 es
    omega
   ·rw [if_neg z]
    rcases hf s (W.hh k s k1 es).1 with ⟨l,l1,l2,l3⟩ | ⟨l1,_⟩
    ·rw [l3,W.one k l s k1 l1 es l2]
     exact gY _
    ·exact absurd es (l1 k k1)
 ·show (if s=r then e w else f s) ≤ now∨∃ p ∈ hel++(cs++[w]),(if p ∈ cs++[w] then some r else hd p)=some s∧e p=if s=r then e w else f s
  by_cases z:s=r
  ·right
   have m:w ∈ cs++[w]:=aU _ (aK.mpr rfl)
   exact ⟨w,aU _ m,by rw [if_pos m,z],by rw [if_pos z]⟩
  ·rw [if_neg z]
   rcases hf s hs with ⟨l,l1,l2,l3⟩ | ⟨_,l3⟩
   ·exact .inr ⟨l,bx _ ((hh l).mpr ⟨l1,by rw [l2];rfl⟩),by rw [if_neg (held l s l1 l2)];exact l2,l3.symm⟩
   ·exact .inl (by omega)
 ·have hs:(if k ∈ cs++[w] then some r else hd k)=if l ∈ cs++[w] then some r else hd l:=hs
  by_cases c:k ∈ cs++[w]
  ·by_cases d:l ∈ cs++[w]
   ·exact ap k l c d kl
   ·rw [if_pos c,if_neg d] at hs
    have lh:l ∈ hel:=by
     rcases aX.mp hl with z | z
     ·exact z
     ·exact absurd z d
    have:=heldB l ((hh l).mp lh).1 hs.symm
    have:=(inC k c).2.2.1
    omega
  ·have kh:k ∈ hel:=by
    rcases aX.mp hk with z | z
    ·exact z
    ·exact absurd z c
   rw [if_neg c] at hs
   by_cases d:l ∈ cs++[w]
   ·rw [if_pos d] at hs
    have:=heldB k ((hh k).mp kh).1 hs
    have:=(inC l d).2.2.1
    omega
   ·rw [if_neg d] at hs
    have lh:l ∈ hel:=by
     rcases aX.mp hl with z | z
     ·exact z
     ·exact absurd z d
    obtain ⟨k1,k2⟩:=(hh k).mp kh
    obtain ⟨s,es⟩:=cR.mp k2
    exact absurd (W.one k l s k1 ((hh l).mp lh).1 es (hs.symm.trans es)) kl
theorem room (W:Wd n M b e hd now w r B) (hB:B ≤ b w) {cs:List Nat} (p:Pth n M b e hd w B cs (b w)) {done:List Nat} {seat:Nat→Option Nat} {fs:Nat→Int} {c:Nat} (I:GInv now M b e done seat fs) (hc:c ∉ done) (hcn:c < n) (hcf:hd c=none) (hdn:∀ k ∈ done,k < n)
 (hA:∀ k ∈ done,k ∈ cs++[w]∨b k ≤ b c) (hC:∀ k ∈ cs++[w],k ∈ done∧seat k=some r) (hG:∀ k,k < n→hd k=some r→k ∈ done∧seat k=some r):∃ s,s < M∧fs s ≤ b c:=by
 apply Classical.byContradiction
 intro no
 have nb:=W.hn c hcn hcf
 have lc:=W.lt c hcn
 have cm:=W.full c hcn nb
 have all:∀ s,s < M→∃ k,k ∈ done∧seat k=some s∧b c < e k:=fun s hs=>by
  have hn:¬ fs s ≤ b c:=fun z=>no ⟨s,hs,z⟩
  rcases I.bk s hs with z | ⟨k,hk,h2,h3⟩
  ·omega
  ·exact ⟨k,hk,h2,by omega⟩
 have sub:∀ l:List Nat,(∀ k ∈ l,k ∈ done∧b k ≤ b c∧b c < e k)→l.Nodup→l.length + 1 ≤ cnt n b e (b c):=fun l hl nd=>by
  have nd2:(c :: l).Nodup:=bU.mpr ⟨fun z=>hc (hl c z).1,nd⟩
  have:=List.Nodup.length_le_of_subset (l₂:=(aH n).filter (holds b e (b c))) nd2 fun k hk=>by
   rcases bF.mp hk with rfl | z
   ·exact rE.mpr ⟨hcn,gY _,lc⟩
   ·obtain ⟨h1,h2,h3⟩:=hl k z
    exact rE.mpr ⟨hdn k h1,h2,h3⟩
  rwa [bQ] at this
 have oth:∀ s,s < M→s ≠ r→∃ k,k ∈ done∧seat k=some s∧b k ≤ b c∧b c < e k:=fun s hs sr=>by
  obtain ⟨k,k1,k2,k3⟩:=all s hs
  refine ⟨k,k1,k2,?_,k3⟩
  rcases hA k k1 with z | z
  ·rw [(hC k z).2] at k2
   injection k2 with k2
   exact absurd k2.symm sr
  ·exact z
 have uni:∀ s s' k,(k ∈ done∧seat k=some s∧b k ≤ b c∧b c < e k)→(k ∈ done∧seat k=some s'∧b k ≤ b c∧b c < e k)→s=s':=fun s s' k z z'=>by
  have:=z.2.1.symm.trans z'.2.1
  injection this
 by_cases own:∃ k,k ∈ done∧seat k=some r∧b k ≤ b c∧b c < e k
 ·obtain ⟨l,l1,l2,l3⟩:=KR (fun s k=>k ∈ done∧seat k=some s∧b k ≤ b c∧b c < e k) (aH M) iY (fun s hs=>by
   by_cases z:s=r
   ·rw [z];exact own
   ·exact oth s (aY.mp hs) z) uni
  have:=sub l (fun k hk=>let ⟨_,_,q⟩:=l3 k hk;⟨q.1,q.2.2⟩) l2
  rw [l1,bB] at this
  omega
 ·obtain ⟨l,l1,l2,l3⟩:=KR (fun s k=>k ∈ done∧seat k=some s∧b k ≤ b c∧b c < e k) ((aH M).erase r) (List.Nodup.erase r iY) (fun s hs=>by
   obtain ⟨h1,h2⟩:=(List.Nodup.mem_erase_iff iY).mp hs
   exact oth s (aY.mp h2) h1) uni
  have q:=sub l (fun k hk=>let ⟨_,_,q⟩:=l3 k hk;⟨q.1,q.2.2⟩) l2
  rw [l1,List.length_erase_of_mem (aY.mpr W.rM),bB] at q
  have rM:=W.rM
  have eM:cnt n b e (b c)=M:=by omega
  obtain ⟨k,k1,k2,k3⟩:=all r rM
  have kc:k ∈ cs++[w]:=by
   rcases hA k k1 with z | z
   ·exact z
   ·exact absurd ⟨k,k1,k2,z,k3⟩ own
  have cw:b c < b w:=by
   rcases sG (b c) (b w) with z | z
   ·exact z
   ·have:b c < e w:=by
     rcases aX.mp kc with y | y
     ·have:=(p.mem W k y).2.2
      have:=W.lt w W.wn
      omega
     ·rw [aK.mp y] at k3
      exact k3
    have m:w ∈ cs++[w]:=aU _ (aK.mpr rfl)
    exact absurd ⟨w,(hC w m).1,(hC w m).2,z,this⟩ own
  have cB:B ≤ b c:=by
   rcases W.beg with ⟨l,l1,l2,l3⟩ | ⟨_,l3⟩
   ·rcases sG (b c) B with z | z
    ·obtain ⟨q1,q2⟩:=hG l l1 l2
     have q3:=(W.hh l r l1 l2).2.1
     exact absurd ⟨l,q1,q2,by omega,by omega⟩ own
    ·exact z
   ·omega
  rcases p.cov W (b c) cB cw with ⟨k',m,q1,q2⟩ | q1
  ·have m':k' ∈ cs++[w]:=bx _ m
   exact absurd ⟨k',(hC k' m').1,(hC k' m').2,q1,q2⟩ own
  ·exact q1 eM
end
end Rch
namespace K42
open PySem D3
noncomputable abbrev fO:List D→Option D:=Com.fO
noncomputable def mG:List D→Option D:=fnD 1 0 (cT (dCall vC (aF (iT (R8 (aD 0)) (gNl 0) (jX) (dCall fO (aF (aD 0) (bh))) 1 []) (bh))))
noncomputable def lY:List D→Option D:=fnD 2 0 (cT (rP (dUn (gIs "tuple") (aD 0)) (rP (dOp gEq (dCall ju (aF (aD 0) (bh))) (aD 1)) (dCall mG (aF (aD 0) (bh))))))
noncomputable def oZ:List D→Option D:=fnD 1 0 (cT (dCall lY (aF (aD 0) (aF (dC (.int 2)) (bh)))))
noncomputable def lB:List D→Option D:=fnD 1 0 (cT (rP (dCall oZ (aF (aD 0) (bh))) (uJ gLe gLt gLe (dC (.int 0)) (dOp gIx (aD 0) (dC (.int 0))) (dOp gIx (aD 0) (dC (.int 1))) (dC (.int 400)))))
noncomputable abbrev dh:List D→Option D:=Com.dh
noncomputable abbrev jN:List D→Option D:=Com.jN
noncomputable abbrev iR:List D→Option D:=Com.iR
noncomputable abbrev nJ:List D→Option D:=Com.nJ
noncomputable abbrev lA:List D→Option D:=Com.lA
noncomputable def lK:List D→Option D:=fnD 3 1 (bY (sIf (D3.tOr (D3.jW (aW (dUn (gIs "tuple") (aD 0)))) (D3.tOr (aW (dOp gNe (dCall ju (aF (aD 0) (bh))) (dC (.int 3)))) (D3.jW (aW (dCall lB (aF (dCall dh (aF (aD 0) (bh))) (bh))))))) (cT (dC (.bool false))) (cZ))
 (bY (cD 3 (dOp gIx (aD 0) (dC (.int 2))))
 (bY (sIf (aW (dUn nA (aD 3))) (cT (dOp gGe (dOp gIx (aD 0) (dC (.int 0))) (aD 2))) (cZ))
 (cT (rP (dCall fO (aF (aD 3) (bh))) (rP (oE gLe gLt (dC (.int 0)) (aD 3) (aD 1)) (dCall jN (aF (dCall dh (aF (aD 0) (bh))) (aF (aD 2) (bh))))))))))
noncomputable def jT:List D→Option D:=fnD 3 3 (bY (cD 3 (dC (.dict [])))
 (jD (vq (aD 0)) (gTn 2 (cU (gNl 4) (cU (gNl 5) (lg)))) (bY (sIf (D3.jW (aW (dCall lK (aF (aD 5) (aF (aD 1) (aF (aD 2) (bh))))))) ((fun _=>none)) (cZ))
 (bY (sIf (aW (dOp wV (dOp gIx (aD 5) (dC (.int 2))) (aD 3))) ((fun _=>none)) (cZ))
 (sIf (aW (dUn kE (dOp gIx (aD 5) (dC (.int 2))))) (Bq 3 (dOp gIx (aD 5) (dC (.int 2)))) (cZ))))))
noncomputable abbrev iM:List D→Option D:=Com.iM
noncomputable def jq:List D→Option D:=fnD 1 1 (bY (cD 1 (iT (vq (aD 0)) (gTn 2 (cU (gNl 0) (cU (gNl 1) (lg)))) (aW (dUn nA (dOp gIx (aD 1) (dC (.int 2))))) (dX (aD 0)) 2 []))
 (cT (XS.zL (aD 1) XS.dK0 [0])))
noncomputable abbrev cO:List D→Option D:=Com.cO
noncomputable abbrev gU:List D→Option D:=Com.gU
noncomputable def qQ:List D→Option D:=fnD 3 4 (bY (cD 3 (dUn sW (aD 1)))
 (bY (cD 4 (dUn sW (aD 2)))
 (bY (jD (jP (dCall jq (aF (aD 0) (bh)))) (gNl 5) (sIf (aW (dUn nA (dOp gIx (aD 3) (aD 5)))) (bY (cD 6 (dCall gU (aF (aD 4) (aF (dOp gIx (dOp gIx (aD 0) (aD 5)) (dC (.int 0))) (bh)))))
 (bY (uF 3 (aD 5) (aD 6))
 (uF 4 (aD 6) (dOp gIx (dOp gIx (aD 0) (aD 5)) (dC (.int 1)))))) (cZ)))
 (cT (sS (aD 3))))))
noncomputable def mH:List D→Option D:=fnD 4 0 (bY (vg (dCall jT (aF (aD 0) (aF (aD 1) (aF (aD 2) (bh))))))
 (bY (vg (dCall iM (aF (aD 0) (aF (aD 1) (aF (aD 2) (bh))))))
 (sIf (D3.tOr (D3.jW (aW (oE gLe gLt (dC (.int 0)) (aD 3) (dCall ju (aF (aD 0) (bh)))))) (aW (dUn kE (dOp gIx (dOp gIx (aD 0) (aD 3)) (dC (.int 2)))))) ((fun _=>none)) (cZ))))
noncomputable abbrev fK:List D→Option D:=Com.fK
noncomputable abbrev jm:List D→Option D:=Com.jm
noncomputable abbrev fX:List D→Option D:=Com.fX
noncomputable abbrev fY:List D→Option D:=Com.fY
noncomputable def fQ:List D→Option D:=fnD 4 3 (bY (cD 4 (vR (aD 3)))
 (bY (jD (Et (aF (aD 3) (aF (dOp gIx (dOp gIx (aD 0) (aD 2)) (dC (.int 0))) (bh)))) (gNl 5) (sIf (aW (dOp Br (aD 5) (aD 4))) (jD (jP (dCall fY (aF (aD 0) (aF (aD 1) (aF (aD 2) (aF (aD 5) (bh))))))) (gNl 6) (vU 4 (dOp gIx (aD 6) (dC (.int 0))) (dTup (aF (aD 5) (aF (dOp gIx (aD 6) (dC (.int 1))) (bh)))))) (cZ)))
 (cT (aD 4))))
noncomputable def nM:List D→Option D:=fnD 2 3 (bY (cD 2 (jA (bh)))
 (bY (cD 3 (aD 1))
 (bY (tV (aW (dUn kE (dOp pL (aD 0) (aD 3)))) (bY (cD 4 (dOp gIx (dOp pL (aD 0) (aD 3)) (dC (.int 1))))
 (bY (sIf (aW (dUn kE (aD 4))) (wR 2 (dC (.int 0)) (aD 4)) (cZ))
 (cD 3 (dOp gIx (dOp pL (aD 0) (aD 3)) (dC (.int 0)))))))
 (cT (sS (aD 2))))))
noncomputable def mJ:List D→Option D:=fnD 6 3 (bY (cD 6 (iT (jP (aD 0)) (gNl 0) (jX) (dX (dOp gIx (aD 0) (dC (.int 2)))) 1 []))
 (bY (jD (jP (dOp nR (aD 5) (jA (aF (aD 3) (bh))))) (gNl 7) (uF 6 (aD 7) (aD 4)))
 (bY (cD 8 (sS (dCall cO (aF (aD 0) (aF (aD 1) (aF (aD 2) (bh)))))))
 (bY (uF 8 (aD 4) (dOp gIx (dOp gIx (aD 0) (aD 3)) (dC (.int 1))))
 (cT (dCall qQ (aF (aD 0) (aF (aD 6) (aF (aD 8) (bh))))))))))
noncomputable def eV:List D→Option D:=fnD 5 4 (bY (vg (dCall mH (aF (aD 0) (aF (aD 1) (aF (aD 2) (aF (aD 3) (bh)))))))
 (bY (vg (dCall fK (aF (aD 1) (aF (aD 4) (bh)))))
 (bY (cD 5 (dOp gIx (dCall cO (aF (aD 0) (aF (aD 1) (aF (aD 2) (bh))))) (aD 4)))
 (bY (cD 6 (dOp gIx (dOp gIx (aD 0) (aD 3)) (dC (.int 0))))
 (bY (sIf (aW (dOp gGt (aD 5) (aD 6))) (cT (dTup (aF (dC (.str "no")) (aF (jA (bh)) (bh))))) (cZ))
 (bY (cD 7 (dCall fQ (aF (aD 0) (aF (aD 1) (aF (aD 3) (aF (aD 5) (bh)))))))
 (bY (sIf (aW (dOp tu (aD 6) (aD 7))) (cT (dTup (aF (dC (.str "no")) (aF (dCall tG (aF (aD 7) (bh))) (bh))))) (cZ))
 (bY (cD 8 (sS (dCall nM (aF (aD 7) (aF (aD 6) (bh))))))
 (cT (dTup (aF (dC (.str "yes")) (aF (sS (aD 8)) (aF (dCall mJ (aF (aD 0) (aF (aD 1) (aF (aD 2) (aF (aD 3) (aF (aD 4) (aF (aD 8) (bh)))))))) (bh))))))))))))))
noncomputable abbrev jf:List D→Option D:=Com.jf
noncomputable abbrev bT:List D→Option D:=Com.bT
noncomputable abbrev cJ:List D→Option D:=Com.cJ
noncomputable abbrev gj:List D→Option D:=Com.gj
noncomputable abbrev gW:List D→Option D:=Com.gW
noncomputable abbrev gw:List D→Option D:=Com.gw
noncomputable abbrev j8:List D→Option D:=Com.j8
noncomputable abbrev jk:List D→Option D:=Com.jk
noncomputable def eU:List D→Option D:=fnD 3 2 (bY (sIf (D3.tOr (D3.jW (aW (dUn (gIs "list") (aD 0)))) (aW (dOp gNe (dCall ju (aF (aD 0) (bh))) (dCall ju (aF (aD 1) (bh)))))) (cT (dC (.bool false))) (cZ))
 (bY (jD (jQ (aF (dCall ju (aF (aD 1) (bh))) (bh))) (gNl 3) (bY (sIf (D3.tOr (D3.jW (aW (dCall cJ (aF (dOp gIx (aD 0) (aD 3)) (bh))))) (D3.tOr (aW (dOp gLt (dOp gIx (aD 0) (aD 3)) (dC (.int 0)))) (aW (dOp gGe (dOp gIx (aD 0) (aD 3)) (aD 2))))) (cT (dC (.bool false))) (cZ))
 (bY (sIf (D3.iG (aW (dUn kE (dOp gIx (dOp gIx (aD 1) (aD 3)) (dC (.int 2))))) (aW (dOp gNe (dOp gIx (dOp gIx (aD 1) (aD 3)) (dC (.int 2))) (dOp gIx (aD 0) (aD 3))))) (cT (dC (.bool false))) (cZ))
 (jD (jQ (aF (aD 3) (bh))) (gNl 4) (sIf (D3.iG (aW (dOp gEq (dOp gIx (aD 0) (aD 4)) (dOp gIx (aD 0) (aD 3)))) (D3.iG (aW (dOp gLt (dOp gIx (dOp gIx (aD 1) (aD 4)) (dC (.int 0))) (dOp gIx (dOp gIx (aD 1) (aD 3)) (dC (.int 1))))) (aW (dOp gLt (dOp gIx (dOp gIx (aD 1) (aD 3)) (dC (.int 0))) (dOp gIx (dOp gIx (aD 1) (aD 4)) (dC (.int 1))))))) (cT (dC (.bool false))) (cZ))))))
 (cT (dC (.bool true)))))
noncomputable abbrev fZ:List D→Option D:=Com.fZ
noncomputable def kI:List D→Option D:=fnD 4 5 (bY (cD 4 (jA (bh)))
 (bY (sIf (aW (dOp gLt (dCall ju (aF (iT (jP (aD 0)) (gNl 0) (D3.iG (aW (dOp gLe (dOp gIx (aD 0) (dC (.int 0))) (aD 1))) (aW (dOp gLt (aD 1) (dOp gIx (aD 0) (dC (.int 1)))))) (dX (aD 0)) 1 [3]) (bh))) (aD 1))) (sU 4 (dOp jd (aD 3) (dC (.int 1)))) (cZ))
 (bY (jD (jQ (aF (dCall ju (aF (aD 0) (bh))) (bh))) (gNl 5) (bY (GC (dOp gIx (aD 0) (aD 5)) (gTn 3 (cU (gNl 6) (cU (gNl 7) (cU (gNl 8) (lg))))))
 (sIf (D3.iG (aW (dOp gNe (aD 5) (aD 2))) (D3.iG (aW (dUn nA (aD 8))) (D3.iG (aW (dOp gEq (aD 6) (aD 3))) (aW (dOp gLe (aD 7) (dOp gIx (dOp gIx (aD 0) (aD 2)) (dC (.int 0)))))))) (sU 4 (aD 7)) (cZ))))
 (cT (sS (aD 4))))))
noncomputable abbrev eG:List D→Option D:=Com.eG
noncomputable def iQ:List D→Option D:=fnD 6 4 (bY (cD 6 (dCall fZ (aF (aD 0) (aF (aD 2) (aF (aD 4) (bh))))))
 (bY (cD 7 (dOp gIx (dOp gIx (aD 0) (aD 3)) (dC (.int 0))))
 (bY (sIf (D3.jW (aW (dCall eG (aF (aD 5) (bh))))) (cT (dC (.bool false))) (cZ))
 (bY (sIf (aW (dOp gGt (aD 6) (aD 7))) (cT (dOp gEq (aD 5) (jA (bh)))) (cZ))
 (bY (sIf (D3.tOr (aW (dOp rT (aD 6) (aD 5))) (D3.tOr (aW (dOp gIn (aD 7) (aD 5))) (D3.tOr (aW (dOp gLt (dOp gIx (aD 5) (dC (.int 0))) (aD 6))) (aW (dOp gGt (dOp gIx (aD 5) (dUn yP (dC (.int 1)))) (aD 7)))))) (cT (dC (.bool false))) (cZ))
 (bY (jD (jP (aD 5)) (gNl 8) (jD (jP (dCall kI (aF (aD 0) (aF (aD 1) (aF (aD 3) (aF (aD 8) (bh))))))) (gNl 9) (sIf (aW (dOp rT (aD 9) (aD 5))) (cT (dC (.bool false))) (cZ))))
 (cT (dC (.bool true)))))))))
noncomputable def lC:List D→Option D:=fnD 3 1 (bY (cD 3 (dCall XS.vN (aF (iT (jQ (aF (dCall ju (aF (aD 0) (bh))) (bh))) (gNl 0) (D3.iG (aW (dUn nA (dOp gIx (dOp gIx (aD 1) (aD 0)) (dC (.int 2))))) (aW (dOp gEq (dOp gIx (aD 2) (aD 0)) (dOp gIx (aD 2) (aD 3))))) (dX (dTup (aF (dOp gIx (dOp gIx (aD 1) (aD 0)) (dC (.int 0))) (aF (aD 0) (bh))))) 1 [0,1,2]) (bh))))
 (cT (iT (jP (aD 3)) (gTn 2 (cU (gNl 0) (cU (gNl 1) (lg)))) (aW (dOp gLt (aD 0) (dOp gIx (dOp gIx (aD 2) (aD 3)) (dC (.int 0))))) (dX (aD 1)) 2 [0,2])))
noncomputable def jt:List D→Option D:=fnD 5 0 (bY (sIf (D3.tOr (D3.jW (aW (dUn (gIs "tuple") (aD 0)))) (D3.tOr (aW (dOp gNe (dCall ju (aF (aD 0) (bh))) (dC (.int 3)))) (D3.tOr (aW (dOp gNe (dOp gIx (aD 0) (dC (.int 0))) (dC (.str "yes")))) (D3.jW (aW (dUn (gIs "list") (dOp gIx (aD 0) (dC (.int 1))))))))) (cT (dC (.bool false))) (cZ))
 (bY (sIf (D3.tOr (D3.jW (aW (dCall eU (aF (dOp gIx (aD 0) (dC (.int 2))) (aF (aD 1) (aF (aD 2) (bh))))))) (aW (dOp gNe (dOp gIx (dOp gIx (aD 0) (dC (.int 2))) (aD 3)) (aD 4)))) (cT (dC (.bool false))) (cZ))
 (cT (rP (dCall vC (aF (iT (jP (dOp gIx (aD 0) (dC (.int 1)))) (gNl 0) (jX) (dCall cJ (aF (aD 0) (bh))) 1 []) (bh))) (dOp gEq (dOp gIx (aD 0) (dC (.int 1))) (dCall lC (aF (aD 1) (aF (dOp gIx (aD 0) (dC (.int 2))) (aF (aD 3) (bh))))))))))
noncomputable def lD:List D→Option D:=fnL 2 5 (bY (cD 2 (jA (aF (jA (bh)) (bh))))
 (bY (jD (jQ (aF (dCall ju (aF (aD 0) (bh))) (bh))) (gNl 3) (bY (cD 4 (jA (bh)))
 (bY (jD (jP (aD 2)) (gNl 5) (jD (jQ (aF (aD 1) (bh))) (gNl 6) (sIf (aW (dCall eU (aF (dOp nR (aD 5) (jA (aF (aD 6) (bh)))) (aF (dSl (aD 0) yp (vp (dOp jd (aD 3) (dC (.int 1))))) (aF (aD 1) (bh)))))) (sU 4 (dOp nR (aD 5) (jA (aF (aD 6) (bh))))) (cZ))))
 (GX 2 4))))
 (E_ (aD 2))))
noncomputable def fG:List D→Option D:=fnD 7 1 (bY (cD 7 (dCall M8 (aF (iT (jP (aD 1)) (gNl 0) (jX) (dOp gEq (dOp gIx (aD 0) (aD 2)) (aD 1)) 1 [6,5]) (bh))))
 (bY (sIf (D3.tOr (D3.jW (aW (dUn (gIs "tuple") (aD 0)))) (D3.tOr (aW (dOp gLt (dCall ju (aF (aD 0) (bh))) (dC (.int 2)))) (aW (dOp gNe (dOp gIx (aD 0) (dC (.int 0))) (dOp gIx (jA (aF (dC (.str "no")) (aF (dC (.str "yes")) (bh)))) (dCall Az (aF (aD 7) (bh)))))))) (cT (dC (.bool false))) (cZ))
 (bY (sIf (aW (aD 7)) (cT (dCall jt (aF (aD 0) (aF (aD 2) (aF (aD 3) (aF (aD 5) (aF (aD 6) (bh)))))))) (cZ))
 (cT (rP (dOp gEq (dCall ju (aF (aD 0) (bh))) (dC (.int 2))) (dCall iQ (aF (aD 2) (aF (aD 3) (aF (aD 4) (aF (aD 5) (aF (aD 6) (aF (dOp gIx (aD 0) (dC (.int 1))) (bh)))))))))))))
noncomputable def KY:List D→Option D:=fnD 1 8 (bY (cD 1 (dOp jd (dC (.int 1)) (dCall bT (aF (aD 0) (aF (dC (.int 0)) (aF (dC (.int 3)) (aF (dC (.int 3)) (bh))))))))
 (bY (cD 2 (dCall j8 (aF (aD 0) (bh))))
 (bY (cD 3 (jA (bh)))
 (bY (jD (jP (dCall jk (aF (aD 0) (aF (aD 1) (aF (aD 2) (aF (dC (.int 24)) (bh))))))) (gNl 4) (sIf (D3.tOr (aW (dUn kE (dOp gIx (aD 4) (dC (.int 2))))) (aW (dOp gLt (dCall ju (aF (iT (jP (aD 3)) (gNl 0) (aW (dUn nA (dOp gIx (aD 0) (dC (.int 2))))) (dX (aD 0)) 1 []) (bh))) (dC (.int 5))))) (sU 3 (aD 4)) (cZ)))
 (bY (Bt [3] [8] 5 (dCall lD (aF (aD 3) (aF (aD 1) (bh)))))
 (bY (jD (jQ (aF (dCall ju (aF (aD 3) (bh))) (bh))) (gNl 6) (jD (jQ (aF (aD 1) (bh))) (gNl 7) (sIf (aW (dUn nA (dOp gIx (dOp gIx (aD 3) (aD 6)) (dC (.int 2))))) (bY (cD 8 (dNd (dCall eV (aF (dUn sW (aD 3)) (aF (aD 1) (aF (aD 2) (aF (aD 6) (aF (aD 7) (bh)))))))))
 (bY (sIf (D3.jW (aW (dCall fG (aF (aD 8) (aF (aD 5) (aF (aD 3) (aF (aD 1) (aF (aD 2) (aF (aD 6) (aF (aD 7) (bh))))))))))) (cT (dC (.bool false))) (cZ))
 (bY (vm 8 (dUn yP (dC (.int 1))))
 (sIf (D3.jW (aW (dCall fG (aF (dCall eV (aF (aD 3) (aF (aD 1) (aF (aD 2) (aF (aD 6) (aF (aD 7) (bh))))))) (aF (aD 5) (aF (aD 3) (aF (aD 1) (aF (aD 2) (aF (aD 6) (aF (aD 7) (bh))))))))))) (cT (dC (.bool false))) (cZ))))) (cZ))))
 (cT (dC (.bool true)))))))))
end K42
namespace K42
open PySem D3 My Com XS
structure TO0 (L:List Ty) (M:Nat) (now:Int):Prop where
 len:L.length ≤ 24
 ok:∀ s ∈ L,(s.1 < s.2.1∧0 ≤ s.1∧s.2.1 ≤ 400)∧(∀ r,s.2.2=some r→r < M∧s.1 ≤ now∧now < s.2.1)∧(s.2.2=none→now ≤ s.1)
 nd:(L.filterMap (·.2.2)).Nodup
def bk (L:List Ty) (k:Nat):Int:=(tAt L k).1
def ek (L:List Ty) (k:Nat):Int:=(tAt L k).2.1
def hk (L:List Ty) (k:Nat):Option Nat:=(tAt L k).2.2
theorem zU {g:FG} {b:FS} {v:D} (Inv:Nat→DS→Prop) (P:Nat→Prop) (l:List D) (δ:DS) (h0:Inv 0 δ) (hs:∀ i d δ,l[i]? = some d→(∀ j,j < i→P j)→Inv i δ→∃ δ1,g d δ=some δ1∧((P i∧∃ δ',b δ1=some (.nx δ')∧Inv (i + 1) δ')∨(¬ P i∧b δ1=some (.rt v)))) :
 (∃ δ',jB g b l δ=some (.nx δ')∧Inv l.length δ'∧∀ j,j < l.length→P j)∨(jB g b l δ=some (.rt v)∧∃ j,j < l.length∧¬ P j):=by
 have key:∀ (l:List D) (k:Nat) (δ:DS),Inv k δ→(∀ j,j < k→P j)→(∀ i d δ,l[i]? = some d→(∀ j,j < k + i→P j)→Inv (k + i) δ→∃ δ1,g d δ=some δ1∧((P (k + i)∧∃ δ',b δ1=some (.nx δ')∧Inv (k + i + 1) δ')∨(¬ P (k + i)∧b δ1=some (.rt v)))) →
  (∃ δ',jB g b l δ=some (.nx δ')∧Inv (k + l.length) δ'∧∀ j,j < k + l.length→P j)∨(jB g b l δ=some (.rt v)∧∃ j,j < k + l.length∧¬ P j):=by
  intro l
  induction l with
  | nil=>exact fun k δ h hp _=>.inl ⟨δ,rfl,h,hp⟩
  | cons d r ih =>
   intro k δ h hp hs
   obtain ⟨δ1,e1,z⟩:=hs 0 d δ rfl hp h
   rcases z with ⟨p,δ',e2,e3⟩ | ⟨p,e2⟩
   ·have hp':∀ j,j < k + 1→P j:=fun j hj=>by
     by_cases w:j < k
     ·exact hp j w
     ·have:j=k + 0:=by omega
      rw [this];exact p
    have:=ih (k + 1) δ' e3 hp' fun i d' δ'' hd hq hi=>by
     have:=hs (i + 1) d' δ'' (by simpa using hd) (by rw [show k + (i + 1)=k + 1 + i by omega];exact hq) (by rw [show k + (i + 1)=k + 1 + i by omega];exact hi)
     rw [show k + (i + 1)=k + 1 + i by omega] at this
     exact this
    rw [bQ,show k + (r.length + 1)=k + 1 + r.length by omega,jB,e1,aJ,e2]
    exact this
   ·refine .inr ⟨?_,k + 0,by rw [bQ];omega,p⟩
    rw [jB,e1,aJ,e2]
    rfl
 have:=key l 0 δ h0 (fun j hj=>absurd hj (mL _)) fun i d δ hd hp hi=>by
  rw [kY] at hp hi ⊢
  exact hs i d δ hd hp hi
 rw [kY] at this
 exact this
def isI:D→Bool
 | .int _=>true
 | _=>false
theorem lwh (d:D):cJ [d]=some (.bool (isI d)):=by
 unfold cJ Com.cJ
 cases d <;> rfl
theorem PX {d:D} (h:isI d=true):∃ v,d = .int v:=by
 cases d <;> first | exact ⟨_,rfl⟩ | cases h
def Pk (L:List Ty) (M:Nat) (ds:List D) (i:Nat):Prop:=∃ v:Int,ds[i]? = some (.int v)∧0 ≤ v∧v < (M:Int)∧(∀ r,hk L i=some r→(r:Int)=v)∧∀ k,k < i→¬ (ds[k]? = ds[i]?∧bk L k < ek L i∧bk L i < ek L k)
theorem ay {L:List Ty} {k:Nat} (h:k < L.length):pAt (L.map yD) (k:Int)=some (.tuple [.int (bk L k),.int (ek L k),hD (hk L k)]):=by rw [pO,zR _ h];rfl
theorem BZ (n:Nat) (h:n ≤ 1000):oY (some [.int (n:Int)])=some (gh 0 (n:Int)):=Ko (by omega) (by omega)
theorem isList {ds:List D}:D3.isT "list" (tyD (.list ds))=true:=rfl
theorem KZ {α:Type} (l:List α) (f:α→D):((l.map f).length:Int)=(l.length:Int):=by rw [aG]
theorem wG {L:List Ty} {M:Nat} {ds:List D} (hl:L.length ≤ 24) (hd:ds.length=L.length) :
 ∃ b,eU [.list ds,.list (L.map yD),.int (M:Int)]=some (.bool b)∧(b=true↔∀ i,i < L.length→Pk L M ds i):=by
 have F:=zU (v:=.bool false) (g:=(gNl 3)) (b:=(bY (sIf (D3.tOr (D3.jW (aW (dCall cJ (aF (dOp gIx (aD 0) (aD 3)) (bh))))) (D3.tOr (aW (dOp gLt (dOp gIx (aD 0) (aD 3)) (dC (.int 0)))) (aW (dOp gGe (dOp gIx (aD 0) (aD 3)) (aD 2))))) (cT (dC (.bool false))) (cZ)) (bY (sIf (D3.iG (aW (dUn kE (dOp gIx (dOp gIx (aD 1) (aD 3)) (dC (.int 2))))) (aW (dOp gNe (dOp gIx (dOp gIx (aD 1) (aD 3)) (dC (.int 2))) (dOp gIx (aD 0) (aD 3))))) (cT (dC (.bool false))) (cZ)) (jD (jQ (aF (aD 3) (bh))) (gNl 4) (sIf (D3.iG (aW (dOp gEq (dOp gIx (aD 0) (aD 4)) (dOp gIx (aD 0) (aD 3)))) (D3.iG (aW (dOp gLt (dOp gIx (dOp gIx (aD 1) (aD 4)) (dC (.int 0))) (dOp gIx (dOp gIx (aD 1) (aD 3)) (dC (.int 1))))) (aW (dOp gLt (dOp gIx (dOp gIx (aD 1) (aD 3)) (dC (.int 0))) (dOp gIx (dOp gIx (aD 1) (aD 4)) (dC (.int 1))))))) (cT (dC (.bool false))) (cZ))))))
  (fun _ δ=>∃ x y,δ=[some (.d (.list ds)),some (.d (.list (L.map yD))),some (.d (.int (M:Int))),x,y]) (Pk L M ds) (gh 0 (L.length:Int))
  [some (.d (.list ds)),some (.d (.list (L.map yD))),some (.d (.int (M:Int))),none,none] ⟨none,none,rfl⟩ (by
   rintro i d δ hd' hp ⟨x,y,rfl⟩
   obtain ⟨hi,rfl⟩:=pN hd'
   have hi:i < L.length:=by omega
   refine ⟨[some (.d (.list ds)),some (.d (.list (L.map yD))),some (.d (.int (M:Int))),some (.d (.int (i:Int))),y],rfl,?_⟩
   cases hdi:ds[i]? with
   | none=>rw [List.getElem?_eq_none_iff] at hdi;omega
   | some e =>
    have a0:pAt ds (i:Int)=some e:=by rw [jV];exact hdi
    have a1:=ay hi
    cases hI:isI e with
    | false =>
     refine .inr ⟨fun ⟨v,z,_⟩=>?_,?_⟩
     ·rw [hdi] at z;cases z;cases hI
     ·simp only [EV,reduceIte,aq,au,aj,ao,aA,aB,aC,a0,lwh,hI]
    | true =>
     obtain ⟨v,rfl⟩:=PX hI
     by_cases c1:v < 0
     ·refine .inr ⟨fun ⟨w,z,z2,_⟩=>?_,?_⟩
      ·rw [hdi] at z;cases z;omega
      ·simp only [EV,reduceIte,aq,au,aj,ao,aA,aB,aC,a0,lwh,hI,dTr c1]
     ·by_cases c2:(M:Int) ≤ v
      ·refine .inr ⟨fun ⟨w,z,_,z2,_⟩=>?_,?_⟩
       ·rw [hdi] at z;cases z;omega
       ·simp only [EV,reduceIte,aq,au,aj,ao,aA,aB,aC,a0,lwh,hI,dFa c1,dTr c2]
      ·have inner:=zU (v:=.bool false) (g:=(gNl 4)) (b:=(sIf (D3.iG (aW (dOp gEq (dOp gIx (aD 0) (aD 4)) (dOp gIx (aD 0) (aD 3)))) (D3.iG (aW (dOp gLt (dOp gIx (dOp gIx (aD 1) (aD 4)) (dC (.int 0))) (dOp gIx (dOp gIx (aD 1) (aD 3)) (dC (.int 1))))) (aW (dOp gLt (dOp gIx (dOp gIx (aD 1) (aD 3)) (dC (.int 0))) (dOp gIx (dOp gIx (aD 1) (aD 4)) (dC (.int 1))))))) (cT (dC (.bool false))) (cZ)))
        (fun _ δ=>∃ y,δ=[some (.d (.list ds)),some (.d (.list (L.map yD))),some (.d (.int (M:Int))),some (.d (.int (i:Int))),y]) (fun k=>¬ (ds[k]? = ds[i]?∧bk L k < ek L i∧bk L i < ek L k)) (gh 0 (i:Int))
        [some (.d (.list ds)),some (.d (.list (L.map yD))),some (.d (.int (M:Int))),some (.d (.int (i:Int))),y] ⟨y,rfl⟩ (by
         rintro k d δ hd'' _ ⟨y,rfl⟩
         obtain ⟨hk',rfl⟩:=pN hd''
         have hk':k < i:=by omega
         obtain ⟨w,hw,_⟩:=hp k hk'
         have b0:pAt ds (k:Int)=some (.int w):=by rw [jV];exact hw
         have b1:=ay (L:=L) (k:=k) (by omega)
         refine ⟨[some (.d (.list ds)),some (.d (.list (L.map yD))),some (.d (.int (M:Int))),some (.d (.int (i:Int))),some (.d (.int (k:Int)))],rfl,?_⟩
         rw [hw,hdi]
         by_cases d1:w=v
         ·by_cases d2:bk L k < ek L i
          ·by_cases d3:bk L i < ek L k
           ·refine .inr ⟨fun z=>z ⟨by rw [d1],d2,d3⟩,?_⟩
            simp only [EV,reduceIte,aq,au,aj,ao,aA,aB,aC,a0,b0,a1,b1,dTr d1,at0,at1,dTr d2,dTr d3]
           ·refine .inl ⟨fun z=>d3 z.2.2,[some (.d (.list ds)),some (.d (.list (L.map yD))),some (.d (.int (M:Int))),some (.d (.int (i:Int))),some (.d (.int (k:Int)))],?_,_,rfl⟩
            simp only [EV,reduceIte,aq,au,aj,ao,aA,aB,aC,a0,b0,a1,b1,dTr d1,at0,at1,dTr d2,dFa d3]
          ·refine .inl ⟨fun z=>d2 z.2.1,[some (.d (.list ds)),some (.d (.list (L.map yD))),some (.d (.int (M:Int))),some (.d (.int (i:Int))),some (.d (.int (k:Int)))],?_,_,rfl⟩
           simp only [EV,reduceIte,aq,au,aj,ao,aA,aB,aC,a0,b0,a1,b1,dTr d1,at0,at1,dFa d2]
         ·refine .inl ⟨fun z=>d1 (by have:=z.1;injection this with this;injection this),[some (.d (.list ds)),some (.d (.list (L.map yD))),some (.d (.int (M:Int))),some (.d (.int (i:Int))),some (.d (.int (k:Int)))],?_,_,rfl⟩
          simp only [EV,reduceIte,aq,au,aj,ao,aA,aB,aC,a0,b0,dFa d1])
       have ri:=BZ i (by omega)
       rw [m7,gD] at inner
       have fin:(hk L i=none∨∃ r:Nat,hk L i=some r∧(r:Int)=v)→(Pk L M ds i∧∃ δ',(bY (sIf (D3.tOr (D3.jW (aW (dCall cJ (aF (dOp gIx (aD 0) (aD 3)) (bh))))) (D3.tOr (aW (dOp gLt (dOp gIx (aD 0) (aD 3)) (dC (.int 0)))) (aW (dOp gGe (dOp gIx (aD 0) (aD 3)) (aD 2))))) (cT (dC (.bool false))) (cZ)) (bY (sIf (D3.iG (aW (dUn kE (dOp gIx (dOp gIx (aD 1) (aD 3)) (dC (.int 2))))) (aW (dOp gNe (dOp gIx (dOp gIx (aD 1) (aD 3)) (dC (.int 2))) (dOp gIx (aD 0) (aD 3))))) (cT (dC (.bool false))) (cZ)) (jD (jQ (aF (aD 3) (bh))) (gNl 4) (sIf (D3.iG (aW (dOp gEq (dOp gIx (aD 0) (aD 4)) (dOp gIx (aD 0) (aD 3)))) (D3.iG (aW (dOp gLt (dOp gIx (dOp gIx (aD 1) (aD 4)) (dC (.int 0))) (dOp gIx (dOp gIx (aD 1) (aD 3)) (dC (.int 1))))) (aW (dOp gLt (dOp gIx (dOp gIx (aD 1) (aD 3)) (dC (.int 0))) (dOp gIx (dOp gIx (aD 1) (aD 4)) (dC (.int 1))))))) (cT (dC (.bool false))) (cZ))))) [some (.d (.list ds)),some (.d (.list (L.map yD))),some (.d (.int (M:Int))),some (.d (.int (i:Int))),y]=some (.nx δ')∧∃ x y,δ'=[some (.d (.list ds)),some (.d (.list (L.map yD))),some (.d (.int (M:Int))),x,y])∨(¬ Pk L M ds i∧(bY (sIf (D3.tOr (D3.jW (aW (dCall cJ (aF (dOp gIx (aD 0) (aD 3)) (bh))))) (D3.tOr (aW (dOp gLt (dOp gIx (aD 0) (aD 3)) (dC (.int 0)))) (aW (dOp gGe (dOp gIx (aD 0) (aD 3)) (aD 2))))) (cT (dC (.bool false))) (cZ)) (bY (sIf (D3.iG (aW (dUn kE (dOp gIx (dOp gIx (aD 1) (aD 3)) (dC (.int 2))))) (aW (dOp gNe (dOp gIx (dOp gIx (aD 1) (aD 3)) (dC (.int 2))) (dOp gIx (aD 0) (aD 3))))) (cT (dC (.bool false))) (cZ)) (jD (jQ (aF (aD 3) (bh))) (gNl 4) (sIf (D3.iG (aW (dOp gEq (dOp gIx (aD 0) (aD 4)) (dOp gIx (aD 0) (aD 3)))) (D3.iG (aW (dOp gLt (dOp gIx (dOp gIx (aD 1) (aD 4)) (dC (.int 0))) (dOp gIx (dOp gIx (aD 1) (aD 3)) (dC (.int 1))))) (aW (dOp gLt (dOp gIx (dOp gIx (aD 1) (aD 3)) (dC (.int 0))) (dOp gIx (dOp gIx (aD 1) (aD 4)) (dC (.int 1))))))) (cT (dC (.bool false))) (cZ))))) [some (.d (.list ds)),some (.d (.list (L.map yD))),some (.d (.int (M:Int))),some (.d (.int (i:Int))),y]=some (.rt (.bool false))):=fun hh=>by
        rcases inner with ⟨δ',e1,⟨y',rfl⟩,e3⟩ | ⟨e1,k,k1,k2⟩
        ·refine .inl ⟨⟨v,hdi,by omega,by omega,fun r hr=>?_,e3⟩,[some (.d (.list ds)),some (.d (.list (L.map yD))),some (.d (.int (M:Int))),some (.d (.int (i:Int))),y'],?_,_,_,rfl⟩
         ·rcases hh with z | ⟨r',z,z2⟩
          ·rw [z] at hr;cases hr
          ·rw [z] at hr;cases hr;exact z2
         ·rcases hh with z | ⟨r',z,z2⟩
          ·have nn:isNone (hD none)=true:=rfl
           rw [z] at a1
           simp only [EV,reduceIte,aq,au,aj,ao,aA,aB,aC,a0,lwh,hI,dFa c1,dFa c2,a1,at2,nn,ri]
           exact e1
          ·have nn:isNone (hD (some r'))=false:=rfl
           rw [z] at a1
           have ne:gNe (hD (some r')) (.int v)=some (.bool false):=by
            show gNe (.int (r':Int)) (.int v)=_
            rw [BK,dTr z2];rfl
           simp only [EV,reduceIte,aq,au,aj,ao,aA,aB,aC,a0,lwh,hI,dFa c1,dFa c2,a1,at2,nn,ne,ri]
           exact e1
        ·refine .inr ⟨fun ⟨_,_,_,_,_,z⟩=>k2 (z k k1),?_⟩
         rcases hh with z | ⟨r',z,z2⟩
         ·have nn:isNone (hD none)=true:=rfl
          rw [z] at a1
          simp only [EV,reduceIte,aq,au,aj,ao,aA,aB,aC,a0,lwh,hI,dFa c1,dFa c2,a1,at2,nn,ri]
          exact e1
         ·have nn:isNone (hD (some r'))=false:=rfl
          rw [z] at a1
          have ne:gNe (hD (some r')) (.int v)=some (.bool false):=by
           show gNe (.int (r':Int)) (.int v)=_
           rw [BK,dTr z2];rfl
          simp only [EV,reduceIte,aq,au,aj,ao,aA,aB,aC,a0,lwh,hI,dFa c1,dFa c2,a1,at2,nn,ne,ri]
          exact e1
       cases hh:hk L i with
       | none=>exact fin (.inl hh)
       | some r =>
        by_cases c3:(r:Int)=v
        ·exact fin (.inr ⟨r,hh,c3⟩)
        ·refine .inr ⟨fun ⟨w,z,_,_,z2,_⟩=>?_,?_⟩
         ·rw [hdi] at z;cases z;exact c3 (z2 r hh)
         ·have nn:isNone (hD (some r))=false:=rfl
          rw [hh] at a1
          have ne:gNe (hD (some r)) (.int v)=some (.bool true):=by
           show gNe (.int (r:Int)) (.int v)=_
           rw [BK,dFa c3];rfl
          simp only [EV,reduceIte,aq,au,aj,ao,aA,aB,aC,a0,lwh,hI,dFa c1,dFa c2,a1,at2,nn,ne])
 have r0:=BZ L.length (by omega)
 rw [m7,gD] at F
 have eL:gNe (.int (ds.length:Int)) (.int (L.length:Int))=some (.bool false):=by rw [BK,hd];simp
 rcases F with ⟨δ',e,⟨x,y,rfl⟩,al⟩ | ⟨e,j,j1,j2⟩
 ·refine ⟨true,?_,⟨fun _=>al,fun _=>rfl⟩⟩
  unfold eU
  simp only [EV,reduceIte,aq,au,aj,ao,aA,aB,aC,isList,KZ,eL,r0]
  rw [e]
  simp only [EV,reduceIte,aq,au,aj,ao,aA,aB,aC]
 ·refine ⟨false,?_,⟨fun z=>(by cases z),fun z=>absurd (z j j1) j2⟩⟩
  unfold eU
  simp only [EV,reduceIte,aq,au,aj,ao,aA,aB,aC,isList,KZ,eL,r0]
  rw [e]
  simp only [EV,reduceIte,aq,au,aj,ao,aA,aB,aC]
theorem allB {α:Type} (f:α→Bool) (l:List α):vC [.list (l.map fun a=>PyData.bool (f a))]=some (.bool (l.all f)):=by
 have:jY (l.map fun a=>PyData.bool (f a))=some (l.map f):=by
  induction l with
  | nil=>rfl
  | cons a r ih=>rw [bJ,jY,ih];rfl
 show (jY (l.map fun a=>PyData.bool (f a))).map _=_
 rw [this,eN,List.all_map]
 rfl
theorem wh (d:D):fO [d]=some (.bool (isI d)):=by
 unfold fO Com.fO
 cases d <;> rfl
theorem P_ (a b:Int):oZ [.tuple [.int a,.int b]]=some (.bool true):=by
 have e:mG [.tuple [.int a,.int b]]=some (.bool true):=by
  have c:fJ (gNl 0) (D3.jX) (dCall fO (aF (aD 0) (bh))) (jM 1 [] [some (.d (.tuple [.int a,.int b]))]) [.int a,.int b]=some [.bool true,.bool true] :=
   wY (g:=(gNl 0)) (c:=(D3.jX)) (e:=(dCall fO (aF (aD 0) (bh)))) (δ:=jM 1 [] [some (.d (.tuple [.int a,.int b]))]) (fun i:Int=>PyData.int i) (fun _=>PyData.bool true) [a,b] fun d _=>⟨[some (.d (.int d))],rfl,rfl,by
    have:=wh (.int d)
    simp only [EV,reduceIte,aq,au,aj,ao,aA,aB,aC,this]
    rfl⟩
  have al:vC [.list [.bool true,.bool true]]=some (.bool true):=rfl
  have l2:(0 + 1 + 1:Nat) ≤ 100000:=by decide
  unfold mG
  simp only [EV,reduceIte,aq,au,aj,ao,aA,aB,aC,XJ,R9,c,al,l2]
 have it:D3.isT "tuple" (tyD (.tuple [.int a,.int b]))=true:=rfl
 have e2:gEq (.int ((0 + 1 + 1:Nat):Int)) (.int 2)=some (.bool true):=rfl
 unfold oZ lY
 simp only [EV,reduceIte,aq,au,aj,ao,aA,aB,aC,it,e2,e]
theorem rF (a b:Int) (d:D):dh [.tuple [.int a,.int b,d]]=some (.tuple [.int a,.int b]):=by
 unfold dh Com.dh
 simp only [EV,reduceIte,aq,au,aj,ao,aA,aB,aC,at0,at1,fli,zl2]
theorem K1 (a b x:Int):jN [.tuple [.int a,.int b],.int x]=some (.bool (decide (a ≤ x) && decide (x < b))):=by
 unfold jN Com.jN
 by_cases c:a ≤ x
 ·simp only [EV,reduceIte,aq,au,aj,ao,aA,aB,aC,at0,at1,dTr c]
  simp
 ·simp only [EV,reduceIte,aq,au,aj,ao,aA,aB,aC,at0,at1,dFa c]
  simp
theorem D_ {a b:Int} (h:0 ≤ a∧a < b∧b ≤ 400):lB [.tuple [.int a,.int b]]=some (.bool true):=by
 unfold lB
 simp only [EV,reduceIte,aq,au,aj,ao,aA,aB,aC,P_,at0,at1,dTr h.1,dTr h.2.1,dTr h.2.2]
theorem Qa {L:List Ty} {M:Nat} {now:Int} (ok:TO0 L M now) {k:Nat} (h:k < L.length):lK [.tuple [.int (bk L k),.int (ek L k),hD (hk L k)],.int (M:Int),.int now]=some (.bool true):=by
 obtain ⟨⟨o1,o2,o3⟩,o4,o5⟩:=ok.ok _ (jO h)
 have o1:bk L k < ek L k:=o1
 have st:=D_ (a:=bk L k) (b:=ek L k) ⟨o2,o1,o3⟩
 have it:∀ l,D3.isT "tuple" (tyD (.tuple l))=true:=fun _=>rfl
 have e3:gNe (.int ((0 + 1 + 1 + 1:Nat):Int)) (.int 3)=some (.bool false):=rfl
 cases hh:hk L k with
 | none =>
  have o5:now ≤ bk L k:=o5 hh
  have nn:isNone (hD none)=true:=rfl
  unfold lK
  simp only [EV,reduceIte,aq,au,aj,ao,aA,aB,aC,it,e3,rF,st,at0,at2,nn,dTr o5]
 | some r =>
  obtain ⟨q1,q2,q3⟩:=o4 r hh
  have q2:bk L k ≤ now:=q2
  have q3:now < ek L k:=q3
  have nn:isNone (hD (some r))=false:=rfl
  have hw:fO [hD (some r)]=some (.bool true):=wh (.int (r:Int))
  have hv:hD (some r) = .int (r:Int):=rfl
  have r0:(0:Int) ≤ (r:Int):=by omega
  have r1:(r:Int) < (M:Int):=by omega
  unfold lK
  simp only [EV,reduceIte,aq,au,aj,ao,aA,aB,aC,it,e3,rF,st,at0,at2,nn,hw]
  rw [hv]
  simp only [EV,reduceIte,aq,au,aj,ao,aA,aB,aC,dTr r0,dTr r1,rF,K1,dTr q2,dTr q3]
def qBP (i:Nat) (x y:Option D) (δ:DS):Option Oc:=match x,y with
 | some x,some y=>(GZ x).bind fun S=>match y with
  | .int k=>if S.length < 1000000 then some (.nx (δ.set i (some (.d (dsB (vQ S k)))))) else none
  | _=>none
 | _,_=>none
theorem Uu {i:Nat} {fk:FE} {δ:DS}:Bq i fk δ=qBP i (aD i δ) (fk δ) δ:=by
 unfold Bq qBP
 cases aD i δ with
 | none=>rfl
 | some x=>cases fk δ <;> rfl
theorem K3 {i:Nat} {S:List Int} {k:Int} {δ:DS} (h:S.length < 1000000):qBP i (some (dsB S)) (some (.int k)) δ=some (.nx (δ.set i (some (.d (dsB (vQ S k)))))):=by
 unfold qBP
 dsimp only
 rw [zA,aJ,if_pos h]
theorem Xa {S:List Int} {k:Int}:wV (.int k) (dsB S)=some (.bool (decide (k ∈ S))):=by
 unfold wV
 rw [zA]
 rfl
theorem Uv {S:List Int}:wV .none (dsB S)=some (.bool false):=by
 unfold wV
 rw [zA]
 rfl
theorem K4 {L:List Ty} {M:Nat} {now:Int} (ok:TO0 L M now):jT [.list (L.map yD),.int (M:Int),.int now]=some .none:=by
 have l24:=ok.len
 have en:lF (L.map yD)=(aH L.length).map fun p:Nat=>PyData.tuple [.int (p:Int),.tuple [.int (bk L p),.int (ek L p),hD (hk L p)]]:=by
  rw [pO,DY]
  rfl
 obtain ⟨δ',e,S,x,y,_,_,rfl⟩:=iK (g:=(gTn 2 (cU (gNl 4) (cU (gNl 5) (lg))))) (b:=(bY (sIf (D3.jW (aW (dCall lK (aF (aD 5) (aF (aD 1) (aF (aD 2) (bh))))))) ((fun _=>none)) (cZ)) (bY (sIf (aW (dOp wV (dOp gIx (aD 5) (dC (.int 2))) (aD 3))) ((fun _=>none)) (cZ)) (sIf (aW (dUn kE (dOp gIx (aD 5) (dC (.int 2))))) (Bq 3 (dOp gIx (aD 5) (dC (.int 2)))) (cZ)))))
  (fun i δ=>∃ (S:List Int) (x y:Option U),S.length ≤ i∧(∀ s ∈ S,∃ (j:Nat) (r:Nat),j < i∧j < L.length∧hk L j=some r∧s=(r:Int))∧δ=[some (.d (.list (L.map yD))),some (.d (.int (M:Int))),some (.d (.int now)),some (.d (dsB S)),x,y]) ((aH L.length).map fun p:Nat=>PyData.tuple [.int (p:Int),.tuple [.int (bk L p),.int (ek L p),hD (hk L p)]])
  [some (.d (.list (L.map yD))),some (.d (.int (M:Int))),some (.d (.int now)),some (.d (.dict [])),none,none] ⟨[],none,none,aZ _,fun _ h=>(by cases h),rfl⟩ (by
   rintro i d δ hd ⟨S,x,y,s1,s2,rfl⟩
   rw [aQ] at hd
   by_cases hi:i < L.length
   case neg=>rw [bf (by simpa using hi)] at hd;cases hd
   rw [bZ hi] at hd
   cases hd
   have st:=Qa ok hi
   cases hh:hk L i with
   | none =>
    rw [hh] at st
    have nn:isNone (hD none)=true:=rfl
    have nb:wV (hD none) (dsB S)=some (.bool false):=Uv
    refine ⟨_,[some (.d (.list (L.map yD))),some (.d (.int (M:Int))),some (.d (.int now)),some (.d (dsB S)),some (.d (.int (i:Int))),some (.d (.tuple [.int (bk L i),.int (ek L i),hD none]))],rfl,.inl ?_,S,_,_,by omega,fun s hs=>?_,rfl⟩
    ·simp only [EV,reduceIte,aq,au,aj,ao,aA,aB,aC,hh,st,at2,nb,nn]
    ·obtain ⟨j,r,j1,j2⟩:=s2 s hs
     exact ⟨j,r,by omega,j2⟩
   | some r =>
    rw [hh] at st
    have nn:isNone (hD (some r))=false:=rfl
    have ns:¬ (r:Int) ∈ S:=fun z=>by
     obtain ⟨j,r',j1,j2,j3,j4⟩:=s2 _ z
     have:r'=r:=by omega
     subst this
     have:=wF ok.nd j2 hi j3 hh
     omega
    have nb:wV (hD (some r)) (dsB S)=some (.bool false):=by
     show wV (.int (r:Int)) _=_
     rw [Xa,dFa ns]
    have pb:∀ δ:DS,qBP 3 (some (dsB S)) (some (hD (some r))) δ=some (.nx (δ.set 3 (some (.d (dsB (vQ S (r:Int))))))):=fun δ=>K3 (by omega)
    have ep:vQ S (r:Int)=S++[(r:Int)]:=by unfold vQ;rw [if_neg ns]
    refine ⟨_,[some (.d (.list (L.map yD))),some (.d (.int (M:Int))),some (.d (.int now)),some (.d (dsB (vQ S (r:Int)))),some (.d (.int (i:Int))),some (.d (.tuple [.int (bk L i),.int (ek L i),hD (some r)]))],rfl,.inl ?_,vQ S (r:Int),_,_,?_,fun s hs=>?_,rfl⟩
    ·simp only [EV,reduceIte,aq,au,aj,ao,aA,aB,aC,hh,st,at2,nb,nn,Uu,pb]
    ·rw [ep,bH];simp;omega
    ·rw [ep] at hs
     rcases aX.mp hs with w | w
     ·obtain ⟨j,r,j1,j2⟩:=s2 s w
      exact ⟨j,r,by omega,j2⟩
     ·exact ⟨i,r,by omega,hi,hh,aK.mp w⟩)
 unfold jT
 simp only [EV,reduceIte,aq,au,aj,ao,aA,aB,aC,en]
 rw [e]
 simp only [EV,reduceIte,aq,au,aj,ao,aA,aB,aC]
theorem Ea {L:List Ty} (hl:L.length < 64):∃ P:List Nat,jq [.list (L.map yD)]=some (.list (P.map fun i:Nat=>PyData.int (i:Int)))∧P.Perm (opn L)∧P.Pairwise fun a b=>bk L a ≤ bk L b:=by
 have en:lF (L.map yD)=(aH L.length).map fun p:Nat=>PyData.tuple [.int (p:Int),yD (tAt L p)]:=by rw [pO];exact DY _
 have C1:fJ (gTn 2 (cU (gNl 0) (cU (gNl 1) (lg)))) (aW (dUn nA (dOp gIx (aD 1) (dC (.int 2))))) (dX (aD 0)) (jM 2 [] [some (.d (.list (L.map yD))),none]) (lF (L.map yD))=some ((opn L).map fun p:Nat=>PyData.int (p:Int)):=by
  rw [en]
  exact zN (fun p:Nat=>PyData.tuple [.int (p:Int),yD (tAt L p)]) (fun p=>!(tAt L p).2.2.isSome) (fun p:Nat=>PyData.int (p:Int)) (aH L.length) fun p _=>⟨[some (.d (.int (p:Int))),some (.d (yD (tAt L p)))],rfl,by
   have:=rZ (tAt L p).2.2
   unfold yD
   simp only [EV,reduceIte,aq,au,aj,ao,aA,aB,aC,at2,this],fun _=>by simp only [EV,reduceIte,aq,au,aj,ao,aA,aB,aC,fli]⟩
 have el:(lF (L.map yD)).length ≤ 100000:=by rw [en,aG,bB];omega
 have ml:∀ p ∈ opn L,p < L.length:=fun p hp=>aY.mp (bR.mp hp).1
 have lo:(opn L).length ≤ L.length:=by
  have:=cW (fun p=>!(tAt L p).2.2.isSome) (aH L.length)
  rwa [bB] at this
 have C2:=W8 (L:=L) (some (.d (.list ((opn L).map fun p:Nat=>PyData.int (p:Int))))) (opn L) ml
 obtain ⟨P,eP,pP,sP⟩:=wD (opn L) (bk L)
 refine ⟨P,?_,pP,sP⟩
 have V:=Hi (l:=(opn L).map fun p:Nat=>PyData.int (p:Int)) (by rw [aG];omega) (gG _ (fun _=>rfl) _) C2 (rC _)
 unfold jq
 simp only [EV,reduceIte,aq,au,aj,ao,aA,aB,aC,el,C1,Oo]
 rw [V]
 simp only [EV,reduceIte,aq,au,aj,ao,aA,aB,aC]
 rw [← eP]
 rfl
theorem Eb {M:Nat} {fs:Nat→Int} {x:Int} (hM:M ≤ 1000) (h:∃ r,r < M∧fs r ≤ x):∃ r:Nat,r < M∧fs r ≤ x∧gU [.list ((aH M).map fun r:Nat=>PyData.int (fs r)),.int x]=some (.int (r:Int)):=by
 have en:lF ((aH M).map fun r:Nat=>PyData.int (fs r))=(aH M).map fun r:Nat=>PyData.tuple [.int (r:Int),.int (fs r)]:=by
  unfold lF
  apply dY
  intro i
  rw [jC,aQ,aQ]
  by_cases hi:i < M
  ·rw [bZ hi];rfl
  ·rw [bf (by simpa using hi)];rfl
 have C:fJ (gTn 2 (cU (gNl 0) (cU (gNl 1) (lg)))) (aW (dOp gLe (aD 1) (aD 2))) (dX (aD 0)) (jM 2 [1] [some (.d (.list ((aH M).map fun r:Nat=>PyData.int (fs r)))),some (.d (.int x))]) (lF ((aH M).map fun r:Nat=>PyData.int (fs r)))=some (((aH M).filter fun r=>decide (fs r ≤ x)).map fun r:Nat=>PyData.int (r:Int)):=by
  rw [en]
  exact zN (fun r:Nat=>PyData.tuple [.int (r:Int),.int (fs r)]) _ (fun r:Nat=>PyData.int (r:Int)) (aH M) fun r hr=>⟨[some (.d (.int (r:Int))),some (.d (.int (fs r))),some (.d (.int x))],rfl,by simp only [EV,reduceIte,aq,au,aj,ao,aA,aB,aC],fun _=>by simp only [EV,reduceIte,aq,au,aj,ao,aA,aB,aC]⟩
 have el:(lF ((aH M).map fun r:Nat=>PyData.int (fs r))).length ≤ 100000:=by rw [en,aG,bB];omega
 cases e:(aH M).filter fun r=>decide (fs r ≤ x) with
 | nil =>
  obtain ⟨r,h1,h2⟩:=h
  have:r ∈ (aH M).filter fun r=>decide (fs r ≤ x):=bR.mpr ⟨aY.mpr h1,dTr h2⟩
  rw [e] at this
  cases this
 | cons r l =>
  have hr:r ∈ (aH M).filter fun r=>decide (fs r ≤ x):=by rw [e];exact aM
  obtain ⟨h1,h2⟩:=bR.mp hr
  refine ⟨r,aY.mp h1,of_decide_eq_true h2,?_⟩
  rw [e,bJ] at C
  show Com.gU _=_
  unfold Com.gU
  simp only [EV,reduceIte,aq,au,aj,ao,aA,aB,aC,el,C,at0]
theorem Qc (n:Nat) (d:D):bG n d=(aH n).map fun _=>d:=by
 rw [List.map_const',bB]
theorem Xb {d:D} {k:Int} (h:k ≤ 1000000) (h' : -(2 ^ 63) ≤ k):Jj (.list [d]) (.int k)=some (.list (bG k.toNat d)):=by
 show (if [d].length * k.toNat ≤ 1000000∧-(2 ^ 63) ≤ k∧k < 2 ^ 63 then some (PyData.list (bG k.toNat [d]).flatten) else none)=_
 rw [if_pos ⟨by simp only [bQ,jo];omega,h',by omega⟩]
 congr 2
 generalize k.toNat=n
 induction n with
 | zero=>rfl
 | succ n ih=>rw [cY,gC,ih,cY];rfl
theorem B_ {g:FG} {b:FS} (Inv:DS→Prop) (p:Int→Bool):∀ (l:List Int) (δ:DS),Inv δ→(∀ x ∈ l,∀ δ,Inv δ→∃ δ1,g (.int x) δ=some δ1∧((p x=true∧b δ1=some (.rt (.int x)))∨(p x=false∧∃ δ',b δ1=some (.nx δ')∧Inv δ'))) →
 (∃ x,l.find? p=some x∧jB g b (l.map .int) δ=some (.rt (.int x)))∨(l.find? p=none∧∃ δ',jB g b (l.map .int) δ=some (.nx δ')∧Inv δ')
 | [],δ,h,_=>.inr ⟨rfl,δ,rfl,h⟩
 | x :: r,δ,h,hs=>by
  obtain ⟨δ1,e1,q⟩:=hs x aM δ h
  rcases q with ⟨hp,e2⟩ | ⟨hp,δ',e2,h'⟩
  ·refine .inl ⟨x,by rw [gH,hp],?_⟩
   rw [bJ,jB,e1,aJ,e2]
   rfl
  ·have ih:=B_ Inv p r δ' h' fun y hy=>hs y (aO _ hy)
   have ef:(x :: r).find? p=r.find? p:=by rw [gH,hp]
   have eg:jB g b ((x :: r).map .int) δ=jB g b (r.map .int) δ':=by
    rw [bJ,jB,e1,aJ,e2]
    rfl
   rw [ef,eg]
   exact ih
def outI:Option Int→D
 | none=>.none
 | some x=>.int x
def pM (L:List Ty) (M:Nat) (x:Int):Bool:=decide ((M:Int) < (je L x:Int))
def nS (L:List Ty):List Sh:=L.map fun s=>(s.1,s.2.1)
theorem K5 (L:List Ty) (x:Int):cnt (nS L) x=je L x:=by
 unfold cnt je nS
 rw [pW,aG]
 rfl
def LT (L:List Ty) (now:Int):List Int:=(L.map (·.1)).filter fun x=>decide (now < x)
theorem Qd {L:List Ty} {M:Nat} {now:Int} (hl:L.length ≤ 24):lA [.list ((nS L).map stD),.int (M:Int),.int now]=some (outI ((now :: oO (LT L now)).find? (pM L M))):=by
 have ln:(nS L).length=L.length:=aG _
 have fs:=BL (ss:=nS L) (by omega)
 have fe:(nS L).map (·.1)=L.map (·.1):=by unfold nS;rw [dU];rfl
 rw [fe] at fs
 have cf:fJ (gNl 0) (aW (dOp gGt (aD 0) (aD 1))) (dX (aD 0)) [none,some (.d (.int now))] ((L.map (·.1)).map .int)=some ((LT L now).map .int):=by
  unfold LT
  generalize L.map (·.1)=l
  induction l with
  | nil=>rfl
  | cons x r ih =>
   rw [bJ,fJ]
   by_cases c:now < x
   ·simp only [EV,reduceIte,aq,au,aj,ao,aA,aB,aC,dTr c,aJ,ih]
    rw [dJ (by simpa using c)]
    rfl
   ·simp only [EV,reduceIte,aq,au,aj,ao,aA,aB,aC,dFa c,aJ,ih]
    rw [dM (by simpa using c),if_neg (by decide)]
 have ll:(LT L now).length ≤ 60:=bM (cW _ _) (by rw [aG];omega)
 have gs:sV [.list ((LT L now).map .int)]=some (.list ((oO (LT L now)).map .int)):=by
  unfold sV
  simp only
  rw [rC,aJ,if_pos (by omega)]
 have c1:nR (.list [.int now]) (.list ((oO (LT L now)).map .int))=some (.list (.int now :: (oO (LT L now)).map .int)):=by
  rw [yG,if_pos (by rw [aG,(iZ _).length_eq];simp;omega)]
  rfl
 have ca:∀ a c d e f:Option U,jM 1 [2] [a,c,d,e,f]=[none,d]:=fun _ _ _ _ _=>rfl
 show Com.lA _=_
 unfold Com.lA
 simp only [EV,reduceIte,aq,au,aj,ao,aA,aB,aC,fs,lMp,show L.length ≤ 100000 by omega,ca,cf,gs,zl1,c1]
 rcases B_ (g:=gNl 4) (b:=(sIf (aW (dOp gGt (dCall Com.iR (aF (aD 0) (aF (aD 4) (bh)))) (aD 1))) (cT (dX (aD 4))) (cZ))) (fun δ=>∃ y,δ=[some (.d (.list ((nS L).map stD))),some (.d (.int (M:Int))),some (.d (.int now)),some (.d (.list ((LT L now).map .int))),y]) (pM L M) (now :: oO (LT L now))
  [some (.d (.list ((nS L).map stD))),some (.d (.int (M:Int))),some (.d (.int now)),some (.d (.list ((LT L now).map .int))),none] ⟨none,rfl⟩ (by
   rintro x hx δ ⟨y,rfl⟩
   refine ⟨_,rfl,?_⟩
   have cs:=wu (ss:=nS L) (by omega) x
   rw [K5] at cs
   cases z:pM L M x with
   | true =>
    have z:decide ((M:Int) < (je L x:Int))=true:=z
    refine .inl ⟨rfl,?_⟩
    simp only [EV,reduceIte,aq,au,aj,ao,aA,aB,aC,cs,z]
   | false =>
    have z:decide ((M:Int) < (je L x:Int))=false:=z
    refine .inr ⟨rfl,_,?_,some (.d (.int x)),rfl⟩
    simp only [EV,reduceIte,aq,au,aj,ao,aA,aB,aC,cs,z]) with ⟨x,e1,e2⟩ | ⟨e1,δ',e2,y,rfl⟩
 ·rw [bJ] at e2
  rw [e2,e1]
  simp only [EV,reduceIte,aq,au,aj,ao,aA,aB,aC]
  rfl
 ·rw [bJ] at e2
  rw [e2,e1]
  simp only [EV,reduceIte,aq,au,aj,ao,aA,aB,aC]
  rfl
def Lq (P:List Nat) (f:Nat→Int):List Nat:=if P.length ≤ 1 then P else (mD P.length fun i j=>decide ((P.map f).getD i 0 < (P.map f).getD j 0)).map fun i=>P.getD i 0
theorem K6 {P:List Nat} {f:Nat→Int} {i:Nat} (hi:i < P.length):(P.map f).getD i 0=f (P.getD i 0):=by
 rw [aP,aQ,aP,aN hi]
 rfl
theorem K7 {P:List Nat} {g:Nat→D} {i:Nat} (hi:i < P.length):(P.map g).getD i .none=g (P.getD i 0):=by
 rw [aP,aQ,aP,aN hi]
 rfl
theorem K8 (P:List Nat) (f:Nat→Int):pZ (P.map fun p:Nat=>PyData.int (p:Int)) (P.map f)=(Lq P f).map fun p:Nat=>PyData.int (p:Int):=by
 unfold pZ Lq
 rw [aG]
 by_cases h1:P.length ≤ 1
 ·rw [if_pos h1,if_pos h1]
 ·rw [if_neg h1,if_neg h1,dU]
  apply gO
  intro i hi
  have hi':=aY.mp ((jc (n:=P.length) (by omega) _).mem_iff.mp hi)
  rw [K7 hi']
  rfl
theorem Uw {P:List Nat} (inc:P.Pairwise (· < ·)) {i j:Nat} (hi:i < P.length) (hj:j < P.length) (h:P.getD i 0 < P.getD j 0):i < j:=by
 rcases fW i j with z | z
 ·exact z
 ·rcases Nat.lt_or_eq_of_le z with y | y
  ·have:=dB.mp inc j i hj hi y
   rw [aP,aP,aN hi,aN hj] at h
   simp only [Option.getD_some] at h
   omega
  ·subst y;omega
theorem K9 {P:List Nat} {f:Nat→Int} (inc:P.Pairwise (· < ·)) (h64:P.length < 64):vN [.list (P.map fun k:Nat=>PyData.tuple [.int (f k),.int (k:Int)])]=some (.list ((Lq P f).map fun k:Nat=>PyData.tuple [.int (f k),.int (k:Int)])):=by
 cases P with
 | nil=>rfl
 | cons p0 P0 =>
 have ei:jE ((p0 :: P0).map fun k:Nat=>PyData.tuple [.int (f k),.int (k:Int)])=none:=rfl
 obtain ⟨P,hP⟩:∃ P,P=p0 :: P0:=⟨_,rfl⟩
 have p1:1 ≤ P.length:=by rw [hP];simp
 rw [← hP] at ei inc h64 ⊢
 have ep:=QW f (fun k:Nat=>(k:Int)) P
 have len:(P.map fun k:Nat=>PyData.tuple [.int (f k),.int (k:Int)]).length=P.length:=aG _
 unfold vN
 dsimp only
 rw [ei]
 dsimp only
 rw [ep,aJ,len,if_pos h64]
 unfold Lq
 by_cases h1:P.length=1
 ·rw [if_pos h1,if_pos (by omega)]
 ·rw [if_neg h1,if_neg (by omega)]
  have e:mD P.length (fun i j=>decide ((P.map f).getD i 0 < (P.map f).getD j 0))=mD P.length (ltP (P.map fun k:Nat=>(f k,(k:Int)))):=by
   refine DX BX p1 (jc (by omega) _) ?_
   refine List.Pairwise.imp_of_mem ?_ (su (KN _) p1)
   intro i j hi hj hr
   have hi':=aY.mp ((jc (n:=P.length) (by omega) _).mem_iff.mp hi)
   have hj':=aY.mp ((jc (n:=P.length) (by omega) _).mem_iff.mp hj)
   have gq:∀ a,a < P.length→(P.map fun k:Nat=>(f k,(k:Int))).getD a (0,0)=(f (P.getD a 0),((P.getD a 0:Nat):Int)):=fun a ha=>by
    rw [aP,aQ,aP,aN ha]
    rfl
   have key:∀ a b,a < P.length→b < P.length→ltP (P.map fun k:Nat=>(f k,(k:Int))) a b=if f (P.getD a 0)=f (P.getD b 0) then decide (((P.getD a 0:Nat):Int) < ((P.getD b 0:Nat):Int)) else decide (f (P.getD a 0) < f (P.getD b 0)):=fun a b ha hb=>by
    unfold ltP wU
    rw [gq a ha,gq b hb]
   have ki:(P.map f).getD i 0=f (P.getD i 0):=K6 hi'
   have kj:(P.map f).getD j 0=f (P.getD j 0):=K6 hj'
   show decide ((P.map f).getD i 0 < (P.map f).getD j 0)=true∨(decide ((P.map f).getD j 0 < (P.map f).getD i 0)=false∧i < j)
   rw [ki,kj]
   rcases hr with z | ⟨z,zz⟩
   ·rw [key i j hi' hj'] at z
    split at z
    ·next w =>
     have:=of_decide_eq_true z
     exact .inr ⟨dFa (by omega),Uw inc hi' hj' (by omega)⟩
    ·exact .inl z
   ·rw [key j i hj' hi'] at z
    split at z
    ·next w=>exact .inr ⟨dFa (by omega),zz⟩
    ·exact .inr ⟨z,zz⟩
  rw [e]
  congr 2
  rw [dU]
  apply gO
  intro i hi
  have hi':=aY.mp ((jc (n:=P.length) (by omega) _).mem_iff.mp hi)
  rw [K7 hi']
  rfl
theorem Yp {L:List Ty} {k:Nat} (h:L.length ≤ k):hk L k=none:=by
 unfold hk tAt
 rw [aP,bf h]
 rfl
section
variable {L:List Ty} {M:Nat} {now:Int}
theorem Ec (ok:TO0 L M now) (hM:M ≤ 12):∃ f:Nat→Int,cO [.list (L.map yD),.int (M:Int),.int now]=some (.list ((aH M).map fun r:Nat=>PyData.int (f r)))∧∀ r,r < M→(∃ k,k < L.length∧hk L k=some r∧f r=ek L k)∨((∀ k,k < L.length→hk L k ≠ some r)∧f r=now):=by
 have l24:=ok.len
 have rp:Jj (.list [.int now]) (.int (M:Int))=some (.list ((aH M).map fun r:Nat=>PyData.int ((fun _=>now) r))):=by
  rw [Xb (by omega) (by omega),gD,Qc]
 have mt:L.map yD=(aH L.length).map fun k=>PyData.tuple [.int (bk L k),.int (ek L k),hD (hk L k)]:=by rw [pO];rfl
 obtain ⟨δ',e,f,u,hf,rfl⟩:=iK (g:=(gNl 4)) (b:=(sIf (aW (dUn kE (dOp gIx (aD 4) (dC (.int 2))))) (uF 3 (dOp gIx (aD 4) (dC (.int 2))) (dOp gIx (aD 4) (dC (.int 1)))) (cZ)))
  (fun i δ=>∃ (f:Nat→Int) (u:Option U),(∀ r,r < M→(∃ k,k < i∧hk L k=some r∧f r=ek L k)∨((∀ k,k < i→hk L k ≠ some r)∧f r=now))∧δ=[some (.d (.list (L.map yD))),some (.d (.int (M:Int))),some (.d (.int now)),some (.d (.list ((aH M).map fun r:Nat=>PyData.int (f r)))),u]) (L.map yD)
  [some (.d (.list (L.map yD))),some (.d (.int (M:Int))),some (.d (.int now)),some (.d (.list ((aH M).map fun r:Nat=>PyData.int ((fun _=>now) r)))),none] ⟨fun _=>now,none,fun r _=>.inr ⟨fun k hk'=>absurd hk' (mL _),rfl⟩,rfl⟩ (by
   rintro i d δ hd ⟨f,u,hf,rfl⟩
   have hi:i < L.length:=by
    have:=(cP.mp hd).1
    rwa [aG] at this
   rw [mt,aQ,bZ hi] at hd
   cases hd
   cases hh:hk L i with
   | none =>
    have nn:isNone (hD none)=true:=rfl
    refine ⟨_,[some (.d (.list (L.map yD))),some (.d (.int (M:Int))),some (.d (.int now)),some (.d (.list ((aH M).map fun r:Nat=>PyData.int (f r)))),some (.d (.tuple [.int (bk L i),.int (ek L i),hD none]))],rfl,.inl ?_,f,_,fun r hr=>?_,rfl⟩
    ·simp only [EV,reduceIte,aq,au,aj,ao,aA,aB,aC,hh,at2,nn,bL]
    ·rcases hf r hr with ⟨k,k1,k2⟩ | ⟨k1,k2⟩
     ·exact .inl ⟨k,by omega,k2⟩
     ·refine .inr ⟨fun k hk'=>?_,k2⟩
      by_cases z:k=i
      ·rw [z,hh];exact fun w=>nomatch w
      ·exact k1 k (by omega)
   | some r0 =>
    have nn:isNone (hD (some r0))=false:=rfl
    have hr0:r0 < M:=((ok.ok _ (jO hi)).2.1 r0 hh).1
    have hv:hD (some r0) = .int (r0:Int):=rfl
    have p3:=Kz (l:=(aH M).map fun r:Nat=>PyData.int (f r)) (by rw [aG,bB]) hr0
    have st:=BW (n:=M) (c:=r0) (d:=.int (ek L i)) (fun r:Nat=>PyData.int (f r))
    refine ⟨_,[some (.d (.list (L.map yD))),some (.d (.int (M:Int))),some (.d (.int now)),some (.d (.list (((aH M).map fun r:Nat=>PyData.int (f r)).set r0 (.int (ek L i))))),some (.d (.tuple [.int (bk L i),.int (ek L i),hD (some r0)]))],rfl,.inl ?_,fun r=>if r=r0 then ek L i else f r,some (.d (.tuple [.int (bk L i),.int (ek L i),hD (some r0)])),fun r hr=>?_,?_⟩
    ·generalize (aH M).map (fun r:Nat=>PyData.int (f r))=FF at *
     simp only [EV,reduceIte,aq,au,aj,ao,aA,aB,aC,hh,hv,at1,at2,cC,p3,aJ]
    ·by_cases z:r=r0
     ·exact .inl ⟨i,by omega,by rw [z];exact hh,by show (if r=r0 then ek L i else f r)=_;rw [if_pos z]⟩
     ·show (∃ k,k < i + 1∧hk L k=some r∧(if r=r0 then ek L i else f r)=ek L k)∨((∀ k,k < i + 1→hk L k ≠ some r)∧(if r=r0 then ek L i else f r)=now)
      rw [if_neg z]
      rcases hf r hr with ⟨k,k1,k2⟩ | ⟨k1,k2⟩
      ·exact .inl ⟨k,by omega,k2⟩
      ·refine .inr ⟨fun k hk'=>?_,k2⟩
       by_cases w:k=i
       ·rw [w,hh]
        intro y
        injection y with y
        exact z y.symm
       ·exact k1 k (by omega)
    ·rw [st]
     have:(fun x:Nat=>if x=r0 then PyData.int (ek L i) else PyData.int (f x))=fun x=>PyData.int (if x=r0 then ek L i else f x):=by
      funext x
      by_cases z:x=r0
      ·rw [if_pos z,if_pos z]
      ·rw [if_neg z,if_neg z]
     rw [this])
 rw [aG] at hf
 refine ⟨f,?_,hf⟩
 have fl:flats ((aH M).map fun r:Nat=>PyData.int (f r))=true:=gG _ (fun _=>rfl) _
 show Com.cO _=_
 unfold Com.cO
 simp only [EV,reduceIte,aq,au,aj,ao,aA,aB,aC,zl1,rp]
 rw [e]
 simp only [EV,reduceIte,aq,au,aj,ao,aA,aB,aC,nG,fl]
def hel (L:List Ty):List Nat:=(aH L.length).filter fun k=>(hk L k).isSome
theorem rG {k:Nat}:k ∈ hel L↔k < L.length∧(hk L k).isSome=true:=by
 unfold hel
 rw [bR,aY]
end
theorem TO0.of {L:List Ty} {M:Nat} {now:Int} (ok:TOk L M now):TO0 L M now:=⟨ok.len,fun s hs=>⟨⟨(ok.ok s hs).1,(ok.bd s hs).1,(ok.bd s hs).2⟩,(ok.ok s hs).2⟩,ok.nd⟩
theorem Ca {L:List Ty} {M:Nat} {now:Int} (ok:TOk L M now):je L now ≤ M:=by
 cases e:L.filter (hol now) with
 | nil=>unfold je;rw [e];exact eY _
 | cons s r =>
  have hs:s ∈ L.filter (hol now):=by rw [e];exact aM
  obtain ⟨h1,h2⟩:=bR.mp hs
  have:=ok.full s h1
  unfold hol at h2
  rw [aL,decide_eq_true_iff] at h2
  rwa [if_neg (by omega)] at this
theorem FP {L:List Ty} {M:Nat} {now:Int} (ok:TOk L M now) {s:Ty} (hs:s ∈ L) (h:now ≤ s.1):je L s.1 ≤ M:=by
 have:=ok.full s hs
 by_cases z:s.1 > now
 ·rwa [if_pos z] at this
 ·rw [if_neg z] at this
  have:s.1=now:=by omega
  rw [this]
  exact Ca ok
theorem FQ {L:List Ty} {g:FG} {c:FT} {e:FE} (hg:g=gNl 0) (hc:c=D3.jX) (he:e=dCall Com.dh (aF (aD 0) (bh))) (δ0:DS):fJ g c e (jM 1 [] δ0) (L.map yD)=some ((nS L).map stD):=by
 subst hg hc he
 unfold nS
 rw [dU]
 exact wY yD _ L fun s _=>⟨[some (.d (yD s))],rfl,rfl,by
  obtain ⟨a,b,c⟩:=s
  have:Com.dh [.tuple [.int a,.int b,hD c]]=_:=rF a b (hD c)
  unfold yD
  simp only [EV,reduceIte,aq,au,aj,ao,aA,aB,aC,this]
  rfl⟩
theorem Qe {L:List Ty} {M:Nat} {now:Int} (ok:TOk L M now):iM [.list (L.map yD),.int (M:Int),.int now]=some .none:=by
 have l24:=ok.len
 have len:(L.map yD).length ≤ 100000:=by rw [aG];omega
 have ff:=Qd (L:=L) (M:=M) (now:=now) l24
 have no:(now :: oO (LT L now)).find? (pM L M)=none:=rK.mpr fun x hx=>by
  have:je L x ≤ M:=by
   rcases bF.mp hx with rfl | z
   ·exact Ca ok
   ·obtain ⟨z1,z2⟩:=bR.mp ((iZ _).mem_iff.mp z)
    obtain ⟨s,s1,rfl⟩:=cQ.mp z1
    have z2:=of_decide_eq_true z2
    exact FP ok s1 (by omega)
  unfold pM
  rw [decide_eq_true_iff]
  omega
 rw [no] at ff
 have ff:Com.lA [.list ((nS L).map stD),.int (M:Int),.int now]=some .none:=ff
 have C:=fun δ0=>FQ (L:=L) (g:=(gNl 0)) (c:=(D3.jX)) (e:=(dCall dh (aF (aD 0) (bh)))) rfl rfl rfl δ0
 have nn:isNone .none=true:=rfl
 show Com.iM _=_
 unfold Com.iM
 simp only [EV,reduceIte,aq,au,aj,ao,aA,aB,aC,len,C,ff,nn,bL]
theorem Ed {L:List Ty} {M:Nat} {now:Int} (ok:TOk L M now) {w:Nat} (hw:w < L.length) (hn:hk L w=none):mH [.list (L.map yD),.int (M:Int),.int now,.int (w:Int)]=some .none:=by
 have l24:=ok.len
 have c1:=K4 (TO0.of ok)
 have c2:=Qe ok
 have a1:=ay hw
 have ll:((L.map yD).length:Int)=(L.length:Int):=by rw [aG]
 have z1:decide ((0:Int) ≤ (w:Int))=true:=dTr (by omega)
 have z2:decide ((w:Int) < (L.length:Int))=true:=dTr (by omega)
 have nn:isNone (hD none)=true:=rfl
 rw [hn] at a1
 unfold mH
 simp only [EV,reduceIte,aq,au,aj,ao,aA,aB,aC,c1,c2,ll,z1,z2,a1,at2,nn,bL]
theorem zV {M r:Nat} (h:r < M):fK [.int (M:Int),.int (r:Int)]=some .none:=by
 have z1:decide ((0:Int) ≤ (r:Int))=true:=dTr (by omega)
 have z2:decide ((r:Int) < (M:Int))=true:=dTr (by omega)
 show Com.fK _=_
 unfold Com.fK
 simp only [EV,reduceIte,aq,au,aj,ao,aA,aB,aC,z1,z2,bL]
def gA (L:List Ty) (w k:Nat) (x:Int):Bool:=!decide (k=w) && (!(hk L k).isSome && (decide (bk L k=x) && decide (ek L k ≤ bk L w)))
theorem K_ {L:List Ty} {w k:Nat} {x:Int} (hw:w < L.length) (hk':k < L.length):fX [.list (L.map yD),.int (w:Int),.int (k:Int),.int x]=some (.bool (gA L w k x)):=by
 have a1:=ay hw
 have a2:=ay hk'
 have nn:=rZ (hk L k)
 have e1:decide ((k:Int)=(w:Int))=decide (k=w):=decide_eq_decide.mpr (by omega)
 unfold gA
 show Com.fX _=_
 unfold Com.fX
 cases c1:decide (k=w) with
 | true=>simp only [EV,reduceIte,aq,au,aj,ao,aA,aB,aC,a1,a2,at0,at1,at2,nn,e1,c1,bL,f9]
 | false =>
  cases c2:(hk L k).isSome with
  | true=>simp only [EV,reduceIte,aq,au,aj,ao,aA,aB,aC,a1,a2,at0,at1,at2,nn,e1,c1,c2,bL,cC,f9,jr]
  | false =>
   cases c3:decide (bk L k=x) with
   | true=>simp only [EV,reduceIte,aq,au,aj,ao,aA,aB,aC,a1,a2,at0,at1,at2,nn,e1,c1,c2,c3,bL,cC,f9,jr]
   | false=>simp only [EV,reduceIte,aq,au,aj,ao,aA,aB,aC,a1,a2,at0,at1,at2,nn,e1,c1,c2,c3,bL,cC,f9,jr]
theorem La {L:List Ty} {M:Nat} {x:Int} (hl:L.length ≤ 24):jm [.list (L.map yD),.int (M:Int),.int x]=some (.bool (decide (je L x=M))):=by
 have len:(L.map yD).length ≤ 100000:=by rw [aG];omega
 have C:=fun δ0=>FQ (L:=L) (g:=(gNl 0)) (c:=(D3.jX)) (e:=(dCall dh (aF (aD 0) (bh)))) rfl rfl rfl δ0
 have cs:=wu (ss:=nS L) (by unfold nS;rw [aG];omega) x
 rw [K5] at cs
 have e1:decide ((je L x:Int)=(M:Int))=decide (je L x=M):=decide_eq_decide.mpr (by omega)
 show Com.jm _=_
 unfold Com.jm
 simp only [EV,reduceIte,aq,au,aj,ao,aA,aB,aC,len,C,cs,e1]
def pqD (s:Int × Option Nat):D:=.tuple [.int s.1,hD s.2]
def gos (L:List Ty) (w:Nat) (x:Int):List Nat:=(aH L.length).filter fun k=>gA L w k x
def stp (L:List Ty) (M w:Nat) (x:Int):List (Int × Option Nat):=((gos L w x).map fun k=>(ek L k,some k))++if je L x=M then [] else [(x + 1,none)]
theorem Ux {L:List Ty} {M w:Nat} {x:Int} (hl:L.length ≤ 24) (hw:w < L.length):fY [.list (L.map yD),.int (M:Int),.int (w:Int),.int x]=some (.list ((stp L M w x).map pqD)):=by
 have en:lF (L.map yD)=(aH L.length).map fun p:Nat=>PyData.tuple [.int (p:Int),yD (tAt L p)]:=by rw [pO];exact DY _
 have C:fJ (gTn 2 (cU (gNl 0) (cU (gNl 1) (lg)))) (aW (dCall fX (aF (aD 2) (aF (aD 3) (aF (aD 0) (aF (aD 4) (bh))))))) (dX (dTup (aF (dOp gIx (aD 1) (dC (.int 1))) (aF (aD 0) (bh))))) (jM 2 [0,2,3] [some (.d (.list (L.map yD))),some (.d (.int (M:Int))),some (.d (.int (w:Int))),some (.d (.int x)),none]) (lF (L.map yD))=some ((gos L w x).map fun k=>pqD (ek L k,some k)):=by
  rw [en]
  exact zN (fun p:Nat=>PyData.tuple [.int (p:Int),yD (tAt L p)]) (fun k=>gA L w k x) (fun k=>pqD (ek L k,some k)) (aH L.length) fun p hp=>⟨[some (.d (.int (p:Int))),some (.d (yD (tAt L p))),some (.d (.list (L.map yD))),some (.d (.int (w:Int))),some (.d (.int x))],rfl,by
   have:=K_ (x:=x) hw (aY.mp hp)
   have:Com.fX _=_:=this
   simp only [EV,reduceIte,aq,au,aj,ao,aA,aB,aC,this],fun _=>by
   unfold yD
   simp only [EV,reduceIte,aq,au,aj,ao,aA,aB,aC,at1]
   rfl⟩
 have el:(lF (L.map yD)).length ≤ 100000:=by rw [en,aG,bB];omega
 have tt:Com.jm _=_:=La (M:=M) (x:=x) hl
 have gl:(gos L w x).length ≤ 24:=by
  have:=cW (fun k=>gA L w k x) (aH L.length)
  rw [bB] at this
  exact bM this hl
 have lm:((gos L w x).map fun k=>pqD (ek L k,some k)).length < 1000000:=by rw [aG];omega
 have f1:flats ((gos L w x).map fun k=>pqD (ek L k,some k))=true:=gG _ (fun _=>rfl) _
 unfold stp
 show Com.fY _=_
 unfold Com.fY
 by_cases z:je L x=M
 ·rw [dTr z] at tt
  rw [if_pos z,cH,dU]
  simp only [EV,reduceIte,aq,au,aj,ao,aA,aB,aC,el,C,tt,bL,nG,f1]
  rfl
 ·rw [dFa z] at tt
  rw [if_neg z,cL,dU]
  have f2:flats (((gos L w x).map fun k=>pqD (ek L k,some k))++[pqD (x + 1,none)])=true:=by
   rw [show [pqD (x + 1,none)]=([(x + 1,none)]:List (Int × Option Nat)).map pqD from rfl]
   rw [show ((gos L w x).map fun k=>pqD (ek L k,some k))=((gos L w x).map fun k=>(ek L k,some k)).map pqD by rw [dU];rfl,← cL]
   exact gG _ (fun s=>by obtain ⟨a,b⟩:=s;cases b <;> rfl) _
  have f2':flats (((gos L w x).map fun k=>pqD (ek L k,some k))++[PyData.tuple [.int (x + 1),.none]])=true:=f2
  simp only [EV,reduceIte,aq,au,aj,ao,aA,aB,aC,el,C,tt,cC,zl2,lm,nG,f2']
  rfl
theorem uP {S:List (Int × D)} {k x:Int} {d:D} (h:(eE S x).isSome=true):eE (nT S k d) x=eE S x:=by
 unfold nT
 split
 ·rfl
 ·unfold eE at h ⊢
  rw [sI]
  cases e:S.find? fun q=>decide (q.1=x) with
  | none=>rw [e] at h;cases h
  | some q=>rfl
theorem zW {S:List (Int × D)} {k x:Int} {d:D} (h:eE S x=none):eE (nT S k d) x=if x=k then some d else none:=by
 unfold nT
 split
 ·next c =>
  by_cases z:x=k
  ·rw [← z,h] at c;cases c
  ·rw [if_neg z];exact h
 ·unfold eE at h ⊢
  rw [sI]
  cases e:S.find? fun q=>decide (q.1=x) with
  | some q=>rw [e] at h;cases h
  | none =>
   show (([(k,d)]:List (Int × D)).find? fun q=>decide (q.1=x)).map (·.2)=_
   by_cases z:x=k
   ·rw [if_pos z,o8 (by simp [z])];rfl
   ·rw [if_neg z,o9 (by simp;exact fun y=>z y.symm)];rfl
theorem tK {S:List (Int × D)} {k x:Int} {d:D} (h:(eE S x).isSome=true):(eE (nT S k d) x).isSome=true:=by rw [uP h];exact h
theorem Lb {S:List (Int × D)} {k:Int} {d:D}:(eE (nT S k d) k).isSome=true:=by
 cases h:eE S k with
 | none=>rw [zW h,if_pos rfl];rfl
 | some v=>rw [uP (by rw [h];rfl),h];rfl
theorem Qf (S:List (Int × D)) (k:Int) (d:D):(nT S k d).length ≤ S.length + 1:=by
 unfold nT
 split
 ·omega
 ·rw [bH];exact aZ _
def qTv (i:Nat) (x y z:Option D) (δ:DS):Option Oc:=x.bind fun x=>y.bind fun y=>z.bind fun z=>(uG x).bind fun S=>match y with
 | .int k=>if tvD z=true∧S.length < 1000000 then some (.nx (δ.set i (some (.d (dtv (nT S k z)))))) else none
 | _=>none
theorem Qg {i:Nat} {fk fv:FE} {δ:DS}:vU i fk fv δ=qTv i (aD i δ) (fk δ) (fv δ) δ:=rfl
theorem HB {i:Nat} {S:List (Int × D)} {k:Int} {z:D} {δ:DS} (hA:tvA S=true) (hz:tvD z=true) (h:S.length < 1000000):qTv i (some (dtv S)) (some (.int k)) (some z) δ=some (.nx (δ.set i (some (.d (dtv (nT S k z)))))):=by
 unfold qTv
 rw [aJ,aJ,aJ,rB hA,aJ]
 show (if _ then _ else _)=_
 rw [if_pos ⟨hz,h⟩]
theorem Qh {fk:FE} {δ:DS} {i:Int} (h:fk δ=some (.int i)):vR fk δ=some (dtv [(i,.none)]):=by
 unfold vR
 rw [h]
 rfl
theorem Uy {S:List (Int × D)} {k:Int} (hA:tvA S=true):Br (.int k) (dtv S)=some (.bool (eE S k).isSome):=by
 unfold Br
 rw [rB hA]
 rfl
theorem yK {S:List (Int × D)} {k:Int} (hA:tvA S=true):tu (.int k) (dtv S)=some (.bool (!(eE S k).isSome)):=by
 unfold tu
 rw [rB hA]
 rfl
theorem FW {S:List (Int × D)} {k:Int} (hA:tvA S=true):pL (dtv S) (.int k)=eE S k:=by
 unfold pL
 rw [rB hA]
 rfl
theorem QX (x:Int) (p:Option Nat):tvD (.tuple [.int x,hD p])=true:=by cases p <;> rfl
abbrev Gk (L:List Ty) (w k:Nat):Prop:=Rch.Go L.length (bk L) (ek L) (hk L) w k
def Stp (L:List Ty) (M w:Nat) (y:Int) (p:Option Nat) (x:Int):Prop:=match p with
 | none=>je L y ≠ M∧x=y + 1
 | some k=>Gk L w k∧bk L k=y∧ek L k=x
theorem uQ {L:List Ty} {M w:Nat} {y:Int} {s:Int × Option Nat}:s ∈ stp L M w y↔Stp L M w y s.2 s.1:=by
 obtain ⟨x,p⟩:=s
 unfold stp Stp
 rw [aX,cQ]
 cases p with
 | none =>
  constructor
  ·rintro (⟨k,_,e⟩ | h)
   ·cases e
   ·by_cases z:je L y=M
    ·rw [if_pos z] at h;cases h
    ·rw [if_neg z] at h
     have:=aK.mp h
     injection this with h1 h2
     exact ⟨z,h1⟩
  ·rintro ⟨h1,h2⟩
   right
   rw [if_neg h1]
   have h2:x=y + 1:=h2
   rw [h2]
   exact aK.mpr rfl
 | some k =>
  have gk:k ∈ gos L w y↔Gk L w k∧bk L k=y:=by
   unfold gos gA
   rw [bR,aY,aL,aL,aL,decide_eq_true_iff,decide_eq_true_iff]
   have:(!(hk L k).isSome)=true↔hk L k=none:=by cases hk L k <;> simp
   rw [this]
   simp only [Bool.not_eq_true',decide_eq_false_iff_not]
   constructor
   ·rintro ⟨h1,h2,h3,h4,h5⟩;exact ⟨⟨h1,h2,h3,h5⟩,h4⟩
   ·rintro ⟨⟨h1,h2,h3,h5⟩,h4⟩;exact ⟨h1,h2,h3,h4,h5⟩
  constructor
  ·rintro (⟨k',h1,e⟩ | h)
   ·injection e with e1 e2
    injection e2 with e2
    subst e2
    obtain ⟨g1,g2⟩:=gk.mp h1
    exact ⟨g1,g2,e1⟩
   ·split at h
    ·cases h
    ·have:=aK.mp h
     injection this with h1 h2
     cases h2
  ·rintro ⟨h1,h2,h3⟩
   exact .inl ⟨k,gk.mpr ⟨h1,h2⟩,by rw [show ek L k=x from h3]⟩
theorem zX {S:List (Int × D)} {x:Int}:(eE S x).isSome=true↔x ∈ S.map (·.1):=by
 unfold eE
 rw [kW,List.find?_isSome]
 constructor
 ·rintro ⟨q,h1,h2⟩
  exact cQ.mpr ⟨q,h1,of_decide_eq_true h2⟩
 ·intro h
  obtain ⟨q,h1,h2⟩:=cQ.mp h
  exact ⟨q,h1,dTr h2⟩
theorem Uz {S:List (Int × D)} {k:Int} {d:D} (h:(S.map (·.1)).Nodup):((nT S k d).map (·.1)).Nodup:=by
 unfold nT
 split
 ·exact h
 ·next c =>
  rw [cL]
  refine iB.mpr ⟨h,j9 _ _,fun a ha b hb z=>c ?_⟩
  have hb:b=k:=aK.mp hb
  rw [hb] at z
  rw [z] at ha
  exact zX.mpr ha
structure Sok (L:List Ty) (M w:Nat) (B:Int) (S:List (Int × D)):Prop where
 a:tvA S=true
 b:eE S B=some .none
 nd:(S.map (·.1)).Nodup
 c:∀ x d,eE S x=some d→(x=B∧d = .none)∨∃ (y:Int) (p:Option Nat),d = .tuple [.int y,hD p]∧B ≤ y∧y < x∧y < bk L w∧(eE S y).isSome=true∧Stp L M w y p x
theorem Sok.add {L:List Ty} {M w:Nat} {B x z:Int} {p:Option Nat} {S:List (Int × D)} (h:Sok L M w B S) (h1:B ≤ x) (h2:x < z) (h3:x < bk L w) (h4:(eE S x).isSome=true) (h5:Stp L M w x p z):Sok L M w B (nT S z (.tuple [.int x,hD p])):=by
 refine ⟨N5 h.a (QX _ _),by rw [uP (by rw [h.b];rfl)];exact h.b,Uz h.nd,fun y d e=>?_⟩
 cases hy:eE S y with
 | some v =>
  rw [uP (by rw [hy];rfl)] at e
  rcases h.c y d e with q | ⟨y',p',q1,q2,q3,q4,q5,q6⟩
  ·exact .inl q
  ·exact .inr ⟨y',p',q1,q2,q3,q4,tK q5,q6⟩
 | none =>
  rw [zW hy] at e
  split at e
  ·next c =>
   cases e
   exact .inr ⟨x,p,rfl,h1,by omega,h3,tK h4,by rw [c];exact h5⟩
  ·cases e
theorem Qi {L:List Ty} {M w:Nat} {x:Int} (hl:L.length ≤ 24):(stp L M w x).length ≤ 25:=by
 have:=cW (fun k=>gA L w k x) (aH L.length)
 rw [bB] at this
 unfold stp gos
 rw [bH,aG]
 split <;> simp only [jo,bQ] <;> omega
theorem Xc {lo hi:Int} {i:Nat} {d:D} (h:(gh lo hi)[i]? = some d):lo + (i:Int) < hi∧d = .int (lo + (i:Int)):=by
 unfold gh at h
 rw [aQ] at h
 by_cases z:i < (hi - lo).toNat
 ·rw [bZ z] at h
  cases h
  exact ⟨by omega,rfl⟩
 ·rw [bf (by simpa using z)] at h
  cases h
theorem Ef {L:List Ty} {M w:Nat} {now B:Int} (ok:TOk L M now) (hw:w < L.length) (B0:0 ≤ B) (hB:B ≤ bk L w) :
 ∃ S,fQ [.list (L.map yD),.int (M:Int),.int (w:Int),.int B]=some (dtv S)∧Sok L M w B S∧∀ x,B ≤ x→x < bk L w→(eE S x).isSome=true→∀ s ∈ stp L M w x,(eE S s.1).isSome=true:=by
 have l24:=ok.len
 have lt:∀ k,k < L.length→bk L k < ek L k:=fun k hk'=>(ok.ok _ (jO hk')).1
 have g400:bk L w ≤ 400:=by
  have:=(ok.bd _ (jO hw)).2
  have:=lt w hw
  show (tAt L w).1 ≤ 400
  have:(tAt L w).1 < (tAt L w).2.1:=this
  omega
 have aw:=ay hw
 have st0:Sok L M w B [(B,.none)]:=⟨rfl,by simp [eE],by simp,fun x d e=>by
  unfold eE at e
  by_cases z:B=x
  ·rw [o8 (by simp [z])] at e
   cases e
   exact .inl ⟨z.symm,rfl⟩
  ·rw [o9 (by simp [z])] at e
   cases e⟩
 obtain ⟨δ',e,S,u5,u6,h1,h2,h3,rfl⟩:=iK (g:=(gNl 5)) (b:=(sIf (aW (dOp Br (aD 5) (aD 4))) (jD (jP (dCall fY (aF (aD 0) (aF (aD 1) (aF (aD 2) (aF (aD 5) (bh))))))) (gNl 6) (vU 4 (dOp gIx (aD 6) (dC (.int 0))) (dTup (aF (aD 5) (aF (dOp gIx (aD 6) (dC (.int 1))) (bh)))))) (cZ)))
  (fun i δ=>∃ (S:List (Int × D)) (u5 u6:Option U),Sok L M w B S∧S.length ≤ 1 + 25 * i∧(∀ x,B ≤ x→x < B + (i:Int)→(eE S x).isSome=true→∀ s ∈ stp L M w x,(eE S s.1).isSome=true) ∧
   δ=[some (.d (.list (L.map yD))),some (.d (.int (M:Int))),some (.d (.int (w:Int))),some (.d (.int B)),some (.d (dtv S)),u5,u6]) (gh B (bk L w))
  [some (.d (.list (L.map yD))),some (.d (.int (M:Int))),some (.d (.int (w:Int))),some (.d (.int B)),some (.d (dtv [(B,.none)])),none,none] ⟨_,none,none,st0,(show 1 ≤ 1 + 25 * 0 by decide),fun x q1 q2=>by omega,rfl⟩ (by
   rintro i d δ hd ⟨S,u5,u6,h1,h2,h3,rfl⟩
   obtain ⟨hi,rfl⟩:=Xc hd
   have i400:i ≤ 400:=by omega
   have q1:=Uy (k:=B + (i:Int)) h1.a
   cases kx:(eE S (B + (i:Int))).isSome with
   | false =>
    rw [kx] at q1
    refine ⟨_,[some (.d (.list (L.map yD))),some (.d (.int (M:Int))),some (.d (.int (w:Int))),some (.d (.int B)),some (.d (dtv S)),some (.d (.int (B + (i:Int)))),u6],rfl,.inl ?_,S,_,_,h1,by omega,fun x x1 x2 x3=>?_,rfl⟩
    ·simp only [EV,reduceIte,aq,au,aj,ao,aA,aB,aC,q1]
    ·by_cases z:x=B + (i:Int)
     ·rw [z,kx] at x3;cases x3
     ·exact h3 x x1 (by omega) x3
   | true =>
    rw [kx] at q1
    have sl:=Qi (M:=M) (w:=w) (x:=B + (i:Int)) l24
    have so:Com.fY _=_:=Ux (M:=M) (x:=B + (i:Int)) l24 hw
    obtain ⟨δ2,e2,S2,v6,g1,g2,g3,g4,g5,rfl⟩:=iK (g:=(gNl 6)) (b:=(vU 4 (dOp gIx (aD 6) (dC (.int 0))) (dTup (aF (aD 5) (aF (dOp gIx (aD 6) (dC (.int 1))) (bh))))))
     (fun j δ=>∃ (S2:List (Int × D)) (v6:Option U),Sok L M w B S2∧S2.length ≤ S.length + j∧(∀ x,(eE S x).isSome=true→(eE S2 x).isSome=true)∧(∀ x,x ≤ B + (i:Int)→(eE S2 x).isSome=true→(eE S x).isSome=true) ∧
      (∀ s ∈ (stp L M w (B + (i:Int))).take j,(eE S2 s.1).isSome=true)∧δ=[some (.d (.list (L.map yD))),some (.d (.int (M:Int))),some (.d (.int (w:Int))),some (.d (.int B)),some (.d (dtv S2)),some (.d (.int (B + (i:Int)))),v6]) ((stp L M w (B + (i:Int))).map pqD)
     [some (.d (.list (L.map yD))),some (.d (.int (M:Int))),some (.d (.int (w:Int))),some (.d (.int B)),some (.d (dtv S)),some (.d (.int (B + (i:Int)))),u6] ⟨S,u6,h1,by omega,fun _ h=>h,fun _ _ h=>h,fun s hs=>(by cases hs),rfl⟩ (by
      rintro j d δ hd ⟨S2,v6,g1,g2,g3,g4,g5,rfl⟩
      rw [aQ] at hd
      cases es:(stp L M w (B + (i:Int)))[j]? with
      | none=>rw [es] at hd;cases hd
      | some s =>
       rw [es] at hd
       cases hd
       have jl:j < 25:=bN (cP.mp es).1 sl
       have sm:=eX es
       obtain ⟨z,p⟩:=s
       have sp:=uQ.mp sm
       have zx:B + (i:Int) < z:=by
        cases p with
        | none =>
         have:z=B + (i:Int) + 1:=sp.2
         omega
        | some k =>
         have h:=lt k sp.1.1
         have h4:bk L k=B + (i:Int):=sp.2.1
         have h5:ek L k=z:=sp.2.2
         omega
       have et:(stp L M w (B + (i:Int))).take (j + 1)=(stp L M w (B + (i:Int))).take j++[(z,p)]:=by rw [jy,es];rfl
       have vs:=HB (i:=4) (k:=z) (δ:=[some (.d (.list (L.map yD))),some (.d (.int (M:Int))),some (.d (.int (w:Int))),some (.d (.int B)),some (.d (dtv S2)),some (.d (.int (B + (i:Int)))),some (.d (pqD (z,p)))]) g1.a (QX (B + (i:Int)) p) (by omega)
       refine ⟨_,[some (.d (.list (L.map yD))),some (.d (.int (M:Int))),some (.d (.int (w:Int))),some (.d (.int B)),some (.d (dtv (nT S2 z (.tuple [.int (B + (i:Int)),hD p])))),some (.d (.int (B + (i:Int)))),some (.d (pqD (z,p)))],rfl,.inl ?_,nT S2 z (.tuple [.int (B + (i:Int)),hD p]),_,g1.add (by omega) zx hi (g3 _ kx) sp,?_,fun x hx=>tK (g3 x hx),fun x x1 x2=>?_,fun s hs=>?_,rfl⟩
       ·have i0:gIx (pqD (z,p)) (.int 0)=some (.int z):=rfl
        have i1:gIx (pqD (z,p)) (.int 1)=some (hD p):=rfl
        simp only [EV,reduceIte,aq,au,aj,ao,aA,aB,aC,Qg,i0,i1,zl2]
        exact vs
       ·have:=Qf S2 z (.tuple [.int (B + (i:Int)),hD p])
        omega
       ·refine g4 x x1 ?_
        cases hy:eE S2 x with
        | some v=>rfl
        | none =>
         rw [zW hy,if_neg (by omega)] at x2
         cases x2
       ·rw [et] at hs
        rcases aX.mp hs with y | y
        ·exact tK (g5 s y)
        ·rw [aK.mp y]
         exact Lb)
    rw [aG] at g2 g5
    rw [jL] at g5
    refine ⟨_,[some (.d (.list (L.map yD))),some (.d (.int (M:Int))),some (.d (.int (w:Int))),some (.d (.int B)),some (.d (dtv S2)),some (.d (.int (B + (i:Int)))),v6],rfl,.inl ?_,S2,_,_,g1,by omega,fun x x1 x2 x3=>?_,rfl⟩
    ·simp only [EV,reduceIte,aq,au,aj,ao,aA,aB,aC,q1,so]
     exact e2
    ·by_cases z:x=B + (i:Int)
     ·rw [z];exact g5
     ·intro s hs
      exact g3 _ (h3 x x1 (by omega) (g4 x (by omega) x3) s hs))
 refine ⟨S,?_,h1,fun x x1 x2=>h3 x x1 (by unfold gh;rw [aG,bB];omega)⟩
 have rg:Fw (some [.int B,.int (bk L w)])=some (gh B (bk L w)):=Yh (by omega) (by omega) (by omega) (by omega)
 have nw:vR (aD 3) [some (.d (.list (L.map yD))),some (.d (.int (M:Int))),some (.d (.int (w:Int))),some (.d (.int B)),none,none,none]=some (dtv [(B,.none)]):=Qh rfl
 unfold fQ
 simp only [EV,reduceIte,aq,au,aj,ao,aA,aB,aC,nw,aw,at0,rg]
 rw [e]
 simp only [EV,reduceIte,aq,au,aj,ao,aA,aB,aC]
theorem Eh {L:List Ty} (x:Int):je L x=Rch.cnt L.length (bk L) (ek L) x:=W9 x
abbrev Pt (L:List Ty) (M w:Nat) (B:Int):List Nat→Int→Prop:=Rch.Pth L.length M (bk L) (ek L) (hk L) w B
def nD (t:List Nat):List D:=t.map fun k:Nat=>PyData.int (k:Int)
theorem Ei {L:List Ty} {M w:Nat} {B:Int} {S:List (Int × D)} (h:Sok L M w B S):∀ (m:Nat) (x:Int) (t:List Nat) (u4:Option U),(x - B).toNat ≤ m→(eE S x).isSome=true→t.length + m ≤ 1000→(∀ cs,Pt L M w B cs x→Pt L M w B (cs++t) (bk L w)) →
 ∃ n t' z4,iw ((aW (dUn kE (dOp pL (aD 0) (aD 3))))) ((bY (cD 4 (dOp gIx (dOp pL (aD 0) (aD 3)) (dC (.int 1)))) (bY (sIf (aW (dUn kE (aD 4))) (wR 2 (dC (.int 0)) (aD 4)) (cZ)) (cD 3 (dOp gIx (dOp pL (aD 0) (aD 3)) (dC (.int 0))))))) n [some (.d (dtv S)),some (.d (.int (bk L w))),some (.d (.list (nD t))),some (.d (.int x)),u4] =
  some (.nx [some (.d (dtv S)),some (.d (.int (bk L w))),some (.d (.list (nD t'))),some (.d (.int B)),z4])∧Pt L M w B t' (bk L w):=by
 intro m
 induction m with
 | zero =>
  intro x t u4 hm hx _ hP
  obtain ⟨d,ed⟩:=cR.mp hx
  rcases h.c x d ed with ⟨rfl,rfl⟩ | ⟨y,p,_,y1,y2,_⟩
  ·have g:=FW (k:=x) h.a
   rw [ed] at g
   have nn:isNone .none=true:=rfl
   refine ⟨1,t,u4,?_,hP [] .start⟩
   rw [iw]
   simp only [EV,reduceIte,aq,au,aj,ao,aA,aB,aC,g,nn,bL]
   rfl
  ·omega
 | succ m ih =>
  intro x t u4 hm hx hl hP
  obtain ⟨d,ed⟩:=cR.mp hx
  have g:=FW (k:=x) h.a
  rw [ed] at g
  rcases h.c x d ed with ⟨rfl,rfl⟩ | ⟨y,p,rfl,y1,y2,y3,y4,y5⟩
  ·have nn:isNone .none=true:=rfl
   refine ⟨1,t,u4,?_,hP [] .start⟩
   rw [iw]
   simp only [EV,reduceIte,aq,au,aj,ao,aA,aB,aC,g,nn,bL]
   rfl
  ·cases p with
   | none =>
    obtain ⟨n,t',z4,e1,e2⟩:=ih y t (some (.d .none)) (by omega) y4 (by omega) (fun cs hc=>hP cs (by
     have:=Rch.Pth.gap hc (by rw [← Eh];exact y5.1) y3
     rwa [← y5.2] at this))
    refine ⟨n + 1,t',z4,?_,e2⟩
    have nt:isNone (.tuple [.int y,hD none])=false:=rfl
    have nn:isNone (hD none)=true:=rfl
    rw [iw]
    simp only [EV,reduceIte,aq,au,aj,ao,aA,aB,aC,g,nt,nn,at0,at1,cC,bL,aJ]
    exact e1
   | some k =>
    obtain ⟨n,t',z4,e1,e2⟩:=ih y (k :: t) (some (.d (.int (k:Int)))) (by omega) y4 (by rw [bQ];omega) (fun cs hc=>by
     have h1:bk L k=y:=y5.2.1
     have h2:ek L k=x:=y5.2.2
     have:=hP (cs++[k]) (by
      have:=Rch.Pth.stay (k:=k) (by rw [h1];exact hc) y5.1
      rwa [h2] at this)
     rwa [jx] at this)
    refine ⟨n + 1,t',z4,?_,e2⟩
    have nt:isNone (.tuple [.int y,hD (some k)])=false:=rfl
    have nn:isNone (hD (some k))=false:=rfl
    have hk':hD (some k) = .int (k:Int):=rfl
    have ei:Dk 0 (.int (k:Int)) (nD t)=some (nD (k :: t)):=by
     unfold Dk
     rw [if_pos (by unfold nD;rw [aG];omega)]
     rfl
    rw [iw]
    simp only [EV,reduceIte,aq,au,aj,ao,aA,aB,aC,g,nt,nn,hk',at0,at1,cC,bL,aJ,JF,zj,Sd ei]
    exact e1
theorem Ld {L:List Ty} {M w:Nat} {B:Int} {S:List (Int × D)} (h:Sok L M w B S) (hx:(eE S (bk L w)).isSome=true) (hb:(bk L w - B).toNat ≤ 1000) :
 ∃ t:List Nat,nM [dtv S,.int (bk L w)]=some (.list (nD t))∧Pt L M w B t (bk L w):=by
 obtain ⟨n,t,z4,e1,e2⟩:=Ei h (bk L w - B).toNat (bk L w) [] none (aZ _) hx (by rw [jo];omega) (fun cs hc=>by rw [cH];exact hc)
 refine ⟨t,?_,e2⟩
 have sw:=GD e1
 have fl:flats (nD t)=true:=gG _ (fun _=>rfl) _
 have n0:nD []=[]:=rfl
 rw [n0] at sw
 unfold nM
 simp only [EV,reduceIte,aq,au,aj,ao,aA,aB,aC,zl0]
 rw [sw]
 simp only [EV,reduceIte,aq,au,aj,ao,aA,aB,aC,nG,fl]
section
variable {L:List Ty} {M:Nat} {now:Int}
theorem wd (ok:TOk L M now) {w r:Nat} {f:Nat→Int} (hw:w < L.length) (hn:hk L w=none) (hr:r < M) (hf:∀ s,s < M→(∃ k,k < L.length∧hk L k=some s∧f s=ek L k)∨((∀ k,k < L.length→hk L k ≠ some s)∧f s=now)):Rch.Wd L.length M (bk L) (ek L) (hk L) now w r (f r) :=
 ⟨fun k h=>(ok.ok _ (jO h)).1,fun k s h e=>(ok.ok _ (jO h)).2.1 s e,fun k h e=>(ok.ok _ (jO h)).2.2 e,fun k l s h1 h2 e1 e2=>wF ok.nd h1 h2 e1 e2,
  fun k h e=>by rw [← Eh];exact FP ok (jO h) e,hw,hn,hr,hf r hr⟩
def s0 (L:List Ty) (r w:Nat) (t:List Nat) (k:Nat):Option Nat:=if k ∈ t++[w] then some r else hk L k
def f0 (L:List Ty) (r w:Nat) (f:Nat→Int) (s:Nat):Int:=if s=r then ek L w else f s
theorem Qj (ok:TOk L M now) (hM:M ≤ 12) {w r:Nat} {f:Nat→Int} (hw:w < L.length) (hn:hk L w=none) (hr:r < M) (hf:∀ s,s < M→(∃ k,k < L.length∧hk L k=some s∧f s=ek L k)∨((∀ k,k < L.length→hk L k ≠ some s)∧f s=now))
 (hB:f r ≤ bk L w) {t:List Nat} (pt:Pt L M w (f r) t (bk L w)) :
 ∃ seat:Nat→Option Nat,qQ [.list (L.map yD),.list ((aH L.length).map fun k=>hD (s0 L r w t k)),.list ((aH M).map fun s:Nat=>PyData.int (f0 L r w f s))]=some (.list ((aH L.length).map fun p=>hD (seat p))) ∧
  (∀ p,p < L.length→∃ s,seat p=some s∧s < M)∧(∀ p s,s0 L r w t p=some s→seat p=some s)∧(∀ p q,p < L.length→q < L.length→p ≠ q→seat p=seat q→ek L p ≤ bk L q∨ek L q ≤ bk L p) ∧
  ∀ p,seat p=some r→p ∈ t++[w]∨(hk L p).isSome=true∨ek L w ≤ bk L p:=by
 have l24:=ok.len
 have W:=wd ok hw hn hr hf
 obtain ⟨P,eP,pP,sP⟩:=Ea (L:=L) (by omega)
 have nP:P.Nodup:=pP.nodup_iff.mpr (List.Pairwise.filter _ iY)
 have mP:∀ p ∈ P,p < L.length∧hk L p=none:=fun p hp=>by
  obtain ⟨h1,h2⟩:=bR.mp (pP.mem_iff.mp hp)
  refine ⟨aY.mp h1,?_⟩
  cases z:hk L p with
  | none=>rfl
  | some s =>
   have z:(tAt L p).2.2=some s:=z
   rw [z] at h2
   cases h2
 have lt:∀ p,p < L.length→bk L p < ek L p:=W.lt
 have lw:=lt w hw
 have nhk:∀ k,k ∈ t++[w]→k < L.length:=fun k hk'=>by
  rcases aX.mp hk' with z | z
  ·exact (pt.mem W k z).1.1
  ·rw [aK.mp z];exact hw
 obtain ⟨δ',e,seat,fs,x,y,I,hH,hF,hR,rfl⟩:=iK (g:=(gNl 5)) (b:=(sIf (aW (dUn nA (dOp gIx (aD 3) (aD 5)))) (bY (cD 6 (dCall gU (aF (aD 4) (aF (dOp gIx (dOp gIx (aD 0) (aD 5)) (dC (.int 0))) (bh))))) (bY (uF 3 (aD 5) (aD 6)) (uF 4 (aD 6) (dOp gIx (dOp gIx (aD 0) (aD 5)) (dC (.int 1)))))) (cZ)))
  (fun i δ=>∃ (seat:Nat→Option Nat) (fs:Nat→Int) (x y:Option U),Rch.GInv now M (bk L) (ek L) (hel L++(t++[w])++(P.take i).filter fun k=>!decide (k ∈ t++[w])) seat fs∧(∀ p s,s0 L r w t p=some s→seat p=some s)∧ek L w ≤ fs r ∧
   (∀ p,seat p=some r→p ∈ t++[w]∨(hk L p).isSome=true∨ek L w ≤ bk L p) ∧
   δ=[some (.d (.list (L.map yD))),some (.d (.list ((aH L.length).map fun k=>hD (s0 L r w t k)))),some (.d (.list ((aH M).map fun s:Nat=>PyData.int (f0 L r w f s)))),some (.d (.list ((aH L.length).map fun p=>hD (seat p)))),some (.d (.list ((aH M).map fun s:Nat=>PyData.int (fs s)))),x,y]) (P.map fun i:Nat=>PyData.int (i:Int))
  [some (.d (.list (L.map yD))),some (.d (.list ((aH L.length).map fun k=>hD (s0 L r w t k)))),some (.d (.list ((aH M).map fun s:Nat=>PyData.int (f0 L r w f s)))),some (.d (.list ((aH L.length).map fun k=>hD (s0 L r w t k)))),some (.d (.list ((aH M).map fun s:Nat=>PyData.int (f0 L r w f s)))),none,none]
  ⟨s0 L r w t,f0 L r w f,none,none,by
   rw [List.take_zero,pX,cH]
   exact Rch.W_ W hB pt hf rfl (fun k=>rG) (fun k h=>Yp h),fun _ _ h=>h,by unfold f0;rw [if_pos rfl];exact gY _,fun p hp=>by
    unfold s0 at hp
    by_cases z:p ∈ t++[w]
    ·exact .inl z
    ·rw [if_neg z] at hp;exact .inr (.inl (by rw [hp];rfl)),rfl⟩ (by
   rintro i d δ hd ⟨seat,fs,x,y,I,hH,hF,hR,rfl⟩
   rw [aQ] at hd
   cases hi:P[i]? with
   | none=>rw [hi] at hd;cases hd
   | some c =>
    rw [hi] at hd
    cases hd
    have hiL:i < P.length:=(cP.mp hi).1
    have et:P.take (i + 1)=P.take i++[c]:=by rw [jy,hi];rfl
    have sp:P=P.take i++c :: P.drop (i + 1):=by
     rw [aN hiL] at hi
     cases hi
     rw [List.getElem_cons_drop,p8]
    obtain ⟨hcn,hcf⟩:=mP c (eX hi)
    have ayc:=ay hcn
    by_cases ct:c ∈ t++[w]
    ·have sc:seat c=some r:=hH c r (by unfold s0;rw [if_pos ct])
     have a1:=zR (fun p=>hD (seat p)) hcn
     rw [sc] at a1
     have nN:isNone (hD (some r))=false:=rfl
     refine ⟨_,[some (.d (.list (L.map yD))),some (.d (.list ((aH L.length).map fun k=>hD (s0 L r w t k)))),some (.d (.list ((aH M).map fun s:Nat=>PyData.int (f0 L r w f s)))),some (.d (.list ((aH L.length).map fun p=>hD (seat p)))),some (.d (.list ((aH M).map fun s:Nat=>PyData.int (fs s)))),some (.d (.int (c:Int))),y],rfl,.inl ?_,seat,fs,_,y,?_,hH,hF,hR,rfl⟩
     ·generalize (aH L.length).map (fun p=>hD (seat p))=SQ at *
      generalize (aH L.length).map (fun k=>hD (s0 L r w t k))=SP at *
      generalize (aH M).map (fun s:Nat=>PyData.int (fs s))=FF at *
      generalize (aH M).map (fun s:Nat=>PyData.int (f0 L r w f s))=FB at *
      simp only [EV,reduceIte,aq,au,aj,ao,aA,aB,aC,a1,nN]
     ·rw [et,h_,show ([c].filter fun k=>!decide (k ∈ t++[w]))=[] by rw [dM (by rw [dTr ct];simp)];rfl,cH]
      exact I
    ·have hc:c ∉ hel L++(t++[w])++(P.take i).filter fun k=>!decide (k ∈ t++[w]):=fun z=>by
      rcases aX.mp z with z | z
      ·rcases aX.mp z with z | z
       ·have:=(rG.mp z).2
        rw [hcf] at this
        cases this
       ·exact ct z
      ·rw [sp] at nP
       exact (iB.mp nP).2.2 c (bR.mp z).1 c aM rfl
     have hdn:∀ k ∈ hel L++(t++[w])++(P.take i).filter (fun k=>!decide (k ∈ t++[w])),k < L.length:=fun k hk'=>by
      rcases aX.mp hk' with z | z
      ·rcases aX.mp z with z | z
       ·exact (rG.mp z).1
       ·exact nhk k z
      ·exact (mP k (qe (bR.mp z).1)).1
     have hA:∀ k ∈ hel L++(t++[w])++(P.take i).filter (fun k=>!decide (k ∈ t++[w])),k ∈ t++[w]∨bk L k ≤ bk L c:=fun k hk'=>by
      rcases aX.mp hk' with z | z
      ·rcases aX.mp z with z | z
       ·obtain ⟨h1,h2⟩:=rG.mp z
        obtain ⟨s,hs⟩:=cR.mp h2
        have q1:=(W.hh k s h1 hs).2.1
        have q2:=W.hn c hcn hcf
        exact .inr (by omega)
       ·exact .inl z
      ·rw [sp] at sP
       exact .inr ((mj.mp sP).2.2 k (bR.mp z).1 c aM)
     obtain ⟨r',r1,r2,r3⟩:=Eb (show M ≤ 1000 by omega) (Rch.room W hB pt I hc hcn hcf hdn hA
      (fun k hk'=>⟨bx _ (aU _ hk'),hH k r (by unfold s0;rw [if_pos hk'])⟩)
      (fun k k1 k2=>⟨bx _ (bx _ (rG.mpr ⟨k1,by rw [k2];rfl⟩)),hH k r (by
       unfold s0
       by_cases z:k ∈ t++[w]
       ·rw [if_pos z]
       ·rw [if_neg z];exact k2)⟩))
     have sc:seat c=none:=I.out c hc
     have a1:=zR (fun p=>hD (seat p)) hcn
     rw [sc] at a1
     have a1:pAt ((aH L.length).map fun p=>hD (seat p)) (c:Int)=some .none:=a1
     have nN:isNone .none=true:=rfl
     have p1:=Kz (l:=(aH L.length).map fun p=>hD (seat p)) (by rw [aG,bB]) hcn
     have p2:=Kz (l:=(aH M).map fun s:Nat=>PyData.int (fs s)) (by rw [aG,bB]) r1
     have s1:=BW (n:=L.length) (c:=c) (d:=.int (r':Int)) (fun p=>hD (seat p))
     have s2:=BW (n:=M) (c:=r') (d:=.int (ek L c)) (fun s:Nat=>PyData.int (fs s))
     refine ⟨_,[some (.d (.list (L.map yD))),some (.d (.list ((aH L.length).map fun k=>hD (s0 L r w t k)))),some (.d (.list ((aH M).map fun s:Nat=>PyData.int (f0 L r w f s)))),some (.d (.list (((aH L.length).map fun p=>hD (seat p)).set c (.int (r':Int))))),some (.d (.list (((aH M).map fun s:Nat=>PyData.int (fs s)).set r' (.int (ek L c))))),some (.d (.int (c:Int))),some (.d (.int (r':Int)))],rfl,.inl ?_,?_⟩
     ·generalize (aH L.length).map (fun p=>hD (seat p))=SQ at *
      generalize (aH L.length).map (fun k=>hD (s0 L r w t k))=SP at *
      generalize (aH M).map (fun s:Nat=>PyData.int (fs s))=FF at *
      generalize (aH M).map (fun s:Nat=>PyData.int (f0 L r w f s))=FB at *
      simp only [EV,reduceIte,aq,au,aj,ao,aA,aB,aC,a1,nN,ayc,at0,at1,r3,p1,p2,aJ]
     ·refine ⟨fun p=>if p=c then some r' else seat p,fun x=>if x=r' then ek L c else fs x,some (.d (.int (c:Int))),some (.d (.int (r':Int))),?_,fun p s hp=>?_,?_,fun p hp=>?_,?_⟩
      ·rw [et,h_,show ([c].filter fun k=>!decide (k ∈ t++[w]))=[c] by rw [dJ (by rw [dFa ct];rfl)];rfl,← jx]
       exact I.step hc r1 r2 (lt c hcn)
      ·have:p ≠ c:=fun z=>by
        unfold s0 at hp
        rw [z,if_neg ct,hcf] at hp
        cases hp
       show (if p=c then some r' else seat p)=_
       rw [if_neg this]
       exact hH p s hp
      ·show ek L w ≤ if r=r' then ek L c else fs r
       by_cases z:r=r'
       ·rw [if_pos z]
        have:=lt c hcn
        rw [← z] at r2
        omega
       ·rw [if_neg z];exact hF
      ·have hp:(if p=c then some r' else seat p)=some r:=hp
       by_cases z:p=c
       ·rw [if_pos z] at hp
        injection hp with hp
        rw [hp] at r2
        rw [z]
        exact .inr (.inr (by omega))
       ·rw [if_neg z] at hp;exact hR p hp
      ·rw [s1,s2]
       have q1:(fun p=>if p=c then PyData.int (r':Int) else hD (seat p))=fun p=>hD (if p=c then some r' else seat p):=by
        funext p
        by_cases z:p=c
        ·rw [if_pos z,if_pos z];rfl
        ·rw [if_neg z,if_neg z]
       have q2:(fun x:Nat=>if x=r' then PyData.int (ek L c) else PyData.int (fs x))=fun x=>PyData.int (if x=r' then ek L c else fs x):=by
        funext x
        by_cases z:x=r'
        ·rw [if_pos z,if_pos z]
        ·rw [if_neg z,if_neg z]
       rw [q1,q2])
 rw [aG,jL] at I
 have all:∀ p,p < L.length→p ∈ hel L++(t++[w])++P.filter fun k=>!decide (k ∈ t++[w]):=fun p hp=>by
  by_cases ct:p ∈ t++[w]
  ·exact bx _ (aU _ ct)
  ·cases z:hk L p with
   | some s=>exact bx _ (bx _ (rG.mpr ⟨hp,by rw [z];rfl⟩))
   | none =>
    refine aU _ (bR.mpr ⟨pP.mem_iff.mpr (bR.mpr ⟨aY.mpr hp,?_⟩),by rw [dFa ct];rfl⟩)
    have z:(tAt L p).2.2=none:=z
    rw [z];rfl
 refine ⟨seat,?_,fun p hp=>?_,hH,fun p q hp hq ne hs=>I.dj p (all p hp) q (all q hq) ne hs,hR⟩
 ·have fl:flats ((aH L.length).map fun p=>hD (seat p))=true:=gG _ (fun p=>by cases seat p <;> rfl) _
  unfold qQ
  simp only [EV,reduceIte,aq,au,aj,ao,aA,aB,aC,eP]
  rw [e]
  simp only [EV,reduceIte,aq,au,aj,ao,aA,aB,aC,nG,fl]
 ·obtain ⟨s,h1,h2,_⟩:=I.inn p (all p hp)
  exact ⟨s,h1,h2⟩
end
def qNd (x:Option D):Option D:=match x with
 | some d=>if ndT d=true then some d else none
 | none=>none
theorem Yq {fa:FE} {δ:DS}:dNd fa δ=qNd (fa δ):=by
 unfold dNd qNd
 cases fa δ <;> rfl
section
variable {L:List Ty} {M:Nat} {now:Int}
structure Pn (L:List Ty) (M:Nat) (rr:Nat→Nat):Prop where
 lt:∀ k,k < L.length→rr k < M
 held:∀ k r,k < L.length→hk L k=some r→rr k=r
 dj:∀ p q,p < L.length→q < L.length→p ≠ q→rr p=rr q→ek L p ≤ bk L q∨ek L q ≤ bk L p
theorem Pn.pk {rr:Nat→Nat} (P:Pn L M rr):∀ i,i < L.length→Pk L M (plD L.length fun k=>(rr k:Int)) i:=fun i hi=>by
 have g:∀ k,k < L.length→(plD L.length fun k=>(rr k:Int))[k]? = some (.int (rr k:Int)):=fun k hk'=>by
  unfold plD
  rw [aQ,bZ hk'];rfl
 have:=P.lt i hi
 refine ⟨(rr i:Int),g i hi,by omega,by omega,fun r hr=>by rw [P.held i r hi hr],fun k hk' z=>?_⟩
 have hkL:k < L.length:=by omega
 obtain ⟨z1,z2,z3⟩:=z
 rw [g k hkL,g i hi] at z1
 have z1:(rr k:Int)=(rr i:Int):=by
  injection z1 with z1
  injection z1
 rcases P.dj k i hkL hi (by omega) (by omega) with w | w <;> omega
theorem Xd (g:FG) (c:FT) (e:FE) (hg:g=gNl 0) (hc:c=D3.jX) (he:e=dX (dOp gIx (aD 0) (dC (.int 2)))) (δ0:DS):fJ g c e (jM 1 [] δ0) (L.map yD)=some ((aH L.length).map fun k=>hD (hk L k)):=by
 rw [pO,hg,hc,he]
 exact wY (fun k=>yD (tAt L k)) (fun k=>hD (hk L k)) (aH L.length) fun k _=>⟨[some (.d (yD (tAt L k)))],rfl,rfl,by
  have fl:flat (hD (tAt L k).2.2)=true:=by cases (tAt L k).2.2 <;> rfl
  unfold yD hk
  simp only [EV,reduceIte,aq,au,aj,ao,aA,aB,aC,at2,fl]⟩
theorem Le (n:Nat) (g:Nat→Int):(plD n g).length=n:=by unfold plD;rw [aG,bB]
theorem zY (ok:TOk L M now) (hM:M ≤ 12) {w r:Nat} {f:Nat→Int} (ef:cO [.list (L.map yD),.int (M:Int),.int now]=some (.list ((aH M).map fun r:Nat=>PyData.int (f r)))) (hw:w < L.length) (hn:hk L w=none) (hr:r < M) (hf:∀ s,s < M→(∃ k,k < L.length∧hk L k=some s∧f s=ek L k)∨((∀ k,k < L.length→hk L k ≠ some s)∧f s=now))
 (hB:f r ≤ bk L w) {t:List Nat} (pt:Pt L M w (f r) t (bk L w)) (tl:t.length ≤ 24) :
 ∃ rr:Nat→Nat,mJ [.list (L.map yD),.int (M:Int),.int now,.int (w:Int),.int (r:Int),.list (nD t)]=some (.list (plD L.length fun k=>(rr k:Int)))∧Pn L M rr∧rr w=r∧∀ k,k < L.length→hk L k=none→bk L k < bk L w→(rr k=r↔k ∈ t):=by
 have l24:=ok.len
 have W:=wd ok hw hn hr hf
 obtain ⟨seat,es,q1,q2,q3,q4⟩:=Qj ok hM hw hn hr hf hB pt
 have sl:(aH L.length).map (fun p=>hD (seat p))=plD L.length fun p=>(((seat p).getD 0:Nat):Int):=W6 fun p hp=>by
  obtain ⟨s,hs,_⟩:=q1 p hp
  show hD (seat p)=PyData.int (((seat p).getD 0:Nat):Int)
  rw [hs];rfl
 rw [sl] at es
 have inT:∀ k,k ∈ t++[w]→k < L.length:=fun k hk'=>by
  rcases aX.mp hk' with z | z
  ·exact (pt.mem W k z).1.1
  ·rw [aK.mp z];exact hw
 have sr:∀ k,k ∈ t++[w]→seat k=some r:=fun k hk'=>q2 k r (by unfold s0;rw [if_pos hk'])
 have noT:∀ k,hk L k ≠ none→k ∉ t++[w]:=fun k h1 h2=>by
  rcases aX.mp h2 with z | z
  ·exact h1 (pt.mem W k z).1.2.2.1
  ·rw [aK.mp z] at h1;exact h1 hn
 refine ⟨fun p=>(seat p).getD 0,?_,⟨fun k hk'=>?_,fun k s hk' hs=>?_,fun p q hp hq ne e=>q3 p q hp hq ne ?_⟩,?_,fun k k1 k2 k3=>?_⟩
 ·have C:=fun δ0=>Xd (L:=L) ((gNl 0)) ((D3.jX)) ((dX (dOp gIx (aD 0) (dC (.int 2))))) rfl rfl rfl δ0
  have len:(L.map yD).length ≤ 100000:=by rw [aG];omega
  have cat:nR (.list (nD t)) (.list [.int (w:Int)])=some (.list (nD (t++[w]))):=by
   rw [yG,if_pos (by unfold nD;rw [aG];show t.length + 1 ≤ _;omega)]
   unfold nD
   rw [cL]
   rfl
  have aw:=ay hw
  obtain ⟨δ',e,u7,rfl⟩:=iK (g:=(gNl 7)) (b:=(uF 6 (aD 7) (aD 4)))
   (fun i δ=>∃ u7:Option U,δ=[some (.d (.list (L.map yD))),some (.d (.int (M:Int))),some (.d (.int now)),some (.d (.int (w:Int))),some (.d (.int (r:Int))),some (.d (.list (nD t))),some (.d (.list ((aH L.length).map fun k=>hD (if k ∈ (t++[w]).take i then some r else hk L k)))),u7,none]) (nD (t++[w]))
   [some (.d (.list (L.map yD))),some (.d (.int (M:Int))),some (.d (.int now)),some (.d (.int (w:Int))),some (.d (.int (r:Int))),some (.d (.list (nD t))),some (.d (.list ((aH L.length).map fun k=>hD (hk L k)))),none,none] ⟨none,by rw [List.take_zero];simp only [g_,if_false]⟩ (by
    rintro i d δ hd ⟨u7,rfl⟩
    unfold nD at hd
    rw [aQ] at hd
    cases hi:(t++[w])[i]? with
    | none=>rw [hi] at hd;cases hd
    | some c =>
     rw [hi] at hd
     cases hd
     have et:(t++[w]).take (i + 1)=(t++[w]).take i++[c]:=by rw [jy,hi];rfl
     have hc:=inT c (eX hi)
     have p1:=Kz (l:=(aH L.length).map fun k=>hD (if k ∈ (t++[w]).take i then some r else hk L k)) (by rw [aG,bB]) hc
     have s1:=BW (n:=L.length) (c:=c) (d:=.int (r:Int)) (fun k=>hD (if k ∈ (t++[w]).take i then some r else hk L k))
     refine ⟨_,[some (.d (.list (L.map yD))),some (.d (.int (M:Int))),some (.d (.int now)),some (.d (.int (w:Int))),some (.d (.int (r:Int))),some (.d (.list (nD t))),some (.d (.list (((aH L.length).map fun k=>hD (if k ∈ (t++[w]).take i then some r else hk L k)).set c (.int (r:Int))))),some (.d (.int (c:Int))),none],rfl,.inl ?_,some (.d (.int (c:Int))),?_⟩
     ·generalize (aH L.length).map (fun k=>hD (if k ∈ (t++[w]).take i then some r else hk L k))=SQ at *
      simp only [EV,reduceIte,aq,au,aj,ao,aA,aB,aC,p1,aJ]
     ·rw [s1,et]
      have:(fun p=>if p=c then PyData.int (r:Int) else hD (if p ∈ (t++[w]).take i then some r else hk L p))=fun k=>hD (if k ∈ (t++[w]).take i++[c] then some r else hk L k):=by
       funext k
       by_cases z:k=c
       ·rw [if_pos z,if_pos (aU _ (by rw [z];exact aK.mpr rfl))];rfl
       ·rw [if_neg z]
        by_cases y:k ∈ (t++[w]).take i
        ·rw [if_pos y,if_pos (bx _ y)]
        ·rw [if_neg y,if_neg (fun x=>by
          rcases aX.mp x with x | x
          ·exact y x
          ·exact z (aK.mp x))]
      rw [this])
  have lT:(nD (t++[w])).length=(t++[w]).length:=aG _
  rw [lT,jL] at e
  have p2:=Kz (l:=(aH M).map fun s:Nat=>PyData.int (f s)) (by rw [aG,bB]) hr
  have s2:=BW (n:=M) (c:=r) (d:=.int (ek L w)) (fun s:Nat=>PyData.int (f s))
  have e2:((aH M).map fun s:Nat=>PyData.int (f s)).set r (.int (ek L w))=(aH M).map fun s:Nat=>PyData.int (f0 L r w f s):=by
   rw [s2]
   congr 1
   funext s
   unfold f0
   by_cases z:s=r
   ·rw [if_pos z,if_pos z]
   ·rw [if_neg z,if_neg z]
  have fl:flats ((aH M).map fun s:Nat=>PyData.int (f s))=true:=gG _ (fun _=>rfl) _
  have ef:Com.cO _=_:=ef
  unfold s0 at es
  unfold mJ
  generalize hSQ:(aH L.length).map (fun k=>hD (if k ∈ t++[w] then some r else hk L k))=SQ at *
  generalize hSP:(aH L.length).map (fun k=>hD (hk L k))=SP at *
  generalize hFB:(aH M).map (fun s:Nat=>PyData.int (f0 L r w f s))=FB at *
  generalize hFF:(aH M).map (fun s:Nat=>PyData.int (f s))=FF at *
  simp only [EV,reduceIte,aq,au,aj,ao,aA,aB,aC,len,C,zl1,cat]
  rw [e]
  simp only [EV,reduceIte,aq,au,aj,ao,aA,aB,aC,ef,nG,fl,aw,at1,p2,aJ,e2,es]
 ·obtain ⟨s,hs,hsM⟩:=q1 k hk'
  show (seat k).getD 0 < M
  rw [hs];exact hsM
 ·show (seat k).getD 0=s
  rw [q2 k s (by unfold s0;rw [if_neg (noT k (by rw [hs];exact fun z=>nomatch z))];exact hs)];rfl
 ·obtain ⟨s,hs,_⟩:=q1 p hp
  obtain ⟨s',hs',_⟩:=q1 q hq
  have e:(seat p).getD 0=(seat q).getD 0:=e
  rw [hs,hs'] at e
  rw [hs,hs',show s=s' from e]
 ·show (seat w).getD 0=r
  rw [sr w (aU _ (aK.mpr rfl))];rfl
 ·obtain ⟨s,hs,_⟩:=q1 k k1
  show (seat k).getD 0=r↔k ∈ t
  rw [hs]
  constructor
  ·intro z
   have z:s=r:=z
   rw [z] at hs
   rcases q4 k hs with y | y | y
   ·rcases aX.mp y with x | x
    ·exact x
    ·rw [aK.mp x] at k3;omega
   ·rw [k2] at y;cases y
   ·have:=W.lt w hw
    omega
  ·intro z
   have:=sr k (bx _ z)
   rw [hs] at this
   injection this
theorem Lf (ok:TOk L M now) {w r:Nat} {f h:Nat→Int} (hw:w < L.length) (hn:hk L w=none) (hr:r < M) (hf:∀ s,s < M→(∃ k,k < L.length∧hk L k=some s∧f s=ek L k)∨((∀ k,k < L.length→hk L k ≠ some s)∧f s=now))
 (hv:Xg.Valid (ssT L now) h) (hb:∀ k,k < L.length→0 ≤ h k∧h k < (M:Int)) (hh:∀ k s,k < L.length→hk L k=some s→h k=(s:Int)) (e:h w=(r:Int)) :
 f r ≤ bk L w∧∀ S,Sok L M w (f r) S→(∀ x,f r ≤ x→x < bk L w→(eE S x).isSome=true→∀ s ∈ stp L M w x,(eE S s.1).isSome=true)→(eE S (bk L w)).isSome=true:=by
 have W:=wd ok hw hn hr hf
 obtain ⟨h1,h2⟩:=Rch.reach W (h:=h) (fun k l k1 l1 kl a b=>hv k l k1 l1 kl a b) hb hh e
 refine ⟨h1,fun S so cl=>h2 (fun x=>(eE S x).isSome=true) (by show (eE S (f r)).isSome=true;rw [so.b];rfl) fun x x1 x2 x3=>⟨fun c=>?_,fun k g kx=>?_⟩⟩
 ·exact cl x x1 x2 x3 (x + 1,none) (uQ.mpr ⟨by rw [Eh];exact c,rfl⟩)
 ·exact cl x x1 x2 x3 (ek L k,some k) (uQ.mpr ⟨g,kx,rfl⟩)
theorem Qk (ok:TOk L M now) (hM:M ≤ 12) {w r:Nat} {f:Nat→Int} (hw:w < L.length) (hn:hk L w=none) (hr:r < M)
 (ef:cO [.list (L.map yD),.int (M:Int),.int now]=some (.list ((aH M).map fun s:Nat=>PyData.int (f s)))) (hf:∀ s,s < M→(∃ k,k < L.length∧hk L k=some s∧f s=ek L k)∨((∀ k,k < L.length→hk L k ≠ some s)∧f s=now))
 (hB:f r ≤ bk L w) (fB:0 ≤ f r) {S:List (Int × D)} (eS:fQ [.list (L.map yD),.int (M:Int),.int (w:Int),.int (f r)]=some (dtv S)) (so:Sok L M w (f r) S) (kg:(eE S (bk L w)).isSome=true) :
 ∃ (t:List Nat) (rr:Nat→Nat),eV [.list (L.map yD),.int (M:Int),.int now,.int (w:Int),.int (r:Int)]=some (.tuple [.str "yes", .list (nD t),.list (plD L.length fun k=>(rr k:Int))])∧Pn L M rr∧rr w=r ∧
  (∀ k,k < L.length→hk L k=none→bk L k < bk L w→(rr k=r↔k ∈ t))∧t.Pairwise (fun a b=>bk L a < bk L b)∧(∀ k ∈ t,k < L.length∧hk L k=none∧bk L k < bk L w)∧t.length < L.length:=by
 have l24:=ok.len
 have W:=wd ok hw hn hr hf
 have g400:bk L w ≤ 400:=by
  have h1:=(ok.bd _ (jO hw)).2
  have h2:=W.lt w hw
  have h1:ek L w ≤ 400:=h1
  omega
 obtain ⟨t,et,pt⟩:=Ld so kg (by omega)
 have mt:∀ k ∈ t,k < L.length∧hk L k=none∧bk L k < bk L w:=fun k hk'=>by
  obtain ⟨g,_,g2⟩:=pt.mem W k hk'
  have:=W.lt k g.1
  exact ⟨g.1,g.2.2.1,by omega⟩
 have pw:t.Pairwise fun a b=>bk L a < bk L b:=List.Pairwise.imp_of_mem (fun {a b} ha hb' q=>by
  have:=W.lt a (mt a ha).1
  omega) (pt.pw W)
 have nd:(w :: t).Nodup:=bU.mpr ⟨fun z=>(pt.mem W w z).1.2.1 rfl,pw.imp fun {a b} q z=>by rw [z] at q;omega⟩
 have tl:=List.Nodup.length_le_of_subset (l₂:=aH L.length) nd fun k hk'=>by
  rcases bF.mp hk' with rfl | z
  ·exact aY.mpr hw
  ·exact aY.mpr (mt k z).1
 rw [bQ,bB] at tl
 obtain ⟨rr,er,P,rw',rt⟩:=zY ok hM ef hw hn hr hf hB pt (by omega)
 refine ⟨t,rr,?_,P,rw',rt,pw,mt,by omega⟩
 have c1:=Ed ok hw hn
 have c2:Com.fK _=_:=zV hr
 have aw:=ay hw
 have ab:=zR (n:=M) (c:=r) (fun s:Nat=>PyData.int (f s)) hr
 have z1:decide (f r > bk L w)=false:=dFa (by omega)
 have ni:=yK (k:=bk L w) so.a
 rw [kg] at ni
 have fl:flats (nD t)=true:=gG _ (fun _=>rfl) _
 have ef:Com.cO _=_:=ef
 unfold eV
 simp only [EV,reduceIte,aq,au,aj,ao,aA,aB,aC,c1,c2,ef,ab,aw,at0,z1,eS,ni,bL,et,nG,fl,er,zl3]
theorem Lg {f:Nat→Int}:∀ {l1 l2:List Nat},l1.Pairwise (fun a b=>f a < f b)→l2.Pairwise (fun a b=>f a < f b)→(∀ x,x ∈ l1↔x ∈ l2)→l1=l2
 | [],[],_,_,_=>rfl
 | [],b :: _,_,_,h=>absurd ((h b).mpr aM) g_
 | a :: _,[],_,_,h=>absurd ((h a).mp aM) g_
 | a :: l1,b :: l2,p1,p2,h=>by
  obtain ⟨a1,a2⟩:=fM.mp p1
  obtain ⟨b1,b2⟩:=fM.mp p2
  have ab:a=b:=by
   rcases bF.mp ((h a).mp aM) with z | z
   ·exact z
   ·rcases bF.mp ((h b).mpr aM) with y | y
    ·exact y.symm
    ·have:=b1 a z
     have:=a1 b y
     omega
  subst ab
  rw [Lg a2 b2 fun x=>⟨fun hx=>by
   rcases bF.mp ((h x).mp (aO _ hx)) with z | z
   ·have:=a1 x hx
    rw [z] at this
    omega
   ·exact z,fun hx=>by
   rcases bF.mp ((h x).mpr (aO _ hx)) with z | z
   ·have:=b1 x hx
    rw [z] at this
    omega
   ·exact z⟩]
theorem Ql (P:List Nat) (f:Nat→Int):(Lq P f).Perm P∧(Lq P f).Pairwise fun a b=>f a ≤ f b:=by
 obtain ⟨L',e,p,s⟩:=wD P f
 rw [K8] at e
 have:Lq P f=L':=List.map_inj_right (fun a b q=>by injection q with q;omega) |>.mp e
 rw [this]
 exact ⟨p,s⟩
def inW (L:List Ty) (rr:Nat→Nat) (w:Nat):List Nat:=(aH L.length).filter fun k=>!(hk L k).isSome && decide (rr k=rr w)
theorem Ej {rr:Nat→Nat} {w r:Nat} {t:List Nat} (hl:L.length ≤ 24) (hw:w < L.length) (rw':rr w=r) (rt:∀ k,k < L.length→hk L k=none→bk L k < bk L w→(rr k=r↔k ∈ t)) (pw:t.Pairwise fun a b=>bk L a < bk L b) (mt:∀ k ∈ t,k < L.length∧hk L k=none∧bk L k < bk L w) :
 lC [.list (L.map yD),.list (plD L.length fun k=>(rr k:Int)),.int (w:Int)]=some (.list (nD t)):=by
 have aw:=ay hw
 have ap:∀ k,k < L.length→pAt (plD L.length fun k=>(rr k:Int)) (k:Int)=some (.int (rr k:Int)):=fun k hk'=>zR (fun k=>PyData.int (rr k:Int)) hk'
 have apw:=ap w hw
 have C1:fJ (gNl 0) (D3.iG (aW (dUn nA (dOp gIx (dOp gIx (aD 1) (aD 0)) (dC (.int 2))))) (aW (dOp gEq (dOp gIx (aD 2) (aD 0)) (dOp gIx (aD 2) (aD 3))))) (dX (dTup (aF (dOp gIx (dOp gIx (aD 1) (aD 0)) (dC (.int 0))) (aF (aD 0) (bh))))) (jM 1 [0,1,2] [some (.d (.list (L.map yD))),some (.d (.list (plD L.length fun k=>(rr k:Int)))),some (.d (.int (w:Int))),none]) (gh 0 (L.length:Int))=some ((inW L rr w).map fun k:Nat=>PyData.tuple [.int (bk L k),.int (k:Int)]):=by
  rw [zO,gD]
  exact zN (fun k:Nat=>PyData.int (k:Int)) (fun k=>!(hk L k).isSome && decide (rr k=rr w)) (fun k:Nat=>PyData.tuple [.int (bk L k),.int (k:Int)]) (aH L.length) fun k hk'=>⟨[some (.d (.int (k:Int))),some (.d (.list (L.map yD))),some (.d (.list (plD L.length fun k=>(rr k:Int)))),some (.d (.int (w:Int)))],rfl,by
   have ak:=ay (aY.mp hk')
   have apk:=ap k (aY.mp hk')
   have nn:=rZ (hk L k)
   have e1:decide ((rr k:Int)=(rr w:Int))=decide (rr k=rr w):=decide_eq_decide.mpr (by omega)
   cases c1:(hk L k).isSome with
   | true=>simp only [EV,reduceIte,aq,au,aj,ao,aA,aB,aC,ak,at2,nn,c1,bL,f9]
   | false=>simp only [EV,reduceIte,aq,au,aj,ao,aA,aB,aC,ak,at2,nn,c1,cC,jr,apk,apw,e1],fun _=>by
   have ak:=ay (aY.mp hk')
   simp only [EV,reduceIte,aq,au,aj,ao,aA,aB,aC,ak,at0,zl2]⟩
 have inc:(inW L rr w).Pairwise (· < ·):=List.Pairwise.filter _ List.pairwise_lt_range
 have il:(inW L rr w).length ≤ 24:=by
  have:=cW (fun k=>!(hk L k).isSome && decide (rr k=rr w)) (aH L.length)
  rw [bB] at this
  exact bM this hl
 have sp:=K9 (f:=bk L) inc (by omega)
 obtain ⟨lp,ls⟩:=Ql (inW L rr w) (bk L)
 have rg:oY (some [.int (L.length:Int)])=some (gh 0 (L.length:Int)):=BZ _ (by omega)
 have ll:((L.map yD).length:Int)=(L.length:Int):=by rw [aG]
 have mi:∀ k,k ∈ inW L rr w↔k < L.length∧hk L k=none∧rr k=r:=fun k=>by
  unfold inW
  rw [bR,aY,aL,decide_eq_true_iff,rw']
  have:(!(hk L k).isSome)=true↔hk L k=none:=by cases hk L k <;> simp
  rw [this]
 have fin:(Lq (inW L rr w) (bk L)).filter (fun k=>decide (bk L k < bk L w))=t:=by
  have mem:∀ x,x ∈ (Lq (inW L rr w) (bk L)).filter (fun k=>decide (bk L k < bk L w))↔x ∈ t:=fun x=>by
   rw [bR,lp.mem_iff,mi,decide_eq_true_iff]
   constructor
   ·rintro ⟨⟨h1,h2,h3⟩,h4⟩;exact (rt x h1 h2 h4).mp h3
   ·intro hx
    obtain ⟨h1,h2,h3⟩:=mt x hx
    exact ⟨⟨h1,h2,(rt x h1 h2 h3).mpr hx⟩,h3⟩
  refine Lg (f:=bk L) ?_ pw mem
  have nd:(Lq (inW L rr w) (bk L)).Nodup:=lp.nodup_iff.mpr (inc.imp fun {a b} q=>bO q)
  refine List.Pairwise.imp_of_mem ?_ ((List.Pairwise.filter _ ls).and (List.Pairwise.filter _ nd))
  intro a b ha hb' q
  have ha:=(mem a).mp ha
  have hb':=(mem b).mp hb'
  obtain ⟨i,hi,ei⟩:=gM ha
  obtain ⟨j,hj,ej⟩:=gM hb'
  have q1:=q.1
  rcases sH i j with z | z | z
  ·have:=dB.mp pw i j hi hj z
   rwa [ei,ej] at this
  ·subst z
   exact absurd (ei.symm.trans ej) q.2
  ·have:=dB.mp pw j i hj hi z
   rw [ei,ej] at this
   omega
 have ql:(Lq (inW L rr w) (bk L)).length ≤ 24:=by rw [lp.length_eq];exact il
 have C2:fJ (gTn 2 (cU (gNl 0) (cU (gNl 1) (lg)))) (aW (dOp gLt (aD 0) (dOp gIx (dOp gIx (aD 2) (aD 3)) (dC (.int 0))))) (dX (aD 1)) (jM 2 [0,2] [some (.d (.list (L.map yD))),some (.d (.list (plD L.length fun k=>(rr k:Int)))),some (.d (.int (w:Int))),some (.d (.list ((Lq (inW L rr w) (bk L)).map fun k:Nat=>PyData.tuple [.int (bk L k),.int (k:Int)])))]) ((Lq (inW L rr w) (bk L)).map fun k:Nat=>PyData.tuple [.int (bk L k),.int (k:Int)])=some (((Lq (inW L rr w) (bk L)).filter (fun k=>decide (bk L k < bk L w))).map fun k:Nat=>PyData.int (k:Int)):=by
  exact zN (fun k:Nat=>PyData.tuple [.int (bk L k),.int (k:Int)]) (fun k=>decide (bk L k < bk L w)) (fun k:Nat=>PyData.int (k:Int)) _ fun k _=>⟨[some (.d (.int (bk L k))),some (.d (.int (k:Int))),some (.d (.list (L.map yD))),some (.d (.int (w:Int)))],rfl,by simp only [EV,reduceIte,aq,au,aj,ao,aA,aB,aC,aw,at0],fun _=>by simp only [EV,reduceIte,aq,au,aj,ao,aA,aB,aC,fli]⟩
 rw [fin] at C2
 have rl:(gh 0 (L.length:Int)).length ≤ 100000:=by rw [m7];omega
 have ql':((Lq (inW L rr w) (bk L)).map fun k:Nat=>PyData.tuple [.int (bk L k),.int (k:Int)]).length ≤ 100000:=by rw [aG];omega
 unfold lC
 simp only [EV,reduceIte,aq,au,aj,ao,aA,aB,aC,ll,rg,rl,C1,sp,ql',C2]
 rfl
theorem Lh:ly 1 (.str "yes"):=⟨by decide +kernel,by simp [PyData.depth]⟩
theorem HD {rr:Nat→Nat} {w r:Nat} {t:List Nat} (hl:L.length ≤ 24) (hw:w < L.length) (P:Pn L M rr) (rw':rr w=r) (rt:∀ k,k < L.length→hk L k=none→bk L k < bk L w→(rr k=r↔k ∈ t)) (pw:t.Pairwise fun a b=>bk L a < bk L b) (mt:∀ k ∈ t,k < L.length∧hk L k=none∧bk L k < bk L w) (tl:t.length < L.length) :
 jt [.tuple [.str "yes", .list (nD t),.list (plD L.length fun k=>(rr k:Int))],.list (L.map yD),.int (M:Int),.int (w:Int),.int (r:Int)]=some (.bool true):=by
 obtain ⟨b,q1,q2⟩:=wG (L:=L) (M:=M) (ds:=plD L.length fun k=>(rr k:Int)) hl (Le _ _)
 rw [q2.mpr P.pk] at q1
 have ah:=Ej hl hw rw' rt pw mt
 have ap:pAt (plD L.length fun k=>(rr k:Int)) (w:Int)=some (.int (rr w:Int)):=zR (fun k=>PyData.int (rr k:Int)) hw
 rw [rw'] at ap
 have C:∀ δ0,fJ (gNl 0) (D3.jX) (dCall cJ (aF (aD 0) (bh))) (jM 1 [] δ0) (nD t)=some (t.map fun _=>PyData.bool true):=fun δ0=>by
  unfold nD
  exact wY (fun k:Nat=>PyData.int (k:Int)) (fun _=>PyData.bool true) t fun k _=>⟨[some (.d (.int (k:Int)))],rfl,rfl,by
   have:=lwh (.int (k:Int))
   have:Com.cJ _=_:=this
   simp only [EV,reduceIte,aq,au,aj,ao,aA,aB,aC,this]
   rfl⟩
 have al:vC [.list (t.map fun _=>PyData.bool true)]=some (.bool true):=by
  have:=allB (fun _:Nat=>true) t
  rw [this,eZ.mpr fun _ _=>rfl]
 have tl':(nD t).length ≤ 100000:=by unfold nD;rw [aG];omega
 have es:=Com.eq_self (d:=.list (nD t)) (Fy (n:=2) (Pz (Fz _ (fun _=>Ur) _)) (by decide))
 have ny:gNe (.str "yes") (.str "yes")=some (.bool false):=ne_self (Fy Lh (by decide))
 have i1:D3.isT "tuple" (tyD (.tuple [.str "yes", .list (nD t),.list (plD L.length fun k=>(rr k:Int))]))=true:=rfl
 have i2:D3.isT "list" (tyD (.list (nD t)))=true:=rfl
 have zr:decide ((r:Int)=(r:Int))=true:=dTr rfl
 unfold jt
 simp only [EV,reduceIte,aq,au,aj,ao,aA,aB,aC,i1,i2,at0,at1,at2,ny,bL,q1,ap,zr,tl',C,al,ah,es]
end
section
variable {L:List Ty} {M:Nat} {now:Int}
def ks (S:List (Int × D)):List Int:=oO (S.map (·.1))
theorem wH {S:List (Int × D)} {x:Int}:x ∈ ks S↔(eE S x).isSome=true:=by
 unfold ks
 rw [(iZ _).mem_iff,zX]
theorem Xe {S:List (Int × D)} (h:(S.map (·.1)).Nodup):(ks S).Pairwise (· < ·):=by
 have nd:(ks S).Nodup:=(iZ _).nodup_iff.mpr h
 refine ((nZ _).and nd).imp fun {a b} q=>?_
 have:=q.1
 have:=q.2
 omega
theorem Sok.rg {w:Nat} {B:Int} {S:List (Int × D)} (h:Sok L M w B S) (hB:B ≤ bk L w) {x:Int} (hx:(eE S x).isSome=true):B ≤ x∧x ≤ bk L w:=by
 obtain ⟨d,ed⟩:=cR.mp hx
 rcases h.c x d ed with ⟨rfl,_⟩ | ⟨y,p,_,y1,y2,y3,_,y5⟩
 ·exact ⟨gY _,hB⟩
 ·refine ⟨by omega,?_⟩
  cases p with
  | none =>
   have:x=y + 1:=y5.2
   omega
  | some k =>
   have h1:ek L k=x:=y5.2.2
   have h2:ek L k ≤ bk L w:=y5.1.2.2.2
   omega
theorem Sok.len {w:Nat} {B:Int} {S:List (Int × D)} (h:Sok L M w B S) (hB:B ≤ bk L w) (g4:bk L w ≤ B + 59):S.length ≤ 60:=by
 have:=List.Nodup.length_le_of_subset (l₂:=(aH 60).map fun k:Nat=>B + (k:Int)) h.nd fun x hx=>by
  obtain ⟨h1,h2⟩:=h.rg hB (zX.mpr hx)
  exact cQ.mpr ⟨(x - B).toNat,aY.mpr (by omega),by omega⟩
 rwa [aG,aG,bB] at this
theorem Li {S:List (Int × D)} (hA:tvA S=true) (h:S.length < 64):tG [dtv S]=some (.list ((ks S).map .int)):=by
 unfold tG
 dsimp only
 rw [rB hA,aJ,if_pos h]
 rfl
theorem Xf:ly 1 (.str "no"):=⟨by decide +kernel,by simp [PyData.depth]⟩
theorem Qm (ok:TOk L M now) {w r:Nat} {f:Nat→Int} (hw:w < L.length) (hn:hk L w=none) (hr:r < M)
 (ef:cO [.list (L.map yD),.int (M:Int),.int now]=some (.list ((aH M).map fun s:Nat=>PyData.int (f s)))) (hB:bk L w < f r) :
 eV [.list (L.map yD),.int (M:Int),.int now,.int (w:Int),.int (r:Int)]=some (.tuple [.str "no", .list []]):=by
 have c1:=Ed ok hw hn
 have c2:Com.fK _=_:=zV hr
 have aw:=ay hw
 have ab:=zR (n:=M) (c:=r) (fun s:Nat=>PyData.int (f s)) hr
 have z1:decide (f r > bk L w)=true:=dTr hB
 have ef:Com.cO _=_:=ef
 unfold eV
 simp only [EV,reduceIte,aq,au,aj,ao,aA,aB,aC,c1,c2,ef,ab,aw,at0,z1,zl0,zl2]
theorem Qn (ok:TOk L M now) {w r:Nat} {f:Nat→Int} (hw:w < L.length) (hn:hk L w=none) (hr:r < M)
 (ef:cO [.list (L.map yD),.int (M:Int),.int now]=some (.list ((aH M).map fun s:Nat=>PyData.int (f s)))) (hB:f r ≤ bk L w)
 {S:List (Int × D)} (eS:fQ [.list (L.map yD),.int (M:Int),.int (w:Int),.int (f r)]=some (dtv S)) (hA:tvA S=true) (hl:S.length < 64) (kg:(eE S (bk L w)).isSome=false) :
 eV [.list (L.map yD),.int (M:Int),.int now,.int (w:Int),.int (r:Int)]=some (.tuple [.str "no", .list ((ks S).map .int)]):=by
 have c1:=Ed ok hw hn
 have c2:Com.fK _=_:=zV hr
 have aw:=ay hw
 have ab:=zR (n:=M) (c:=r) (fun s:Nat=>PyData.int (f s)) hr
 have z1:decide (f r > bk L w)=false:=dFa (by omega)
 have ef:Com.cO _=_:=ef
 have ni:=yK (k:=bk L w) hA
 rw [kg] at ni
 have ts:=Li hA hl
 unfold eV
 simp only [EV,reduceIte,aq,au,aj,ao,aA,aB,aC,c1,c2,ef,ab,aw,at0,z1,eS,ni,cC,ts,zl2]
theorem Lj (ok:TOk L M now) {r:Nat} {f:Nat→Int} (hr:r < M) (hf:∀ s,s < M→(∃ k,k < L.length∧hk L k=some s∧f s=ek L k)∨((∀ k,k < L.length→hk L k ≠ some s)∧f s=now)) :
 fZ [.list (L.map yD),.int now,.int (r:Int)]=some (.int (f r)):=by
 have F:=zU (v:=.int (f r)) (g:=(gTn 3 (cU (gNl 3) (cU (gNl 4) (cU (gNl 5) (lg)))))) (b:=(sIf (D3.iG (aW (dUn kE (aD 5))) (aW (dOp gEq (aD 5) (aD 2)))) (cT (dX (aD 4))) (cZ)))
  (fun _ δ=>∃ x y z,δ=[some (.d (.list (L.map yD))),some (.d (.int now)),some (.d (.int (r:Int))),x,y,z]) (fun i=>hk L i ≠ some r) (L.map yD)
  [some (.d (.list (L.map yD))),some (.d (.int now)),some (.d (.int (r:Int))),none,none,none] ⟨none,none,none,rfl⟩ (by
   rintro i d δ hd' _ ⟨x,y,z,rfl⟩
   have hi:i < L.length:=by
    have:=(cP.mp hd').1
    rwa [aG] at this
   have e:d = .tuple [.int (bk L i),.int (ek L i),hD (hk L i)]:=by
    have:=ay hi
    rw [jV,hd'] at this
    injection this
   subst e
   refine ⟨[some (.d (.list (L.map yD))),some (.d (.int now)),some (.d (.int (r:Int))),some (.d (.int (bk L i))),some (.d (.int (ek L i))),some (.d (hD (hk L i)))],rfl,?_⟩
   cases hh:hk L i with
   | none =>
    have nn:isNone (hD none)=true:=rfl
    refine .inl ⟨(fun z=>by cases z),[some (.d (.list (L.map yD))),some (.d (.int now)),some (.d (.int (r:Int))),some (.d (.int (bk L i))),some (.d (.int (ek L i))),some (.d (hD none))],?_,_,_,_,rfl⟩
    simp only [EV,reduceIte,aq,au,aj,ao,aA,aB,aC,nn,bL]
   | some s =>
    have nn:isNone (hD (some s))=false:=rfl
    by_cases c:s=r
    ·subst c
     refine .inr ⟨fun z=>z rfl,?_⟩
     have ef:ek L i=f s:=by
      rcases hf s hr with ⟨k,k1,k2,k3⟩ | ⟨k1,_⟩
      ·rw [k3,wF ok.nd hi k1 hh k2]
      ·exact absurd hh (k1 i hi)
     have q:gEq (hD (some s)) (.int (s:Int))=some (.bool true):=by
      show gEq (.int (s:Int)) (.int (s:Int))=_
      rw [Kh,dTr rfl]
     rw [ef]
     simp only [EV,reduceIte,aq,au,aj,ao,aA,aB,aC,nn,cC,q,fli]
    ·refine .inl ⟨fun z=>c (by injection z),[some (.d (.list (L.map yD))),some (.d (.int now)),some (.d (.int (r:Int))),some (.d (.int (bk L i))),some (.d (.int (ek L i))),some (.d (hD (some s)))],?_,_,_,_,rfl⟩
     have q:gEq (hD (some s)) (.int (r:Int))=some (.bool false):=by
      show gEq (.int (s:Int)) (.int (r:Int))=_
      rw [Kh,dFa (by omega)]
     simp only [EV,reduceIte,aq,au,aj,ao,aA,aB,aC,nn,cC,q])
 show Com.fZ _=_
 unfold Com.fZ
 rcases F with ⟨δ',e,⟨x,y,z,rfl⟩,a⟩ | ⟨e,_⟩
 ·have ef:f r=now:=by
   rcases hf r hr with ⟨k,k1,k2,k3⟩ | ⟨_,k2⟩
   ·exact absurd k2 (a k (by rw [aG];exact k1))
   ·exact k2
  rw [ef]
  simp only [EV,reduceIte,aq,au,aj,ao,aA,aB,aC]
  rw [e]
  simp only [EV,reduceIte,aq,au,aj,ao,aA,aB,aC,fli]
 ·simp only [EV,reduceIte,aq,au,aj,ao,aA,aB,aC]
  rw [e]
  simp only [EV,reduceIte,aq,au,aj,ao,aA,aB,aC]
theorem yL {Q:List Int} (h:Q.Pairwise (· < ·)) (hl:Q.length ≤ 1000):eG [.list (Q.map .int)]=some (.bool true):=by
 have C1:∀ δ0,fJ (gNl 0) (D3.jX) (dCall cJ (aF (aD 0) (bh))) (jM 1 [] δ0) (Q.map .int)=some (Q.map fun _=>PyData.bool true):=fun δ0=>by
  exact wY (fun k:Int=>PyData.int k) (fun _=>PyData.bool true) Q fun k _=>⟨[some (.d (.int k))],rfl,rfl,by
   have:=lwh (.int k)
   have:Com.cJ _=_:=this
   simp only [EV,reduceIte,aq,au,aj,ao,aA,aB,aC,this]
   rfl⟩
 have a1:vC [.list (Q.map fun _=>PyData.bool true)]=some (.bool true):=by
  have:=allB (fun _:Int=>true) Q
  rw [this,eZ.mpr fun _ _=>rfl]
 have C2:fJ (gNl 0) (D3.jX) (dOp gLt (dOp gIx (aD 1) (aD 0)) (dOp gIx (aD 1) (dOp jd (aD 0) (dC (.int 1))))) (jM 1 [0] [some (.d (.list (Q.map .int)))]) (gh 0 ((Q.length:Int) - 1))=some ((aH ((Q.length:Int) - 1).toNat).map fun _=>PyData.bool true):=by
  rw [zO]
  exact wY (fun k:Nat=>PyData.int (k:Int)) (fun _=>PyData.bool true) _ fun k hk'=>⟨[some (.d (.int (k:Int))),some (.d (.list (Q.map .int)))],rfl,rfl,by
   have hk':=aY.mp hk'
   have k1:k + 1 < Q.length:=by omega
   have b0:pAt (Q.map PyData.int) (k:Int)=some (.int (Q[k]'(by omega))):=by rw [jV,aQ,aN (by omega)];rfl
   have b1:pAt (Q.map PyData.int) ((k:Int) + 1)=some (.int (Q[k + 1]'k1)):=by rw [show (k:Int) + 1=((k + 1:Nat):Int) by omega,jV,aQ,aN k1];rfl
   have lt:=dB.mp h k (k + 1) (by omega) k1 (by omega)
   simp only [EV,reduceIte,aq,au,aj,ao,aA,aB,aC,b0,b1,dTr lt]⟩
 have a2:vC [.list ((aH ((Q.length:Int) - 1).toNat).map fun _=>PyData.bool true)]=some (.bool true):=by
  have:=allB (fun _:Nat=>true) (aH ((Q.length:Int) - 1).toNat)
  rw [this,eZ.mpr fun _ _=>rfl]
 have rg:oY (some [.int ((Q.length:Int) - 1)])=some (gh 0 ((Q.length:Int) - 1)):=Ko (by omega) (by omega)
 have ll:((Q.map PyData.int).length:Int)=(Q.length:Int):=by rw [aG]
 have l1:(Q.map PyData.int).length ≤ 100000:=by rw [aG];omega
 have l2:(gh 0 ((Q.length:Int) - 1)).length ≤ 100000:=by rw [m7];omega
 have i2:D3.isT "list" (tyD (.list (Q.map PyData.int)))=true:=rfl
 show Com.eG _=_
 unfold Com.eG
 simp only [EV,reduceIte,aq,au,aj,ao,aA,aB,aC,i2,l1,C1,a1,bL,ll,rg,l2,C2,a2]
end
section
variable {L:List Ty} {M:Nat} {now:Int}
theorem inI (cs:List Int) (x:Int):gIn (.int x) (.list (cs.map .int))=some (.bool (decide (x ∈ cs))):=by
 show (if (SeqAt.shaped (.int x) && SeqAt.shaped (.list (cs.map .int)))=true then some (PyData.bool ((cs.map PyData.int).any fun z=>PyData.eqv z (.int x))) else none)=_
 rw [shaped_ints cs,if_pos (by rfl),List.any_map]
 congr 2
 rw [mO,jK,decide_eq_true_eq]
 constructor
 ·rintro ⟨y,h1,h2⟩
  have h2:PyData.eqv (.int y) (.int x)=true:=h2
  have:y=x:=by simpa [PyData.eqv] using h2
  rw [← this];exact h1
 ·intro h
  exact ⟨x,h,by show PyData.eqv (.int x) (.int x)=true;simp [PyData.eqv]⟩
theorem Lk (cs:List Int) (x:Int):rT (.int x) (.list (cs.map .int))=some (.bool (!decide (x ∈ cs))):=by
 have:=inI cs x
 unfold gIn at this
 unfold rT
 dsimp only at this ⊢
 split at this
 ·next c =>
  rw [if_pos c]
  injection this with this
  injection this with this
  rw [this]
 ·cases this
def nxt (L:List Ty) (M w:Nat) (x:Int):List Int:=(if je L x < M then [x + 1] else [])++(gos L w x).map (ek L)
theorem Yr (g:FG) (c:FT) (e:FE) (hg:g=gNl 0) (hc:c=D3.iG (aW (dOp gLe (dOp gIx (aD 0) (dC (.int 0))) (aD 1))) (aW (dOp gLt (aD 1) (dOp gIx (aD 0) (dC (.int 1)))))) (he:e=dX (aD 0)) (x:Int) (δ:DS) (hd:δ=[none,some (.d (.int x))]):fJ g c e δ (L.map yD)=some ((L.filter (hol x)).map yD):=by
 subst hg hc he hd
 exact zN yD (hol x) yD L fun s _=>⟨[some (.d (yD s)),some (.d (.int x))],rfl,by
  obtain ⟨a,b,c⟩:=s
  unfold yD hol
  dsimp only
  cases c1:decide (a ≤ x) with
  | true=>simp only [EV,reduceIte,aq,au,aj,ao,aA,aB,aC,at0,at1,c1,jr]
  | false=>simp only [EV,reduceIte,aq,au,aj,ao,aA,aB,aC,at0,at1,c1,f9],fun _=>by
  have fl:flat (yD s)=true:=by obtain ⟨a,b,c⟩:=s;cases c <;> rfl
  simp only [EV,reduceIte,aq,au,aj,ao,aA,aB,aC,fl]⟩
theorem Qo {w:Nat} {x:Int} (hl:L.length ≤ 24) (hw:w < L.length):kI [.list (L.map yD),.int (M:Int),.int (w:Int),.int x]=some (.list ((nxt L M w x).map .int)):=by
 have aw:=ay hw
 have loop:∀ (h:List Int),h.length ≤ 1→∃ u5 u6 u7 u8,jB ((gNl 5)) ((bY (GC (dOp gIx (aD 0) (aD 5)) (gTn 3 (cU (gNl 6) (cU (gNl 7) (cU (gNl 8) (lg)))))) (sIf (D3.iG (aW (dOp gNe (aD 5) (aD 2))) (D3.iG (aW (dUn nA (aD 8))) (D3.iG (aW (dOp gEq (aD 6) (aD 3))) (aW (dOp gLe (aD 7) (dOp gIx (dOp gIx (aD 0) (aD 2)) (dC (.int 0)))))))) (sU 4 (aD 7)) (cZ)))) (gh 0 (L.length:Int)) [some (.d (.list (L.map yD))),some (.d (.int (M:Int))),some (.d (.int (w:Int))),some (.d (.int x)),some (.d (.list (h.map .int))),none,none,none,none] =
  some (.nx [some (.d (.list (L.map yD))),some (.d (.int (M:Int))),some (.d (.int (w:Int))),some (.d (.int x)),some (.d (.list ((h++(gos L w x).map (ek L)).map .int))),u5,u6,u7,u8]):=fun h h1=>by
  obtain ⟨δ',e,u5,u6,u7,u8,rfl⟩:=iK (g:=(gNl 5)) (b:=(bY (GC (dOp gIx (aD 0) (aD 5)) (gTn 3 (cU (gNl 6) (cU (gNl 7) (cU (gNl 8) (lg)))))) (sIf (D3.iG (aW (dOp gNe (aD 5) (aD 2))) (D3.iG (aW (dUn nA (aD 8))) (D3.iG (aW (dOp gEq (aD 6) (aD 3))) (aW (dOp gLe (aD 7) (dOp gIx (dOp gIx (aD 0) (aD 2)) (dC (.int 0)))))))) (sU 4 (aD 7)) (cZ))))
   (fun i δ=>∃ u5 u6 u7 u8,δ=[some (.d (.list (L.map yD))),some (.d (.int (M:Int))),some (.d (.int (w:Int))),some (.d (.int x)),some (.d (.list ((h++((aH i).filter fun k=>gA L w k x).map (ek L)).map .int))),u5,u6,u7,u8]) (gh 0 (L.length:Int))
   [some (.d (.list (L.map yD))),some (.d (.int (M:Int))),some (.d (.int (w:Int))),some (.d (.int x)),some (.d (.list (h.map .int))),none,none,none,none] ⟨none,none,none,none,by rw [List.range_zero,pX,kJ,cH]⟩ (by
    rintro i d δ hd ⟨u5,u6,u7,u8,rfl⟩
    obtain ⟨hi,rfl⟩:=pN hd
    have hi:i < L.length:=by omega
    have ai:=ay hi
    have nn:=rZ (hk L i)
    have e1:decide ((i:Int)=(w:Int))=decide (i=w):=decide_eq_decide.mpr (by omega)
    have ml:(((aH i).filter fun k=>gA L w k x).map (ek L)).length ≤ 24:=by
     rw [aG]
     have:=cW (fun k=>gA L w k x) (aH i)
     rw [bB] at this
     omega
    have ll:((h++((aH i).filter fun k=>gA L w k x).map (ek L)).map PyData.int).length < 1000000:=by
     rw [aG,bH];omega
    have et:((aH (i + 1)).filter fun k=>gA L w k x).map (ek L)=((aH i).filter fun k=>gA L w k x).map (ek L)++(if gA L w i x=true then [ek L i] else []):=by
     rw [pY,h_,cL]
     by_cases c:gA L w i x=true
     ·rw [dJ (p:=fun k=>gA L w k x) c,if_pos c];rfl
     ·rw [dM (p:=fun k=>gA L w k x) c,if_neg c];rfl
    rw [et]
    generalize ((aH i).filter fun k=>gA L w k x).map (ek L)=Z at *
    by_cases c:gA L w i x=true
    ·rw [if_pos c]
     refine ⟨_,[some (.d (.list (L.map yD))),some (.d (.int (M:Int))),some (.d (.int (w:Int))),some (.d (.int x)),some (.d (.list ((h++Z).map .int++[.int (ek L i)]))),some (.d (.int (i:Int))),some (.d (.int (bk L i))),some (.d (.int (ek L i))),some (.d (hD (hk L i)))],rfl,.inl ?_,some (.d (.int (i:Int))),some (.d (.int (bk L i))),some (.d (.int (ek L i))),some (.d (hD (hk L i))),?_⟩
     ·unfold gA at c
      rw [aL,aL,aL] at c
      obtain ⟨c1,c2,c3,c4⟩:=c
      have c1:decide (i=w)=false:=by simpa using c1
      have g1:gTn 3 (cU (gNl 6) (cU (gNl 7) (cU (gNl 8) lg))) (.tuple [.int (bk L i),.int (ek L i),hD (hk L i)]) [some (.d (.list (L.map yD))),some (.d (.int (M:Int))),some (.d (.int (w:Int))),some (.d (.int x)),some (.d (.list ((h++Z).map .int))),some (.d (.int (i:Int))),u6,u7,u8]=some [some (.d (.list (L.map yD))),some (.d (.int (M:Int))),some (.d (.int (w:Int))),some (.d (.int x)),some (.d (.list ((h++Z).map .int))),some (.d (.int (i:Int))),some (.d (.int (bk L i))),some (.d (.int (ek L i))),some (.d (hD (hk L i)))]:=rfl
      simp only [EV,reduceIte,aq,au,aj,ao,aA,aB,aC,ai,g1,e1,c1,cC,nn,c2,c3,aw,at0,c4,ll]
     ·rw [← jx,cL (f:=PyData.int) (l₁:=h++Z)]
      rfl
    ·rw [if_neg c,cH]
     refine ⟨_,[some (.d (.list (L.map yD))),some (.d (.int (M:Int))),some (.d (.int (w:Int))),some (.d (.int x)),some (.d (.list ((h++Z).map .int))),some (.d (.int (i:Int))),some (.d (.int (bk L i))),some (.d (.int (ek L i))),some (.d (hD (hk L i)))],rfl,.inl ?_,_,_,_,_,rfl⟩
     have g1:gTn 3 (cU (gNl 6) (cU (gNl 7) (cU (gNl 8) lg))) (.tuple [.int (bk L i),.int (ek L i),hD (hk L i)]) [some (.d (.list (L.map yD))),some (.d (.int (M:Int))),some (.d (.int (w:Int))),some (.d (.int x)),some (.d (.list ((h++Z).map .int))),some (.d (.int (i:Int))),u6,u7,u8]=some [some (.d (.list (L.map yD))),some (.d (.int (M:Int))),some (.d (.int (w:Int))),some (.d (.int x)),some (.d (.list ((h++Z).map .int))),some (.d (.int (i:Int))),some (.d (.int (bk L i))),some (.d (.int (ek L i))),some (.d (hD (hk L i)))]:=rfl
     unfold gA at c
     cases c1:decide (i=w) with
     | true=>simp only [EV,reduceIte,aq,au,aj,ao,aA,aB,aC,ai,g1,e1,c1,bL]
     | false =>
      rw [c1] at c
      cases c2:(hk L i).isSome with
      | true=>simp only [EV,reduceIte,aq,au,aj,ao,aA,aB,aC,ai,g1,e1,c1,cC,nn,c2,bL]
      | false =>
       rw [c2] at c
       cases c3:decide (bk L i=x) with
       | false=>simp only [EV,reduceIte,aq,au,aj,ao,aA,aB,aC,ai,g1,e1,c1,cC,nn,c2,c3]
       | true =>
        rw [c3] at c
        cases c4:decide (ek L i ≤ bk L w) with
        | false=>simp only [EV,reduceIte,aq,au,aj,ao,aA,aB,aC,ai,g1,e1,c1,cC,nn,c2,c3,aw,at0,c4]
        | true=>rw [c4] at c;exact absurd rfl c)
  rw [m7,gD] at *
  exact ⟨u5,u6,u7,u8,e⟩
 have C:=Yr (L:=L) ((gNl 0)) ((D3.iG (aW (dOp gLe (dOp gIx (aD 0) (dC (.int 0))) (aD 1))) (aW (dOp gLt (aD 1) (dOp gIx (aD 0) (dC (.int 1))))))) ((dX (aD 0))) rfl rfl rfl x (jM 1 [3] [some (.d (.list (L.map yD))),some (.d (.int (M:Int))),some (.d (.int (w:Int))),some (.d (.int x)),some (.d (.list [])),none,none,none,none]) rfl
 have len:(L.map yD).length ≤ 100000:=by rw [aG];omega
 have ll:((L.map yD).length:Int)=(L.length:Int):=by rw [aG]
 have cl:(((L.filter (hol x)).map yD).length:Int)=(je L x:Int):=by rw [aG];rfl
 have rg:oY (some [.int (L.length:Int)])=some (gh 0 (L.length:Int)):=BZ _ (by omega)
 have fl:∀ l:List Int,flats (l.map PyData.int)=true:=fun l=>gG _ (fun _=>rfl) _
 unfold nxt
 unfold kI
 by_cases c:je L x < M
 ·rw [if_pos c]
  obtain ⟨u5,u6,u7,u8,e⟩:=loop [x + 1] (by simp)
  have dc:decide ((je L x:Int) < (M:Int))=true:=dTr (by omega)
  have z1:([]:List D).length < 1000000:=by decide
  simp only [EV,reduceIte,aq,au,aj,ao,aA,aB,aC,zl0,len,C,cl,dc,z1,ll,rg]
  have e':([x + 1].map PyData.int)=[PyData.int (x + 1)]:=rfl
  rw [e'] at e
  rw [e]
  simp only [EV,reduceIte,aq,au,aj,ao,aA,aB,aC,nG,fl]
 ·rw [if_neg c]
  obtain ⟨u5,u6,u7,u8,e⟩:=loop [] (by simp)
  have dc:decide ((je L x:Int) < (M:Int))=false:=dFa (by omega)
  simp only [EV,reduceIte,aq,au,aj,ao,aA,aB,aC,zl0,len,C,cl,dc,ll,rg]
  have e':(([]:List Int).map PyData.int)=[]:=rfl
  rw [e'] at e
  rw [e]
  simp only [EV,reduceIte,aq,au,aj,ao,aA,aB,aC,nG,fl]
end
section
variable {L:List Ty} {M:Nat} {now:Int}
theorem Ln (ok:TOk L M now) {w r:Nat} {f:Nat→Int} (hw:w < L.length) (hr:r < M) (hf:∀ s,s < M→(∃ k,k < L.length∧hk L k=some s∧f s=ek L k)∨((∀ k,k < L.length→hk L k ≠ some s)∧f s=now)) (hB:bk L w < f r) :
 iQ [.list (L.map yD),.int (M:Int),.int now,.int (w:Int),.int (r:Int),.list []]=some (.bool true):=by
 have bg:Com.fZ _=_:=Lj ok hr hf
 have aw:=ay hw
 have ri:Com.eG _=_:=yL (Q:=[]) .nil (by decide)
 have ri:Com.eG [.list []]=some (.bool true):=ri
 have z1:decide (f r > bk L w)=true:=dTr hB
 have es:gEq (.list []) (.list [])=some (.bool true):=rfl
 unfold iQ
 simp only [EV,reduceIte,aq,au,aj,ao,aA,aB,aC,bg,aw,at0,ri,bL,z1,zl0,es]
theorem Qq {Q:List Int} (h:0 < Q.length):pAt (Q.map PyData.int) (-1)=some (.int (Q[Q.length - 1]'(by omega))):=by
 unfold pAt pIx
 rw [if_neg (by omega),aG,if_pos (by omega)]
 rw [show (-1 + (Q.length:Int)).toNat=Q.length - 1 by omega,aJ,aQ,aN (by omega)]
 rfl
theorem Lp (ok:TOk L M now) {w r:Nat} {f:Nat→Int} (hw:w < L.length) (hr:r < M) (hf:∀ s,s < M→(∃ k,k < L.length∧hk L k=some s∧f s=ek L k)∨((∀ k,k < L.length→hk L k ≠ some s)∧f s=now)) (hB:f r ≤ bk L w)
 {Q:List Int} (hQ:Q.Pairwise (· < ·)) (hl:Q.length ≤ 1000) (hb:f r ∈ Q) (hg:bk L w ∉ Q) (rg:∀ x ∈ Q,f r ≤ x∧x ≤ bk L w) (cl:∀ x ∈ Q,∀ y ∈ nxt L M w x,y ∈ Q) :
 iQ [.list (L.map yD),.int (M:Int),.int now,.int (w:Int),.int (r:Int),.list (Q.map .int)]=some (.bool true):=by
 have l24:=ok.len
 have bg:Com.fZ _=_:=Lj ok hr hf
 have aw:=ay hw
 have ri:Com.eG _=_:=yL hQ hl
 have z1:decide (f r > bk L w)=false:=dFa (by omega)
 have q0:0 < Q.length:=by
  cases Q with
  | nil=>cases hb
  | cons _ _=>exact Nat.succ_pos _
 have n1:=Lk Q (f r)
 rw [dTr hb] at n1
 have n2:=inI Q (bk L w)
 rw [dFa hg] at n2
 have a0:pAt (Q.map PyData.int) 0=some (.int (Q[0]'q0)):=by
  have:=jV (l:=Q.map PyData.int) (k:=0)
  rw [aQ,aN q0] at this
  exact this
 have a1:=Qq q0
 have r0:=(rg _ (jJ q0)).1
 have r1:=(rg _ (jJ (show Q.length - 1 < Q.length by omega))).2
 have z2:decide (Q[0]'q0 < f r)=false:=dFa (by omega)
 have z3:decide (Q[Q.length - 1]'(by omega) > bk L w)=false:=dFa (by omega)
 obtain ⟨δ',e,u8,u9,rfl⟩:=iK (g:=(gNl 8)) (b:=(jD (jP (dCall kI (aF (aD 0) (aF (aD 1) (aF (aD 3) (aF (aD 8) (bh))))))) (gNl 9) (sIf (aW (dOp rT (aD 9) (aD 5))) (cT (dC (.bool false))) (cZ))))
  (fun i δ=>∃ u8 u9:Option U,δ=[some (.d (.list (L.map yD))),some (.d (.int (M:Int))),some (.d (.int now)),some (.d (.int (w:Int))),some (.d (.int (r:Int))),some (.d (.list (Q.map .int))),some (.d (.int (f r))),some (.d (.int (bk L w))),u8,u9]) (Q.map .int)
  [some (.d (.list (L.map yD))),some (.d (.int (M:Int))),some (.d (.int now)),some (.d (.int (w:Int))),some (.d (.int (r:Int))),some (.d (.list (Q.map .int))),some (.d (.int (f r))),some (.d (.int (bk L w))),none,none] ⟨none,none,rfl⟩ (by
   rintro i d δ hd ⟨u8,u9,rfl⟩
   obtain ⟨x,hx,rfl⟩:=cQ.mp (eX hd)
   have nx:=Qo (M:=M) (x:=x) l24 hw
   obtain ⟨δ2,e2,v9,rfl⟩:=iK (g:=(gNl 9)) (b:=(sIf (aW (dOp rT (aD 9) (aD 5))) (cT (dC (.bool false))) (cZ)))
    (fun i δ=>∃ u9:Option U,δ=[some (.d (.list (L.map yD))),some (.d (.int (M:Int))),some (.d (.int now)),some (.d (.int (w:Int))),some (.d (.int (r:Int))),some (.d (.list (Q.map .int))),some (.d (.int (f r))),some (.d (.int (bk L w))),some (.d (.int x)),u9]) ((nxt L M w x).map .int)
    [some (.d (.list (L.map yD))),some (.d (.int (M:Int))),some (.d (.int now)),some (.d (.int (w:Int))),some (.d (.int (r:Int))),some (.d (.list (Q.map .int))),some (.d (.int (f r))),some (.d (.int (bk L w))),some (.d (.int x)),u9] ⟨u9,rfl⟩ (by
     rintro j d δ hd ⟨u9,rfl⟩
     obtain ⟨y,hy,rfl⟩:=cQ.mp (eX hd)
     have n3:=Lk Q y
     rw [dTr (cl x hx y hy)] at n3
     refine ⟨_,[some (.d (.list (L.map yD))),some (.d (.int (M:Int))),some (.d (.int now)),some (.d (.int (w:Int))),some (.d (.int (r:Int))),some (.d (.list (Q.map .int))),some (.d (.int (f r))),some (.d (.int (bk L w))),some (.d (.int x)),some (.d (.int y))],rfl,.inl ?_,_,rfl⟩
     simp only [EV,reduceIte,aq,au,aj,ao,aA,aB,aC,n3,bL])
   refine ⟨_,[some (.d (.list (L.map yD))),some (.d (.int (M:Int))),some (.d (.int now)),some (.d (.int (w:Int))),some (.d (.int (r:Int))),some (.d (.list (Q.map .int))),some (.d (.int (f r))),some (.d (.int (bk L w))),some (.d (.int x)),v9],rfl,.inl ?_,_,_,rfl⟩
   simp only [EV,reduceIte,aq,au,aj,ao,aA,aB,aC,nx]
   exact e2)
 unfold iQ
 simp only [EV,reduceIte,aq,au,aj,ao,aA,aB,aC,bg,aw,at0,ri,bL,z1,n1,n2,a0,z2,a1,z3]
 rw [e]
 simp only [EV,reduceIte,aq,au,aj,ao,aA,aB,aC]
theorem UG (ok:TOk L M now) {w r:Nat} {f:Nat→Int} (hw:w < L.length) (hr:r < M) (hf:∀ s,s < M→(∃ k,k < L.length∧hk L k=some s∧f s=ek L k)∨((∀ k,k < L.length→hk L k ≠ some s)∧f s=now)) (hB:f r ≤ bk L w) (g4:bk L w ≤ f r + 59)
 {S:List (Int × D)} (so:Sok L M w (f r) S) (cl:∀ x,f r ≤ x→x < bk L w→(eE S x).isSome=true→∀ s ∈ stp L M w x,(eE S s.1).isSome=true) (kg:(eE S (bk L w)).isSome=false) :
 iQ [.list (L.map yD),.int (M:Int),.int now,.int (w:Int),.int (r:Int),.list ((ks S).map .int)]=some (.bool true):=by
 have len:=so.len hB g4
 have kl:(ks S).length=S.length:=by unfold ks;rw [(iZ _).length_eq,aG]
 have hg:bk L w ∉ ks S:=fun z=>by rw [wH,kg] at z;cases z
 refine Lp ok hw hr hf hB (Xe so.nd) (by omega) (wH.mpr (by rw [so.b];rfl)) hg (fun x hx=>so.rg hB (wH.mp hx)) fun x hx y hy=>wH.mpr ?_
 have hx':=wH.mp hx
 obtain ⟨x1,x2⟩:=so.rg hB hx'
 have x3:x ≠ bk L w:=fun z=>hg (z ▸ hx)
 unfold nxt at hy
 rcases aX.mp hy with z | z
 ·by_cases c:je L x < M
  ·rw [if_pos c] at z
   rw [aK.mp z]
   exact cl x x1 (by omega) hx' (x + 1,none) (uQ.mpr ⟨by show je L x ≠ M;omega,rfl⟩)
  ·rw [if_neg c] at z;cases z
 ·obtain ⟨k,k1,rfl⟩:=cQ.mp z
  refine cl x x1 (by omega) hx' (ek L k,some k) ?_
  unfold stp
  exact bx _ (cQ.mpr ⟨k,k1,rfl⟩)
end
section
variable {L:List Ty} {M:Nat} {now:Int}
noncomputable def dok (L:List Ty) (M m:Nat) (p:List Nat):Bool:=@decide (∀ i,i < m→Pk L M (nD p) i) (Classical.propDecidable _)
theorem uR {m:Nat} {p:List Nat}:dok L M m p=true↔∀ i,i < m→Pk L M (nD p) i:=by
 unfold dok
 exact @decide_eq_true_iff _ (Classical.propDecidable _)
noncomputable def ext (L:List Ty) (M m:Nat) (p:List Nat):List (List Nat):=((aH M).filter fun r=>dok L M (m + 1) (p++[r])).map fun r=>p++[r]
noncomputable def PL (L:List Ty) (M:Nat):Nat→List (List Nat)
 | 0=>[[]]
 | m + 1=>(PL L M m).flatMap (ext L M m)
def pD (p:List Nat):D:=.list (nD p)
theorem ug (p:List Nat) (k:Nat):(nD p)[k]? = (p[k]?).map fun r:Nat=>PyData.int (r:Int):=by
 unfold nD
 rw [aQ]
theorem UJ {p q:List Nat} {i:Nat} (h:i < p.length):Pk L M (nD (p++q)) i↔Pk L M (nD p) i:=by
 have g:∀ k,k ≤ i→(nD (p++q))[k]? = (nD p)[k]?:=fun k hk'=>by
  rw [ug,ug,dw (by omega)]
 unfold Pk
 rw [g i (aZ _)]
 constructor
 ·rintro ⟨v,h1,h2,h3,h4,h5⟩
  exact ⟨v,h1,h2,h3,h4,fun k hk' z=>h5 k hk' (by rw [g k (by omega)];exact z)⟩
 ·rintro ⟨v,h1,h2,h3,h4,h5⟩
  exact ⟨v,h1,h2,h3,h4,fun k hk' z=>h5 k hk' (by rw [g k (by omega)] at z;exact z)⟩
theorem pQ:∀ {m:Nat} {p:List Nat},p ∈ PL L M m↔p.length=m∧∀ i,i < m→Pk L M (nD p) i
 | 0,p=>by
  unfold PL
  rw [aK]
  constructor
  ·rintro rfl;exact ⟨rfl,fun i hi=>absurd hi (mL _)⟩
  ·rintro ⟨h,_⟩;exact oJ.mp h
 | m + 1,p=>by
  unfold PL
  rw [List.mem_flatMap]
  constructor
  ·rintro ⟨q,h1,h2⟩
   unfold ext at h2
   obtain ⟨r,h3,rfl⟩:=cQ.mp h2
   obtain ⟨_,h4⟩:=bR.mp h3
   exact ⟨by rw [bH,(pQ.mp h1).1];rfl,uR.mp h4⟩
  ·rintro ⟨h1,h2⟩
   have ne:p ≠ []:=fun z=>by rw [z] at h1;cases h1
   have ep:=List.dropLast_concat_getLast ne
   have dl:p.dropLast.length=m:=by rw [List.length_dropLast,h1];rfl
   obtain ⟨v,v1,_,v3,_⟩:=h2 m (by omega)
   have rM:p.getLast ne < M:=by
    rw [← ep,ug,cM (by omega),dl,Nat.sub_self] at v1
    have v1:PyData.int ((p.getLast ne:Nat):Int) = .int v:=by
     injection v1
    injection v1 with v1
    omega
   refine ⟨p.dropLast,pQ.mpr ⟨dl,fun i hi=>?_⟩,?_⟩
   ·have:=h2 i (by omega)
    rw [← ep] at this
    exact (UJ (by omega)).mp this
   ·unfold ext
    exact cQ.mpr ⟨p.getLast ne,bR.mpr ⟨aY.mpr rM,uR.mpr (by rw [ep];exact h2)⟩,ep⟩
def cnN (L:List Ty) (m:Nat):Nat:=((aH m).filter fun k=>!(hk L k).isSome).length
theorem Cd (m:Nat):cnN L (m + 1)=cnN L m + if (hk L m).isSome then 0 else 1:=by
 unfold cnN
 rw [pY,h_,bH]
 congr 1
 cases c:(hk L m).isSome with
 | true=>rw [dM (by simp [c])];rfl
 | false=>rw [dJ (by simp [c])];rfl
theorem FZ {m:Nat} {p:List Nat} (hM:M ≤ 3) (hp:p.length=m):(ext L M m p).length ≤ if (hk L m).isSome then 1 else 3:=by
 unfold ext
 rw [aG]
 cases c:(hk L m).isSome with
 | false =>
  have:=cW (fun r=>dok L M (m + 1) (p++[r])) (aH M)
  rw [bB] at this
  show _ ≤ 3
  omega
 | true =>
  obtain ⟨s,es⟩:=cR.mp c
  have nd:((aH M).filter fun r=>dok L M (m + 1) (p++[r])).Nodup:=List.Pairwise.filter _ iY
  have sub:((aH M).filter fun r=>dok L M (m + 1) (p++[r])) ⊆ [s]:=fun r hr=>by
   obtain ⟨_,h4⟩:=bR.mp hr
   obtain ⟨v,v1,_,_,v4,_⟩:=uR.mp h4 m (by omega)
   rw [ug,cM (by omega),hp,Nat.sub_self] at v1
   have v1:PyData.int ((r:Nat):Int) = .int v:=by injection v1
   injection v1 with v1
   have:=v4 s es
   have:r=s:=by omega
   rw [this]
   exact aK.mpr rfl
  exact List.Nodup.length_le_of_subset nd sub
theorem wI {α β:Type} (f:α→List β) (k:Nat):∀ l:List α,(∀ a ∈ l,(f a).length ≤ k)→(l.flatMap f).length ≤ l.length * k
 | [],_=>by simp
 | a :: r,h=>by
  rw [List.flatMap_cons,bH,bQ,Nat.succ_mul]
  have:=h a aM
  have:=wI f k r fun b hb=>h b (aO _ hb)
  omega
theorem Lr (hM:M ≤ 3):∀ m,(PL L M m).length ≤ 3 ^ cnN L m
 | 0=>by
  unfold PL
  exact Nat.pow_pos (by decide)
 | m + 1=>by
  have ih:=Lr hM m
  have:=wI (ext L M m) (if (hk L m).isSome then 1 else 3) (PL L M m) fun p hp=>FZ hM (pQ.mp hp).1
  unfold PL
  refine bM this ?_
  rw [Cd]
  cases c:(hk L m).isSome with
  | true =>
   show (PL L M m).length * 1 ≤ 3 ^ (cnN L m + 0)
   rw [Nat.mul_one,Nat.add_zero]
   exact ih
  | false =>
   show (PL L M m).length * 3 ≤ 3 ^ (cnN L m + 1)
   rw [Nat.pow_succ]
   exact Nat.mul_le_mul_right 3 ih
theorem Ls {m n:Nat} (h:m ≤ n):cnN L m ≤ cnN L n:=by
 induction n with
 | zero=>rw [Nat.le_zero.mp h];exact aZ _
 | succ n ih =>
  by_cases z:m=n + 1
  ·rw [z];exact aZ _
  ·have:=ih (by omega)
   rw [Cd]
   omega
theorem Lw (hM:M ≤ 3) {n m:Nat} (h5:cnN L n ≤ 5) (h:m ≤ n):(PL L M m).length ≤ 243:=by
 have h1:=Lr (L:=L) hM m
 have h2:=Ls (L:=L) h
 have h3:3 ^ cnN L m ≤ 3 ^ 5:=qd (by decide) (by omega)
 have:(3:Nat) ^ 5=243:=by decide
 omega
theorem wJ {m k:Nat} (h:k < m):tAt (L.take m) k=tAt L k:=by
 unfold tAt
 rw [aP,aP,oA h]
theorem Ga {m i:Nat} {ds:List D} (h:i < m):Pk (L.take m) M ds i↔Pk L M ds i:=by
 have b:∀ k,k ≤ i→bk (L.take m) k=bk L k:=fun k hk'=>by unfold bk;rw [wJ (by omega)]
 have e:∀ k,k ≤ i→ek (L.take m) k=ek L k:=fun k hk'=>by unfold ek;rw [wJ (by omega)]
 have hh:hk (L.take m) i=hk L i:=by unfold hk;rw [wJ h]
 unfold Pk
 rw [hh,b i (aZ _),e i (aZ _)]
 constructor
 ·rintro ⟨v,h1,h2,h3,h4,h5⟩
  exact ⟨v,h1,h2,h3,h4,fun k hk' z=>h5 k hk' (by rw [b k (by omega),e k (by omega)];exact z)⟩
 ·rintro ⟨v,h1,h2,h3,h4,h5⟩
  exact ⟨v,h1,h2,h3,h4,fun k hk' z=>h5 k hk' (by rw [b k (by omega),e k (by omega)] at z;exact z)⟩
theorem HJ {m:Nat} {p:List Nat} (hl:L.length ≤ 24) (hm:m ≤ L.length) (hp:p.length=m):eU [.list (nD p),.list ((L.take m).map yD),.int (M:Int)]=some (.bool (dok L M m p)):=by
 have tl:(L.take m).length=m:=by rw [iW];omega
 obtain ⟨b,q1,q2⟩:=wG (L:=L.take m) (M:=M) (ds:=nD p) (by omega) (by unfold nD;rw [aG,hp,tl])
 rw [q1]
 congr 2
 rw [mO,q2,uR,tl]
 exact ⟨fun h i hi=>(Ga hi).mp (h i hi),fun h i hi=>(Ga hi).mpr (h i hi)⟩
theorem Qs {b:FS} {c f:Str} {d:D}:qS (some (.ex c f d)) b=some (.ex c f d):=rfl
def qMv (i j:Nat) (x:Option D) (δ:DS):Option Oc:=match x with
 | some d=>some (.nx ((δ.set j none).set i (some (.d d))))
 | none=>none
theorem Xh {i j:Nat} {δ:DS}:GX i j δ=if i < δ.length then qMv i j (aD j δ) δ else none:=by
 unfold GX qMv
 cases aD j δ <;> rfl
theorem Qt {i j:Nat} {δ:DS} {d:D}:qMv i j (some d) δ=some (.nx ((δ.set j none).set i (some (.d d)))):=rfl
theorem Lx (m j:Nat) (p:List Nat):(((aH (j + 1)).filter fun r=>dok L M (m + 1) (p++[r])).map fun r=>p++[r])=(((aH j).filter fun r=>dok L M (m + 1) (p++[r])).map fun r=>p++[r])++(if dok L M (m + 1) (p++[j])=true then [p++[j]] else []):=by
 rw [pY,h_,cL]
 by_cases c:dok L M (m + 1) (p++[j])=true
 ·rw [dJ (p:=fun r=>dok L M (m + 1) (p++[r])) c,if_pos c];rfl
 ·rw [dM (p:=fun r=>dok L M (m + 1) (p++[r])) c,if_neg c];rfl
theorem Ly (hl:L.length ≤ 24) (hM:M ≤ 3) (h5:cnN L L.length ≤ 5):lD [.list (L.map yD),.int (M:Int)]=some (.list ((PL L M L.length).map pD)):=by
 have rM:oY (some [.int (M:Int)])=some (gh 0 (M:Int)):=BZ _ (by omega)
 obtain ⟨δ',e,u3,u5,u6,rfl⟩:=iK (g:=(gNl 3)) (b:=(bY (cD 4 (jA (bh))) (bY (jD (jP (aD 2)) (gNl 5) (jD (jQ (aF (aD 1) (bh))) (gNl 6) (sIf (aW (dCall eU (aF (dOp nR (aD 5) (jA (aF (aD 6) (bh)))) (aF (dSl (aD 0) yp (vp (dOp jd (aD 3) (dC (.int 1))))) (aF (aD 1) (bh)))))) (sU 4 (dOp nR (aD 5) (jA (aF (aD 6) (bh))))) (cZ)))) (GX 2 4))))
  (fun i δ=>∃ u3 u5 u6:Option U,δ=[some (.d (.list (L.map yD))),some (.d (.int (M:Int))),some (.d (.list ((PL L M i).map pD))),u3,none,u5,u6]) (gh 0 (L.length:Int))
  [some (.d (.list (L.map yD))),some (.d (.int (M:Int))),some (.d (.list [.list []])),none,none,none,none] ⟨none,none,none,rfl⟩ (by
   rintro m d δ hd ⟨u3,u5,u6,rfl⟩
   obtain ⟨hm,rfl⟩:=pN hd
   have hm:m < L.length:=by omega
   have c243:=Lw (M:=M) hM h5 (fV hm)
   have cut:cutD (L.map yD) none (some ((m:Int) + 1))=(L.take (m + 1)).map yD:=by
    rw [W4 (by omega),show ((m:Int) + 1).toNat=m + 1 by omega,List.map_take]
   obtain ⟨δ2,e2,v5,v6,rfl⟩:=iK (g:=(gNl 5)) (b:=(jD (jQ (aF (aD 1) (bh))) (gNl 6) (sIf (aW (dCall eU (aF (dOp nR (aD 5) (jA (aF (aD 6) (bh)))) (aF (dSl (aD 0) yp (vp (dOp jd (aD 3) (dC (.int 1))))) (aF (aD 1) (bh)))))) (sU 4 (dOp nR (aD 5) (jA (aF (aD 6) (bh))))) (cZ))))
    (fun i δ=>∃ u5 u6:Option U,δ=[some (.d (.list (L.map yD))),some (.d (.int (M:Int))),some (.d (.list ((PL L M m).map pD))),some (.d (.int (m:Int))),some (.d (.list ((((PL L M m).take i).flatMap (ext L M m)).map pD))),u5,u6]) ((PL L M m).map pD)
    [some (.d (.list (L.map yD))),some (.d (.int (M:Int))),some (.d (.list ((PL L M m).map pD))),some (.d (.int (m:Int))),some (.d (.list [])),u5,u6] ⟨u5,u6,rfl⟩ (by
     rintro j d δ hd ⟨u5,u6,rfl⟩
     rw [aQ] at hd
     cases hp:(PL L M m)[j]? with
     | none=>rw [hp] at hd;cases hd
     | some p =>
      rw [hp] at hd
      cases hd
      have pl:p.length=m:=(pQ.mp (eX hp)).1
      have jl:j < (PL L M m).length:=(cP.mp hp).1
      have tl:(((PL L M m).take j).flatMap (ext L M m)).length ≤ 729:=by
       have:=wI (ext L M m) 3 ((PL L M m).take j) fun q hq=>by
        have:=FZ (L:=L) (M:=M) (m:=m) hM (pQ.mp (qe hq)).1
        refine bM this ?_
        cases (hk L m).isSome <;> decide
       rw [iW] at this
       omega
      have et:((PL L M m).take (j + 1)).flatMap (ext L M m)=((PL L M m).take j).flatMap (ext L M m)++ext L M m p:=by
       rw [jy,hp,List.flatMap_append]
       show _++List.flatMap (ext L M m) [p]=_
       rw [List.flatMap_singleton]
      rw [et]
      generalize ((PL L M m).take j).flatMap (ext L M m)=Z at *
      obtain ⟨δ3,e3,w6,rfl⟩:=iK (g:=(gNl 6)) (b:=(sIf (aW (dCall eU (aF (dOp nR (aD 5) (jA (aF (aD 6) (bh)))) (aF (dSl (aD 0) yp (vp (dOp jd (aD 3) (dC (.int 1))))) (aF (aD 1) (bh)))))) (sU 4 (dOp nR (aD 5) (jA (aF (aD 6) (bh))))) (cZ)))
       (fun i δ=>∃ u6:Option U,δ=[some (.d (.list (L.map yD))),some (.d (.int (M:Int))),some (.d (.list ((PL L M m).map pD))),some (.d (.int (m:Int))),some (.d (.list ((Z++(((aH i).filter fun r=>dok L M (m + 1) (p++[r])).map fun r=>p++[r])).map pD))),some (.d (pD p)),u6]) (gh 0 (M:Int))
       [some (.d (.list (L.map yD))),some (.d (.int (M:Int))),some (.d (.list ((PL L M m).map pD))),some (.d (.int (m:Int))),some (.d (.list (Z.map pD))),some (.d (pD p)),u6] ⟨u6,by rw [List.range_zero,pX,kJ,cH]⟩ (by
        rintro r d δ hd ⟨u6,rfl⟩
        obtain ⟨hr,rfl⟩:=pN hd
        have rl:(((aH r).filter fun r=>dok L M (m + 1) (p++[r])).map fun r=>p++[r]).length ≤ 3:=by
         rw [aG]
         have:=cW (fun r=>dok L M (m + 1) (p++[r])) (aH r)
         rw [bB] at this
         omega
        have ll:((Z++(((aH r).filter fun r=>dok L M (m + 1) (p++[r])).map fun r=>p++[r])).map pD).length < 1000000:=by
         rw [aG,bH];omega
        rw [Lx]
        generalize (((aH r).filter fun r=>dok L M (m + 1) (p++[r])).map fun r=>p++[r])=Y at *
        have cat:nR (pD p) (.list [.int (r:Int)])=some (.list (nD (p++[r]))):=by
         unfold pD
         rw [yG,if_pos (by unfold nD;rw [aG];show p.length + 1 ≤ _;omega)]
         unfold nD
         rw [cL]
         rfl
        have ri:=HJ (L:=L) (M:=M) (m:=m + 1) (p:=p++[r]) hl hm (by rw [bH,pl];rfl)
        by_cases c:dok L M (m + 1) (p++[r])=true
        ·rw [c] at ri
         rw [if_pos c]
         refine ⟨_,[some (.d (.list (L.map yD))),some (.d (.int (M:Int))),some (.d (.list ((PL L M m).map pD))),some (.d (.int (m:Int))),some (.d (.list ((Z++Y).map pD++[.list (nD (p++[r]))]))),some (.d (pD p)),some (.d (.int (r:Int)))],rfl,.inl ?_,some (.d (.int (r:Int))),?_⟩
         ·generalize (PL L M m).map pD=PP at *
          generalize hZ:(Z++Y).map pD=ZZ at *
          simp only [EV,reduceIte,aq,au,aj,ao,aA,aB,aC,zl1,cat,Ue,Dz,cut,ri,ll]
         ·rw [← jx,cL (f:=pD) (l₁:=Z++Y)]
          rfl
        ·rw [nU.mpr c] at ri
         rw [if_neg c,cH]
         refine ⟨_,[some (.d (.list (L.map yD))),some (.d (.int (M:Int))),some (.d (.list ((PL L M m).map pD))),some (.d (.int (m:Int))),some (.d (.list ((Z++Y).map pD))),some (.d (pD p)),some (.d (.int (r:Int)))],rfl,.inl ?_,some (.d (.int (r:Int))),rfl⟩
         generalize (PL L M m).map pD=PP at *
         generalize hZ:(Z++Y).map pD=ZZ at *
         simp only [EV,reduceIte,aq,au,aj,ao,aA,aB,aC,zl1,cat,Ue,Dz,cut,ri])
      rw [m7,gD] at e3
      refine ⟨_,[some (.d (.list (L.map yD))),some (.d (.int (M:Int))),some (.d (.list ((PL L M m).map pD))),some (.d (.int (m:Int))),some (.d (.list ((Z++ext L M m p).map pD))),some (.d (pD p)),w6],rfl,.inl ?_,_,_,rfl⟩
      generalize (PL L M m).map pD=PP at *
      generalize Z.map pD=ZZ at *
      simp only [EV,reduceIte,aq,au,aj,ao,aA,aB,aC,rM]
      exact e3)
   rw [aG,jL] at e2
   refine ⟨_,[some (.d (.list (L.map yD))),some (.d (.int (M:Int))),some (.d (.list ((PL L M (m + 1)).map pD))),some (.d (.int (m:Int))),none,v5,v6],rfl,.inl ?_,_,_,_,rfl⟩
   generalize (PL L M m).map pD=PP at *
   simp only [EV,reduceIte,aq,au,aj,ao,aA,aB,aC,zl0]
   rw [e2]
   simp only [EV,reduceIte,aq,au,aj,ao,aA,aB,aC,Xh,Qt]
   rfl)
 rw [m7,gD] at e
 have ll:((L.map yD).length:Int)=(L.length:Int):=by rw [aG]
 have rg:oY (some [.int (L.length:Int)])=some (gh 0 (L.length:Int)):=BZ _ (by omega)
 unfold lD
 simp only [EV,reduceIte,aq,au,aj,ao,aA,aB,aC,VG,zl0,zl1,ll,rg]
 rw [e]
 simp only [EV,reduceIte,aq,au,aj,ao,aA,aB,aC,JH,Qs,Sg,JG]
end
section
variable {L:List Ty} {M:Nat} {now:Int}
theorem anyB {α:Type} (f:α→Bool) (l:List α):M8 [.list (l.map fun a=>PyData.bool (f a))]=some (.bool (l.any f)):=by
 have:jY (l.map fun a=>PyData.bool (f a))=some (l.map f):=by
  induction l with
  | nil=>rfl
  | cons a r ih=>rw [bJ,jY,ih];rfl
 show (jY (l.map fun a=>PyData.bool (f a))).map _=_
 rw [this,eN,List.any_map]
 rfl
def Qu (P:List (List Nat)) (w r:Nat):Bool:=P.any fun p=>decide (p.getD w 0=r)
theorem Lz {w r:Nat} (hw:w < L.length) (δ:DS) (hd:δ=[none,some (.d (.int (r:Int))),some (.d (.int (w:Int)))]) :
 fJ (gNl 0) (D3.jX) (dOp gEq (dOp gIx (aD 0) (aD 2)) (aD 1)) δ ((PL L M L.length).map pD)=some ((PL L M L.length).map fun p=>PyData.bool (decide (p.getD w 0=r))):=by
 subst hd
 exact wY pD (fun p=>PyData.bool (decide (p.getD w 0=r))) _ fun p hp=>⟨[some (.d (pD p)),some (.d (.int (r:Int))),some (.d (.int (w:Int)))],rfl,rfl,by
  have pl:=(pQ.mp hp).1
  have ap:gIx (pD p) (.int (w:Int))=some (.int ((p.getD w 0:Nat):Int)):=by
   show pAt (nD p) (w:Int)=_
   rw [jV,ug,aN (by omega),aP,aN (by omega)]
   rfl
  have e1:decide (((p.getD w 0:Nat):Int)=(r:Int))=decide (p.getD w 0=r):=decide_eq_decide.mpr (by omega)
  simp only [EV,reduceIte,aq,au,aj,ao,aA,aB,aC,ap,e1]⟩
theorem LC {w r:Nat} {x y:D} (hl:(PL L M L.length).length ≤ 243) (hw:w < L.length) (h:Qu (PL L M L.length) w r=true)
 (wk:jt [.tuple [.str "yes", x,y],.list (L.map yD),.int (M:Int),.int (w:Int),.int (r:Int)]=some (.bool true)) :
 fG [.tuple [.str "yes", x,y],.list ((PL L M L.length).map pD),.list (L.map yD),.int (M:Int),.int now,.int (w:Int),.int (r:Int)]=some (.bool true):=by
 have C:=Lz (M:=M) (r:=r) hw (jM 1 [6,5] [some (.d (.tuple [.str "yes", x,y])),some (.d (.list ((PL L M L.length).map pD))),some (.d (.list (L.map yD))),some (.d (.int (M:Int))),some (.d (.int now)),some (.d (.int (w:Int))),some (.d (.int (r:Int))),none]) rfl
 have an:=anyB (fun p:List Nat=>decide (p.getD w 0=r)) (PL L M L.length)
 have h:(PL L M L.length).any (fun p=>decide (p.getD w 0=r))=true:=h
 rw [h] at an
 have len:((PL L M L.length).map pD).length ≤ 100000:=by rw [aG];omega
 have i1:D3.isT "tuple" (tyD (.tuple [.str "yes", x,y]))=true:=rfl
 have ny:gNe (.str "yes") (.str "yes")=some (.bool false):=ne_self (Fy Lh (by decide))
 have iN:Az [.bool true]=some (.int 1):=rfl
 generalize (PL L M L.length).map pD=PP at *
 unfold fG
 simp only [EV,reduceIte,aq,au,aj,ao,aA,aB,aC,len,C,an,i1,at0,at1,bL,iN,zl2,ny,wk]
theorem Gb {w r:Nat} {x:D} (hl:(PL L M L.length).length ≤ 243) (hw:w < L.length) (h:Qu (PL L M L.length) w r=false)
 (wk:iQ [.list (L.map yD),.int (M:Int),.int now,.int (w:Int),.int (r:Int),x]=some (.bool true)) :
 fG [.tuple [.str "no", x],.list ((PL L M L.length).map pD),.list (L.map yD),.int (M:Int),.int now,.int (w:Int),.int (r:Int)]=some (.bool true):=by
 have C:=Lz (M:=M) (r:=r) hw (jM 1 [6,5] [some (.d (.tuple [.str "no", x])),some (.d (.list ((PL L M L.length).map pD))),some (.d (.list (L.map yD))),some (.d (.int (M:Int))),some (.d (.int now)),some (.d (.int (w:Int))),some (.d (.int (r:Int))),none]) rfl
 have an:=anyB (fun p:List Nat=>decide (p.getD w 0=r)) (PL L M L.length)
 have h:(PL L M L.length).any (fun p=>decide (p.getD w 0=r))=false:=h
 rw [h] at an
 have len:((PL L M L.length).map pD).length ≤ 100000:=by rw [aG];omega
 have i1:D3.isT "tuple" (tyD (.tuple [.str "no", x]))=true:=rfl
 have ny:gNe (.str "no") (.str "no")=some (.bool false):=ne_self (Fy Xf (by decide))
 have iN:Az [.bool false]=some (.int 0):=rfl
 generalize (PL L M L.length).map pD=PP at *
 unfold fG
 simp only [EV,reduceIte,aq,au,aj,ao,aA,aB,aC,len,C,an,i1,at0,at1,bL,iN,zl2,ny,wk]
theorem Qw {rr:Nat→Nat} (P:Pn L M rr) {w r:Nat} (hw:w < L.length) (e:rr w=r):Qu (PL L M L.length) w r=true:=by
 have en:nD ((aH L.length).map rr)=plD L.length fun k=>(rr k:Int):=by
  unfold nD plD
  rw [dU]
  rfl
 refine jK.mpr ⟨(aH L.length).map rr,pQ.mpr ⟨by rw [aG,bB],fun i hi=>by rw [en];exact P.pk i hi⟩,dTr ?_⟩
 rw [aP,aQ,bZ hw]
 exact e
theorem Ce (ok:TOk L M now) {w r:Nat} {f:Nat→Int} (hw:w < L.length) (hn:hk L w=none) (hr:r < M) (hf:∀ s,s < M→(∃ k,k < L.length∧hk L k=some s∧f s=ek L k)∨((∀ k,k < L.length→hk L k ≠ some s)∧f s=now)) (h:Qu (PL L M L.length) w r=true) :
 f r ≤ bk L w∧∀ S,Sok L M w (f r) S→(∀ x,f r ≤ x→x < bk L w→(eE S x).isSome=true→∀ s ∈ stp L M w x,(eE S s.1).isSome=true)→(eE S (bk L w)).isSome=true:=by
 obtain ⟨p,hp,e⟩:=jK.mp h
 have e:=of_decide_eq_true e
 obtain ⟨pl,pk⟩:=pQ.mp hp
 have g:∀ i,i < L.length→(nD p)[i]? = some (.int ((p.getD i 0:Nat):Int)):=fun i hi=>by
  rw [ug,aN (by omega),aP,aN (by omega)]
  rfl
 have v:∀ i,i < L.length→((p.getD i 0:Nat):Int) < (M:Int)∧(∀ s,hk L i=some s→(s:Int)=((p.getD i 0:Nat):Int))∧∀ k,k < i→¬ ((nD p)[k]? = (nD p)[i]?∧bk L k < ek L i∧bk L i < ek L k):=fun i hi=>by
  obtain ⟨x,x1,_,x3,x4,x5⟩:=pk i hi
  rw [g i hi] at x1
  have x1:((p.getD i 0:Nat):Int)=x:=by
   injection x1 with x1
   injection x1
  rw [x1]
  exact ⟨x3,x4,x5⟩
 refine Lf (h:=fun k=>((p.getD k 0:Nat):Int)) ok hw hn hr hf (fun k l k1 l1 kl a b z=>?_) (fun k k1=>⟨by omega,(v k k1).1⟩) (fun k s k1 hs=>((v k k1).2.1 s hs).symm) (by rw [e])
 have k1:k < L.length:=k1
 have l1:l < L.length:=l1
 have a:bk L k < ek L l:=a
 have b:bk L l < ek L k:=b
 have z:((p.getD k 0:Nat):Int)=((p.getD l 0:Nat):Int):=z
 rcases fW k l with y | y
 ·exact (v l l1).2.2 k y ⟨by rw [g k k1,g l l1,z],a,b⟩
 ·exact (v k k1).2.2 l (by omega) ⟨by rw [g k k1,g l l1,z],b,a⟩
theorem LK (ok:TOk L M now) (hM:M ≤ 3) (n0:0 ≤ now) (h5:cnN L L.length ≤ 5) {w r:Nat} (hw:w < L.length) (hn:hk L w=none) (hr:r < M) :
 ∃ l:List D,eV [.list (L.map yD),.int (M:Int),.int now,.int (w:Int),.int (r:Int)]=some (.tuple l) ∧
  fG [.tuple l,.list ((PL L M L.length).map pD),.list (L.map yD),.int (M:Int),.int now,.int (w:Int),.int (r:Int)]=some (.bool true) ∧
  ((∃ Q:List Int,l=[.str "no", .list (Q.map .int)])∨∃ (t:List Nat) (rr:Nat→Nat),t.length < L.length∧l=[.str "yes", .list (nD t),.list (plD L.length fun k=>(rr k:Int))]):=by
 have l24:=ok.len
 have c243:=Lw (M:=M) hM h5 (aZ _)
 obtain ⟨f,ef,hf⟩:=Ec (TO0.of ok) (show M ≤ 12 by omega)
 have W:=wd ok hw hn hr hf
 have g400:bk L w ≤ 400:=by
  have h1:=(ok.bd _ (jO hw)).2
  have h2:=W.lt w hw
  have h1:ek L w ≤ 400:=h1
  omega
 have g59:bk L w ≤ f r + 59:=by
  have h1:bk L w ≤ now + 59:=ok.nr _ (jO hw) hn
  rcases hf r hr with ⟨k,k1,k2,k3⟩ | ⟨_,k3⟩
  ·have:=(W.hh k r k1 k2).2.2
   omega
  ·omega
 have fB:0 ≤ f r:=by
  rcases hf r hr with ⟨k,k1,k2,k3⟩ | ⟨_,k3⟩
  ·have:=ok.bd _ (jO k1)
   have q:bk L k < ek L k:=W.lt k k1
   have:0 ≤ bk L k:=this.1
   omega
  ·omega
 by_cases hB:f r ≤ bk L w
 ·obtain ⟨S,eS,so,cl⟩:=Ef ok hw fB hB
  cases kg:(eE S (bk L w)).isSome with
  | true =>
   obtain ⟨t,rr,em,P,rw',rt,pw,mt,tl⟩:=Qk ok (by omega) hw hn hr ef hf hB fB eS so kg
   exact ⟨_,em,LC c243 hw (Qw P hw rw') (HD l24 hw P rw' rt pw mt tl),.inr ⟨t,rr,tl,rfl⟩⟩
  | false =>
   have em:=Qn ok hw hn hr ef hB eS so.a (by have:=so.len hB g59;omega) kg
   refine ⟨_,em,Gb c243 hw (nU.mpr fun z=>?_) (UG ok hw hr hf hB g59 so cl kg),.inl ⟨_,rfl⟩⟩
   have:=(Ce ok hw hn hr hf z).2 S so cl
   rw [kg] at this
   cases this
 ·have em:=Qm ok hw hn hr ef (by omega)
  refine ⟨_,em,Gb c243 hw (nU.mpr fun z=>?_) (Ln ok hw hr hf (by omega)),.inl ⟨[],rfl⟩⟩
  exact hB (Ce ok hw hn hr hf z).1
end
section
variable {L:List Ty} {M:Nat} {now:Int}
theorem Qx {Z:List Ty} (ok:TOk L M now) (s:Z.Sublist L):TOk Z M now :=
 ⟨bM s.length_le ok.len,fun t ht=>ok.ok t (s.subset ht),ok.nd.sublist (s.filterMap _),fun t ht=>bM (s.filter _).length_le (ok.full t (s.subset ht)),fun t ht=>ok.bd t (s.subset ht),fun t ht=>ok.nr t (s.subset ht)⟩
theorem UL (Z:List Ty):cnN Z Z.length=(Z.filter fun s=>!s.2.2.isSome).length:=by
 have e:Z=(aH Z.length).map (tAt Z):=by
  apply dY
  intro i
  rw [aQ]
  by_cases h:i < Z.length
  ·rw [bZ h,eN]
   unfold tAt
   rw [aP,aN h]
   rfl
  ·rw [bf (by omega),bf (by simpa using h)]
   rfl
 unfold cnN
 conv=>rhs;rw [e,pW,aG]
 rfl
theorem LQ {i:Nat} {fk:FE} {δ:DS} {l m:List D} (h1:aD i δ=some (.tuple l)) (h2:fk δ=some (.int (-1))) (h0:0 < l.length) (h4:l[l.length - 1]? = some (.list m)) :
 vm i fk δ=some (.nx (δ.set i (some (.d (.tuple (l.set (l.length - 1) (.list []))))))):=by
 unfold vm RQ
 rw [h1,aJ,h2,aJ]
 show (pIx l.length (-1)).bind _=_
 have:pIx l.length (-1)=some (l.length - 1):=by
  unfold pIx
  rw [if_neg (by omega),if_pos (by omega)]
  congr 1
  omega
 rw [this,aJ,h4]
 rfl
theorem Gd (m:List D):∀ t:List Nat,wW m (nD t)=true
 | []=>rfl
 | a :: r=>by
  show (apD m (.int (a:Int)) && wW m (nD r))=true
  rw [Gd m r]
  rfl
theorem LR (h:L ≠ []):∀ P:List (List Nat),(∀ p ∈ P,p.length=L.length)→apD (L.map yD) (.list (P.map pD))=true:=fun P hP=>by
 obtain ⟨s,r,rfl⟩:∃ s r,L=s :: r:=by
  cases L with
  | nil=>exact absurd rfl h
  | cons s r=>exact ⟨s,r,rfl⟩
 have ts:isTup (yD s)=true:=rfl
 have one:∀ p:List Nat,p.length=(s :: r).length→apD ((s :: r).map yD) (pD p)=true:=fun p hp=>by
  unfold pD
  rw [apD,Gd,Bool.and_true]
  cases p with
  | nil=>cases hp
  | cons a q =>
   show (_ || (!isTup (.int (a:Int)) && isTup (yD s)))=true
   rw [ts,show isTup (.int (a:Int))=false from rfl]
   simp
 have all:∀ P:List (List Nat),(∀ p ∈ P,p.length=(s :: r).length)→wW ((s :: r).map yD) (P.map pD)=true:=by
  intro P
  induction P with
  | nil=>exact fun _=>rfl
  | cons p P ih =>
   intro hP
   show (apD ((s :: r).map yD) (pD p) && wW ((s :: r).map yD) (P.map pD))=true
   rw [one p (hP p aM),ih fun q hq=>hP q (aO _ hq)]
   rfl
 rw [apD,all P hP,Bool.and_true]
 cases P with
 | nil=>rfl
 | cons p P =>
  show (_ || (!isTup (pD p) && isTup (yD s)))=true
  rw [ts,show isTup (pD p)=false from rfl]
  simp
def qKp (os ns:List Nat) (i:Nat) (x:Option D) (δ:DS):Option Oc:=match x with
 | some d=>if ((os.all fun j=>apS d δ[j]?) && ns.all fun j=>noS δ[j]?)=true then some (.nx (δ.set i (some (.d d)))) else none
 | none=>none
theorem UW {os ns:List Nat} {i:Nat} {fe:FE} {δ:DS}:Bt os ns i fe δ=if i < δ.length then qKp os ns i (fe δ) δ else none:=by
 unfold Bt qKp
 cases fe δ <;> rfl
theorem L_ {os ns:List Nat} {i:Nat} {d:D} {δ:DS} (h:((os.all fun j=>apS d δ[j]?) && ns.all fun j=>noS δ[j]?)=true):qKp os ns i (some d) δ=some (.nx (δ.set i (some (.d d)))):=by
 unfold qKp
 dsimp only
 rw [if_pos h]
end
theorem Ma (ns:List Int) (h63:ns.length ≤ 63):KY [.list (ns.map .int)]=some (.bool true):=by
 obtain ⟨now,n0,n1,en⟩:=Kv ns
 have p3:=fP (ns:=ns) (i:=0) (k:=3) (m:=3) (by decide) (by decide) (by decide) (by decide)
 have r3:=fD ns 0 3 (m:=3) (by decide)
 generalize jG ns 0 3 3=x3 at *
 obtain ⟨M,eM⟩:∃ M:Nat,(M:Int)=1 + x3:=⟨(1 + x3).toNat,by omega⟩
 have hM:M ≤ 3:=by omega
 obtain ⟨L0,ok0,ne0,eS⟩:=BR ns (M:=M) (now:=now) (by omega) n0 n1
 have ne0:=ne0 (by omega)
 have l0:=ok0.len
 obtain ⟨δ1,e1,L,u4,s1,s2,s3,rfl⟩:=iK (g:=(gNl 4)) (b:=(sIf (D3.tOr (aW (dUn kE (dOp gIx (aD 4) (dC (.int 2))))) (aW (dOp gLt (dCall ju (aF (iT (jP (aD 3)) (gNl 0) (aW (dUn nA (dOp gIx (aD 0) (dC (.int 2))))) (dX (aD 0)) 1 []) (bh))) (dC (.int 5))))) (sU 3 (aD 4)) (cZ)))
  (fun i δ=>∃ (Z:List Ty) (u4:Option U),Z.Sublist (L0.take i)∧(Z.filter fun s=>!s.2.2.isSome).length ≤ 5∧(0 < i→Z ≠ [])∧δ=[some (.d (.list (ns.map .int))),some (.d (.int (M:Int))),some (.d (.int now)),some (.d (.list (Z.map yD))),u4,none,none,none,none]) (L0.map yD)
  [some (.d (.list (ns.map .int))),some (.d (.int (M:Int))),some (.d (.int now)),some (.d (.list [])),none,none,none,none,none] ⟨[],none,List.nil_sublist _,by decide,fun z=>absurd z (fU 0),rfl⟩ (by
   rintro i d δ hd ⟨Z,u4,s1,s2,s3,rfl⟩
   rw [aQ] at hd
   cases hs:L0[i]? with
   | none=>rw [hs] at hd;cases hd
   | some s =>
    rw [hs] at hd
    cases hd
    have et:L0.take (i + 1)=L0.take i++[s]:=by rw [jy,hs];rfl
    have zl:Z.length ≤ 24:=by
     have:=s1.length_le
     rw [iW] at this
     omega
    have C:∀ δ0,fJ (gNl 0) (aW (dUn nA (dOp gIx (aD 0) (dC (.int 2))))) (dX (aD 0)) (jM 1 [] δ0) (Z.map yD)=some ((Z.filter fun s=>!s.2.2.isSome).map yD):=fun δ0 =>
     zN yD (fun s=>!s.2.2.isSome) yD Z fun s _=>⟨[some (.d (yD s))],rfl,by
      obtain ⟨a,b,c⟩:=s
      have nn:=rZ c
      unfold yD
      simp only [EV,reduceIte,aq,au,aj,ao,aA,aB,aC,at2,nn],fun _=>by simp only [EV,reduceIte,aq,au,aj,ao,aA,aB,aC,zP]⟩
    have len:(Z.map yD).length ≤ 100000:=by rw [aG];omega
    have lenZ:(Z.map yD).length < 1000000:=by rw [aG];omega
    have cl:(((Z.filter fun s=>!s.2.2.isSome).map yD).length:Int)=((Z.filter fun s=>!s.2.2.isSome).length:Int):=by rw [aG]
    have i2:gIx (yD s) (.int 2)=some (hD s.2.2):=rfl
    have nn:=rZ s.2.2
    have add:∀ (h:(s.2.2.isSome=true∨(Z.filter fun s=>!s.2.2.isSome).length < 5)),(Z++[s]).Sublist (L0.take (i + 1))∧((Z++[s]).filter fun s=>!s.2.2.isSome).length ≤ 5∧(0 < i + 1→Z++[s] ≠ []):=fun h=>by
     refine ⟨by rw [et];exact s1.append (List.Sublist.refl _),?_,fun _ z=>by simp at z⟩
     rw [h_,bH]
     cases c:s.2.2.isSome with
     | true =>
      rw [dM (by simp [c])]
      exact s2
     | false =>
      rw [dJ (by simp [c])]
      rcases h with z | z
      ·rw [c] at z;cases z
      ·exact z
    cases c:s.2.2.isSome with
    | true =>
     obtain ⟨a1,a2,a3⟩:=add (.inl c)
     rw [c] at nn
     refine ⟨_,[some (.d (.list (ns.map .int))),some (.d (.int (M:Int))),some (.d (.int now)),some (.d (.list (Z.map yD++[yD s]))),some (.d (yD s)),none,none,none,none],rfl,.inl ?_,Z++[s],some (.d (yD s)),a1,a2,a3,by rw [cL];rfl⟩
     simp only [EV,reduceIte,aq,au,aj,ao,aA,aB,aC,i2,nn,bL,cC,lenZ]
    | false =>
     rw [c] at nn
     by_cases c5:(Z.filter fun s=>!s.2.2.isSome).length < 5
     ·obtain ⟨a1,a2,a3⟩:=add (.inr c5)
      have dc:decide (((Z.filter fun s=>!s.2.2.isSome).length:Int) < 5)=true:=dTr (by omega)
      refine ⟨_,[some (.d (.list (ns.map .int))),some (.d (.int (M:Int))),some (.d (.int now)),some (.d (.list (Z.map yD++[yD s]))),some (.d (yD s)),none,none,none,none],rfl,.inl ?_,Z++[s],some (.d (yD s)),a1,a2,a3,by rw [cL];rfl⟩
      simp only [EV,reduceIte,aq,au,aj,ao,aA,aB,aC,i2,nn,bL,cC,len,C,cl,dc,lenZ]
     ·have dc:decide (((Z.filter fun s=>!s.2.2.isSome).length:Int) < 5)=false:=dFa (by omega)
      refine ⟨_,[some (.d (.list (ns.map .int))),some (.d (.int (M:Int))),some (.d (.int now)),some (.d (.list (Z.map yD))),some (.d (yD s)),none,none,none,none],rfl,.inl ?_,Z,some (.d (yD s)),by rw [et];exact s1.trans (List.sublist_append_left _ _),s2,(fun _ z=>by rw [z] at c5;exact c5 (by decide)),rfl⟩
      simp only [EV,reduceIte,aq,au,aj,ao,aA,aB,aC,i2,nn,bL,cC,len,C,cl,dc])
 have ne:L ≠ []:=s3 (by
  rw [aG]
  exact List.length_pos_iff.mpr ne0)
 rw [aG,jL] at s1
 have ok:=Qx ok0 s1
 have h5:cnN L L.length ≤ 5:=by rw [UL];exact s2
 clear s1 s2 s3 ok0
 have l24:=ok.len
 have ep:=Ly (M:=M) l24 hM h5
 have kp:apD (L.map yD) (.list ((PL L M L.length).map pD))=true:=LR ne _ fun p hp=>(pQ.mp hp).1
 have rg:oY (some [.int (L.length:Int)])=some (gh 0 (L.length:Int)):=BZ _ (by omega)
 have rM:oY (some [.int (M:Int)])=some (gh 0 (M:Int)):=BZ _ (by omega)
 have ll:((L.map yD).length:Int)=(L.length:Int):=by rw [aG]
 have told:=fun (w r:Nat) (hw:w < L.length) (hn:hk L w=none) (hr:r < M)=>LK ok hM n0 h5 hw hn hr
 generalize hPP:(PL L M L.length).map pD=PP at *
 obtain ⟨δ2,e2,u6,u7,u8,rfl⟩:=iK (g:=(gNl 6)) (b:=(jD (jQ (aF (aD 1) (bh))) (gNl 7) (sIf (aW (dUn nA (dOp gIx (dOp gIx (aD 3) (aD 6)) (dC (.int 2))))) (bY (cD 8 (dNd (dCall eV (aF (dUn sW (aD 3)) (aF (aD 1) (aF (aD 2) (aF (aD 6) (aF (aD 7) (bh))))))))) (bY (sIf (D3.jW (aW (dCall fG (aF (aD 8) (aF (aD 5) (aF (aD 3) (aF (aD 1) (aF (aD 2) (aF (aD 6) (aF (aD 7) (bh))))))))))) (cT (dC (.bool false))) (cZ)) (bY (vm 8 (dUn yP (dC (.int 1)))) (sIf (D3.jW (aW (dCall fG (aF (dCall eV (aF (aD 3) (aF (aD 1) (aF (aD 2) (aF (aD 6) (aF (aD 7) (bh))))))) (aF (aD 5) (aF (aD 3) (aF (aD 1) (aF (aD 2) (aF (aD 6) (aF (aD 7) (bh))))))))))) (cT (dC (.bool false))) (cZ))))) (cZ)))) (fun i δ=>∃ u6 u7 u8:Option U,δ=[some (.d (.list (ns.map .int))),some (.d (.int (M:Int))),some (.d (.int now)),some (.d (.list (L.map yD))),u4,some (.d (.list PP)),u6,u7,u8]) (gh 0 (L.length:Int))
  [some (.d (.list (ns.map .int))),some (.d (.int (M:Int))),some (.d (.int now)),some (.d (.list (L.map yD))),u4,some (.d (.list PP)),none,none,none] ⟨none,none,none,rfl⟩ (by
   rintro w d δ hd ⟨u6,u7,u8,rfl⟩
   obtain ⟨hw,rfl⟩:=pN hd
   have hw:w < L.length:=by omega
   have aw:=ay hw
   have nn:=rZ (hk L w)
   obtain ⟨δ3,e3,w7,w8,rfl⟩:=iK (g:=(gNl 7)) (b:=(sIf (aW (dUn nA (dOp gIx (dOp gIx (aD 3) (aD 6)) (dC (.int 2))))) (bY (cD 8 (dNd (dCall eV (aF (dUn sW (aD 3)) (aF (aD 1) (aF (aD 2) (aF (aD 6) (aF (aD 7) (bh))))))))) (bY (sIf (D3.jW (aW (dCall fG (aF (aD 8) (aF (aD 5) (aF (aD 3) (aF (aD 1) (aF (aD 2) (aF (aD 6) (aF (aD 7) (bh))))))))))) (cT (dC (.bool false))) (cZ)) (bY (vm 8 (dUn yP (dC (.int 1)))) (sIf (D3.jW (aW (dCall fG (aF (dCall eV (aF (aD 3) (aF (aD 1) (aF (aD 2) (aF (aD 6) (aF (aD 7) (bh))))))) (aF (aD 5) (aF (aD 3) (aF (aD 1) (aF (aD 2) (aF (aD 6) (aF (aD 7) (bh))))))))))) (cT (dC (.bool false))) (cZ))))) (cZ))) (fun i δ=>∃ u7 u8:Option U,δ=[some (.d (.list (ns.map .int))),some (.d (.int (M:Int))),some (.d (.int now)),some (.d (.list (L.map yD))),u4,some (.d (.list PP)),some (.d (.int (w:Int))),u7,u8]) (gh 0 (M:Int))
    [some (.d (.list (ns.map .int))),some (.d (.int (M:Int))),some (.d (.int now)),some (.d (.list (L.map yD))),u4,some (.d (.list PP)),some (.d (.int (w:Int))),u7,u8] ⟨u7,u8,rfl⟩ (by
     rintro r d δ hd ⟨u7,u8,rfl⟩
     obtain ⟨hr,rfl⟩:=pN hd
     have hr:r < M:=by omega
     cases hh:hk L w with
     | some s =>
      rw [hh] at nn aw
      have nn:isNone (hD (some s))=false:=nn
      refine ⟨_,[some (.d (.list (ns.map .int))),some (.d (.int (M:Int))),some (.d (.int now)),some (.d (.list (L.map yD))),u4,some (.d (.list PP)),some (.d (.int (w:Int))),some (.d (.int (r:Int))),u8],rfl,.inl ?_,_,_,rfl⟩
      simp only [EV,reduceIte,aq,au,aj,ao,aA,aB,aC,aw,at2,nn]
     | none =>
      rw [hh] at nn aw
      have nn:isNone (hD none)=true:=nn
      obtain ⟨l,em,et,sh⟩:=told w r hw hh hr
      have nd:qNd (some (.tuple l))=some (.tuple l):=by
       unfold qNd
       dsimp only
       rw [if_pos]
       unfold ndT
       rw [aL]
       rcases sh with ⟨Q,rfl⟩ | ⟨t,rr,tl,rfl⟩
       ·refine ⟨?_,dTr ?_⟩
        ·have f1:flats (Q.map PyData.int)=true:=gG _ (fun _=>rfl) _
         show (fl1 (.str "no") && (fl1 (.list (Q.map PyData.int)) && true))=true
         rw [show fl1 (.str "no")=true from rfl,show fl1 (.list (Q.map PyData.int))=true from f1]
         rfl
        ·show [(Q.map PyData.int).length].Nodup
         simp
       ·refine ⟨?_,dTr ?_⟩
        ·have f1:flats (nD t)=true:=gG _ (fun _=>rfl) _
         have f2:flats (plD L.length fun k=>(rr k:Int))=true:=gG _ (fun _=>rfl) _
         show (fl1 (.str "yes") && (fl1 (.list (nD t)) && (fl1 (.list (plD L.length fun k=>(rr k:Int))) && true)))=true
         rw [show fl1 (.str "yes")=true from rfl,show fl1 (.list (nD t))=true from f1,show fl1 (.list (plD L.length fun k=>(rr k:Int)))=true from f2]
         rfl
        ·show [(nD t).length,(plD L.length fun k=>(rr k:Int)).length].Nodup
         rw [Le]
         have:(nD t).length=t.length:=aG _
         rw [this]
         simp
         omega
      have cl:∃ m,0 < l.length∧l[l.length - 1]? = some (.list m):=by
       rcases sh with ⟨Q,rfl⟩ | ⟨t,rr,tl,rfl⟩
       ·exact ⟨_,by simp,rfl⟩
       ·exact ⟨_,by simp,rfl⟩
      obtain ⟨m,c1,c2⟩:=cl
      have n1:=LQ (i:=8) (fk:=dUn yP (dC (.int 1))) (δ:=[some (.d (.list (ns.map .int))),some (.d (.int (M:Int))),some (.d (.int now)),some (.d (.list (L.map yD))),u4,some (.d (.list PP)),some (.d (.int (w:Int))),some (.d (.int (r:Int))),some (.d (.tuple l))]) (l:=l) (m:=m) rfl rfl c1 c2
      have n1:vm 8 (dUn yP (dC (.int 1))) [some (.d (.list (ns.map .int))),some (.d (.int (M:Int))),some (.d (.int now)),some (.d (.list (L.map yD))),u4,some (.d (.list PP)),some (.d (.int (w:Int))),some (.d (.int (r:Int))),some (.d (.tuple l))]=some (.nx [some (.d (.list (ns.map .int))),some (.d (.int (M:Int))),some (.d (.int now)),some (.d (.list (L.map yD))),u4,some (.d (.list PP)),some (.d (.int (w:Int))),some (.d (.int (r:Int))),some (.d (.tuple (l.set (l.length - 1) (.list []))))]):=n1
      refine ⟨_,[some (.d (.list (ns.map .int))),some (.d (.int (M:Int))),some (.d (.int now)),some (.d (.list (L.map yD))),u4,some (.d (.list PP)),some (.d (.int (w:Int))),some (.d (.int (r:Int))),some (.d (.tuple (l.set (l.length - 1) (.list []))))],rfl,.inl ?_,_,_,rfl⟩
      generalize l.set (l.length - 1) (.list [])=l2 at *
      simp only [EV,reduceIte,aq,au,aj,ao,aA,aB,aC,aw,at2,nn,Yq,em,nd,et,bL,n1])
   refine ⟨_,[some (.d (.list (ns.map .int))),some (.d (.int (M:Int))),some (.d (.int now)),some (.d (.list (L.map yD))),u4,some (.d (.list PP)),some (.d (.int (w:Int))),w7,w8],rfl,.inl ?_,_,_,_,rfl⟩
   simp only [EV,reduceIte,aq,au,aj,ao,aA,aB,aC,rM]
   exact e3)
 unfold KY
 simp only [EV,reduceIte,aq,au,aj,ao,aA,aB,aC,p3,← eM,en,zl0,eS]
 rw [e1]
 simp only [EV,reduceIte,aq,au,aj,ao,aA,aB,aC,ep,UW]
 rw [L_ (by
  show ((apD (L.map yD) (.list PP) && true) && (true && true))=true
  rw [kp]
  rfl)]
 simp only [EV,reduceIte,aq,au,aj,ao,aA,aB,aC,ll,rg]
 rw [e2]
 simp only [EV,reduceIte,aq,au,aj,ao,aA,aB,aC]
end K42
namespace K42
open PySem PySem.Spec PyProof.Rows L2 My D3 XS XK
def top (i:Nat):Stmt:=PySem.Challenge.pw_nightbook_k42_or_may_not.main.body.getD i (.Pass ⟨0,0,0,0⟩)
section
seal PE PT PW PA PS PSs PG PGs PI PO PTs
variable {P:Program} {w:World} {K:PySem.W.Frag} {mg:Str→Option Value} {base:Heap} {n:Nat}
theorem Cg (D:Dg K mg "is_whole" (top 7) ["thing"]) (B:Bl mg):Has P w K mg base (n + 1) "is_whole" ["thing"] (spD K fO):=by
 have sc:FnScope ["thing"] ["thing"] (bA (top 7)):=fsc
 exact fu (fl:=[.A]) D sc (by decide) (by decide) fun f cdv A outer s H E hr=>aV (bW (cj (mU (bC (nC (T := "int") (by decide) (vP 0) (by rfl) B.isinstance_ (by rfl) B.int_ PyProof.Rows.boot_int)) (qu (Jt (bC (nC (T := "bool") (by decide) (vP 0) (by rfl) B.isinstance_ (by rfl) B.bool_ PyProof.Rows.boot_bool)))))))
theorem zZ (D:Dg K mg "all_whole" (top 8) ["things"]) (B:Bl mg) (his_whole:Has P w K mg base n "is_whole" ["thing"] (spD K fO)):Has P w K mg base (n + 1) "all_whole" ["things"] (spD K mG):=by
 have sc:FnScope ["things"] ["things"] (bA (top 8)):=fsc
 exact fu (fl:=[.A]) D sc (by decide) (by decide) fun f cdv A outer s H E hr=>aV (bW (cj (dR (q_ rfl) yr (by rfl) B.all_ (show bootBuiltins "all" = some (.builtin "all") by decide +kernel) (dq (bC (iV (L:=[]) (fl':=[.A]) rfl ["thing"] [] [] (Sv (vB 0)) (fun _ _ _ _ _=>gN' (i:=0) (show (["thing"]:List Str).Nodup by decide +kernel)) (fun _ _ _ _ _=>lX) (fun _ _ _ _ _=>bK his_whole hr (dq (vP 0) dz)))) dz))))
theorem wK (D:Dg K mg "is_tuple_of" (top 9) ["thing", "many"]) (B:Bl mg) (hall_whole:Has P w K mg base n "all_whole" ["things"] (spD K mG)):Has P w K mg base (n + 1) "is_tuple_of" ["thing", "many"] (spD K lY):=by
 have sc:FnScope ["thing", "many"] ["thing", "many"] (bA (top 9)):=fsc
 exact fu (fl:=[.A,.A]) D sc (by decide) (by decide) fun f cdv A outer s H E hr=>aV (bW (uq (mU (bC (nC (T := "tuple") (by decide) (vP 0) (by rfl) B.isinstance_ (by rfl) B.tuple_ PyProof.Rows.boot_tuple)) (mU (bC (mR (k_ hr.units) sZ (bC (dR bV i_ (by rfl) B.len_ PySem.boot_len (dq (vP 0) dz))) (vP 1) (cG _))) (qu (bK hall_whole hr (dq (vP 0) dz)))))))
theorem Ek (D:Dg K mg "is_pair" (top 10) ["thing"]) (B:Bl mg) (his_tuple_of:Has P w K mg base n "is_tuple_of" ["thing", "many"] (spD K lY)):Has P w K mg base (n + 1) "is_pair" ["thing"] (spD K oZ):=by
 have sc:FnScope ["thing"] ["thing"] (bA (top 10)):=fsc
 exact fu (fl:=[.A]) D sc (by decide) (by decide) fun f cdv A outer s H E hr=>aV (bW (uq (bK his_tuple_of hr (dq (vP 0) (dq iP dz)))))
theorem wZ (D:Dg K mg "is_stretch" (top 13) ["thing"]) (B:Bl mg) (his_pair:Has P w K mg base n "is_pair" ["thing"] (spD K oZ)) (gNIGHTS:∃ t,mg "NIGHTS" = some (.int 400 t)):Has P w K mg base (n + 1) "is_stretch" ["thing"] (spD K lB):=by
 have sc:FnScope ["thing"] ["thing"] (bA (top 13)):=fsc
 exact fu (fl:=[.A]) D sc (by decide) (by decide) fun f cdv A outer s H E hr=>aV (bW (cj (mU (gF (bK his_pair hr (dq (vP 0) dz))) (qu (GK qj j_ qj vH b_lt vH iP (cg (dx (vB 0) iP)) (cg (dx (vB 0) iP)) (bC (M_ gNIGHTS)))))))
theorem z6 (D:Dg K mg "nights_of" (top 14) ["stay"]) (B:Bl mg):Has P w K mg base (n + 1) "nights_of" ["stay"] (spD K dh):=by
 have sc:FnScope ["stay"] ["stay"] (bA (top 14)):=fsc
 exact fu (fl:=[.A]) D sc (by decide) (by decide) fun f cdv A outer s H E hr=>aV (bW (oF rfl (dq (cj (ig (cg (dx (vB 0) iP)))) (dq (cj (ig (cg (dx (vB 0) iP)))) dz))))
theorem Mf (D:Dg K mg "holds" (top 15) ["stretch", "night"]) (B:Bl mg):Has P w K mg base (n + 1) "holds" ["stretch", "night"] (spD K jN):=by
 have sc:FnScope ["stretch", "night"] ["stretch", "night"] (bA (top 15)):=fsc
 exact fu (fl:=[.A,.A]) D sc (by decide) (by decide) fun f cdv A outer s H E hr=>aV (bW (cj (Bc qj j_ vH b_lt (cg (dx (vB 0) iP)) (vP 1) (cg (dx (vB 0) iP)))))
theorem Ci (D:Dg K mg "count_at" (top 16) ["stretches", "night"]) (B:Bl mg) (hholds:Has P w K mg base n "holds" ["stretch", "night"] (spD K jN)):Has P w K mg base (n + 1) "count_at" ["stretches", "night"] (spD K iR):=by
 have sc:FnScope ["stretches", "night"] ["stretches", "night"] (bA (top 16)):=fsc
 exact fu (fl:=[.A,.A]) D sc (by decide) (by decide) fun f cdv A outer s H E hr=>aV (bW (cj (dR bV i_ (by rfl) B.len_ PySem.boot_len (dq (bC (iV (L:=[]) (fl':=[.A,.A]) rfl ["stretch"] ["night"] [1] (eO (vB 0)) (fun _ _ _ _ _=>gN' (i:=0) (show (["stretch", "night"]:List Str).Nodup by decide +kernel)) (fun _ _ _ _ _=>lR (ji (gF (bK hholds hr (dq (vP 0) (dq (vP 1) dz)))))) (fun _ _ _ _ _=>iy (ig (vP 0))))) dz))))
theorem HN (D:Dg K mg "firsts" (top 17) ["stretches"]) (B:Bl mg):Has P w K mg base (n + 1) "firsts" ["stretches"] (spD K nJ):=by
 have sc:FnScope ["stretches"] ["stretches"] (bA (top 17)):=fsc
 exact fu (fl:=[.A]) D sc (by decide) (by decide) fun f cdv A outer s H E hr=>aV (bW (cj (iV (L:=[]) (fl':=[.A]) rfl ["stretch"] [] [] (eO (vB 0)) (fun _ _ _ _ _=>gN' (i:=0) (show (["stretch"]:List Str).Nodup by decide +kernel)) (fun _ _ _ _ _=>lX) (fun _ _ _ _ _=>iy (ig (cg (dx (vB 0) iP)))))))
theorem HS (D:Dg K mg "fuller" (top 18) ["stretches", "many", "since"]) (B:Bl mg) (hcount_at:Has P w K mg base n "count_at" ["stretches", "night"] (spD K iR)) (hfirsts:Has P w K mg base n "firsts" ["stretches"] (spD K nJ)):Has P w K mg base (n + 1) "fuller" ["stretches", "many", "since"] (spD K lA):=by
 have sc:FnScope ["stretches", "many", "since", "later", "night"] ["stretches", "many", "since"] (bA (top 18)):=fsc
 exact fu (fl:=[.A,.A,.A,.A,.A]) D sc (by decide) (by decide) fun f cdv A outer s H E hr=>aR (Bd (i:=3) (L:=[]) (fl':=[.A,.A]) rfl sc.nd rfl rfl rfl ["first"] ["since"] [2] (eO (dH (lu (bK hfirsts hr (dq (vP 0) dz))))) (fun _ _ _ _ _=>gN' (i:=0) (show (["first", "since"]:List Str).Nodup by decide +kernel)) (fun _ _ _ _ _=>lR (cN uY CT (vP 0) (vP 1) (cG _))) (fun _ _ _ _ _=>iy (ig (vP 0))))
  (aR (iu (L:=[]) PassesOwn.never rfl (eO (dH (qt (tY (dH (qt (pK (dq (vA 2) dz)))) (dH (gJ (t_ (dq (vP 3) dz) (by rfl) B.sorted_))))))) (gN' (i:=4) sc.nd) (aV (d_ (cN uY CT (gF (bK hcount_at hr (dq (vP 0) (dq (vP 4) dz)))) (vP 1) (cG _)) (aV (bW (cj (ig (vP 4))))) (cF))))
  (aV (bW (cj (yS)))))
theorem El (D:Dg K mg "is_stay" (top 20) ["thing", "rooms", "now"]) (B:Bl mg) (his_whole:Has P w K mg base n "is_whole" ["thing"] (spD K fO)) (his_stretch:Has P w K mg base n "is_stretch" ["thing"] (spD K lB)) (hnights_of:Has P w K mg base n "nights_of" ["stay"] (spD K dh)) (hholds:Has P w K mg base n "holds" ["stretch", "night"] (spD K jN)):Has P w K mg base (n + 1) "is_stay" ["thing", "rooms", "now"] (spD K lK):=by
 have sc:FnScope ["thing", "rooms", "now", "room"] ["thing", "rooms", "now"] (bA (top 20)):=fsc
 exact fu (fl:=[.A,.A,.A,.A]) D sc (by decide) (by decide) fun f cdv A outer s H E hr=>aR (d_ (oX (mC (jF (ji (bC (nC (T := "tuple") (by decide) (vP 0) (by rfl) B.isinstance_ (by rfl) B.tuple_ PyProof.Rows.boot_tuple)))) (mC (cN (pA hr.units) yU (bC (dR bV i_ (by rfl) B.len_ PySem.boot_len (dq (vP 0) dz))) iP (cG _)) (oG (jF (ji (gF (bK his_stretch hr (dq (gF (bK hnights_of hr (dq (vP 0) dz))) dz))))))))) (aV (bW (cj (mq)))) (cF))
  (aR (sA (i:=3) sc.nd (dx (vB 0) iP))
  (aR (d_ (qy (vP 3)) (aV (bW (cj (mR Ir RV (cg (dx (vB 0) iP)) (vP 2) (cG _))))) (cF))
  (aV (bW (uq (mU (gF (bK his_whole hr (dq (vP 3) dz))) (mU (bC (Bc qj j_ vH b_lt iP (vP 3) (vP 1))) (qu (bK hholds hr (dq (gF (bK hnights_of hr (dq (vP 0) dz))) (dq (vP 2) dz)))))))))))
theorem wL (D:Dg K mg "check_stays" (top 21) ["stays", "rooms", "now"]) (B:Bl mg) (his_stay:Has P w K mg base n "is_stay" ["thing", "rooms", "now"] (spD K lK)):Has P w K mg base (n + 1) "check_stays" ["stays", "rooms", "now"] (spD K jT):=by
 have sc:FnScope ["stays", "rooms", "now", "taken", "at", "stay"] ["stays", "rooms", "now"] (bA (top 21)):=fsc
 exact fu (fl:=[.A,.A,.A,.N,.A,.A]) D sc (by decide) (by decide) fun f cdv A outer s H E hr=>aR (zf (i:=3) rfl sc.nd rfl (by first | exact Or.inl rfl | exact Or.inr rfl) (Nv))
  (aV (iu (L:=[]) PassesOwn.never rfl (uL (vB 0) (by rfl) B.enumerate_) (rR rfl (gP (gN' (i:=4) sc.nd) (gP (gN' (i:=5) sc.nd) (pI)))) (aR (d_ (jF (ji (gF (bK his_stay hr (dq (vP 5) (dq (vP 1) (dq (vP 2) dz))))))) (aV (qx)) (cF))
  (aR (d_ (cN (XB.S7 hr.units) XB.V5 (cg (dx (vB 5) iP)) (zc 3 rfl) (by with_unfolding_all rfl)) (aV (qx)) (cF))
  (aV (d_ (mZ (cg (dx (vB 5) iP))) (aV (XB.Oh (XK.hu1 hr.units) (i:=3) rfl Qy (cg (dx (vB 5) iP)) rfl)) (cF)))))))
theorem xg (D:Dg K mg "check_full" (top 22) ["stays", "rooms", "now"]) (B:Bl mg) (hnights_of:Has P w K mg base n "nights_of" ["stay"] (spD K dh)) (hfuller:Has P w K mg base n "fuller" ["stretches", "many", "since"] (spD K lA)):Has P w K mg base (n + 1) "check_full" ["stays", "rooms", "now"] (spD K iM):=by
 have sc:FnScope ["stays", "rooms", "now", "night"] ["stays", "rooms", "now"] (bA (top 22)):=fsc
 exact fu (fl:=[.A,.A,.A,.A]) D sc (by decide) (by decide) fun f cdv A outer s H E hr=>aR (sA (i:=3) sc.nd (lu (bK hfuller hr (dq (bC (iV (L:=[]) (fl':=[.A]) rfl ["stay"] [] [] (eO (vB 0)) (fun _ _ _ _ _=>gN' (i:=0) (show (["stay"]:List Str).Nodup by decide +kernel)) (fun _ _ _ _ _=>lX) (fun _ _ _ _ _=>bK hnights_of hr (dq (vP 0) dz)))) (dq (vP 1) (dq (vP 2) dz))))))
  (aV (d_ (mZ (vP 3)) (aV (qx)) (cF)))
theorem uh {Pt:Addr} (D:XL.DgT K mg "still_to_come" (top 23) ["stays"] Pt "still_to_come.<locals>.<lambda>" ⟨70,30,70,59⟩) (B:Bl mg):Has P w K mg base (n + 1) "still_to_come" ["stays"] (spD K jq):=by
 have sc:FnScope ["stays", "places"] ["stays"] (bA (top 23)):=fsc
 exact XL.Ti (fl:=[.A,.A]) D sc (by decide) (by decide) fun f c A outer s H E hcd hr=>aR (Bd (i:=1) (L:=[]) (fl':=[.A,.A]) rfl sc.nd rfl rfl rfl ["place", "stay"] [] [] (uL (vB 0) (by rfl) B.enumerate_) (fun _ _ _ _ _=>rR rfl (gP (gN' (i:=0) (show (["place", "stay"]:List Str).Nodup by decide +kernel)) (gP (gN' (i:=1) (show (["place", "stay"]:List Str).Nodup by decide +kernel)) (pI)))) (fun _ _ _ _ _=>lR (qy (cg (dx (vB 1) iP)))) (fun _ _ _ _ _=>iy (ig (vP 0))))
  (aV (bW (cj (XL.Dy (i:=0) ⟨⟨_,rfl,hcd⟩,rfl,D.tb⟩ hr (dq (vP 1) Js) (by rfl) B.sorted_ rfl rfl rfl rfl (fun _ h=>XL.J6 rfl h) (fun _ _ _ _ _=>rfl) rfl rfl rfl (by decide +kernel) rfl rfl (by decide) (by decide) (by decide) rfl rfl))))
theorem xq (D:Dg K mg "beginnings" (top 24) ["stays", "rooms", "now"]) (B:Bl mg):Has P w K mg base (n + 1) "beginnings" ["stays", "rooms", "now"] (spD K cO):=by
 have sc:FnScope ["stays", "rooms", "now", "nights", "stay"] ["stays", "rooms", "now"] (bA (top 24)):=fsc
 exact fu (fl:=[.A,.A,.A,.O,.A]) D sc (by decide) (by decide) fun f cdv A outer s H E hr=>aR (lU (i:=3) rfl sc.nd rfl (by first | exact Or.inl rfl | exact Or.inr rfl) (R3 (pK (dq (vA 2) dz)) (vP 1)))
  (aR (iu (L:=[]) PassesOwn.never rfl (eO (vB 0)) (gN' (i:=4) sc.nd) (aV (d_ (mZ (cg (dx (vB 4) iP))) (aV (vI (i:=3) rfl (dx (vB 4) iP) (cg (dx (vB 4) iP)) rfl)) (cF))))
  (aV (bW (pG 3 (by decide)))))
theorem xr (D:Dg K mg "first_free" (top 25) ["begin", "night"]) (B:Bl mg):Has P w K mg base (n + 1) "first_free" ["begin", "night"] (spD K gU):=by
 have sc:FnScope ["begin", "night"] ["begin", "night"] (bA (top 25)):=fsc
 exact fu (fl:=[.A,.A]) D sc (by decide) (by decide) fun f cdv A outer s H E hr=>aV (bW (cj (ig (cg (dx (dH (gJ (iV (L:=[]) (fl':=[.A,.A,.A]) rfl ["room", "since"] ["night"] [1] (uL (vB 0) (by rfl) B.enumerate_) (fun _ _ _ _ _=>rR rfl (gP (gN' (i:=0) (show (["room", "since", "night"]:List Str).Nodup by decide +kernel)) (gP (gN' (i:=1) (show (["room", "since", "night"]:List Str).Nodup by decide +kernel)) (pI)))) (fun _ _ _ _ _=>lR (cN qj vH (vP 1) (vP 2) (cG _))) (fun _ _ _ _ _=>iy (ig (vP 0)))))) iP)))))
theorem HW (D:Dg K mg "filled" (top 26) ["stays", "plan", "begin"]) (B:Bl mg) (hstill_to_come:Has P w K mg base n "still_to_come" ["stays"] (spD K jq)) (hfirst_free:Has P w K mg base n "first_free" ["begin", "night"] (spD K gU)):Has P w K mg base (n + 1) "filled" ["stays", "plan", "begin"] (spD K qQ):=by
 have sc:FnScope ["stays", "plan", "begin", "seats", "free_since", "place", "room"] ["stays", "plan", "begin"] (bA (top 26)):=fsc
 exact fu (fl:=[.A,.A,.A,.O,.O,.A,.A]) D sc (by decide) (by decide) fun f cdv A outer s H E hr=>aR (lU (i:=3) rfl sc.nd rfl (by first | exact Or.inl rfl | exact Or.inr rfl) (yX (vB 1) (by rfl) B.list_))
  (aR (lU (i:=4) rfl sc.nd rfl (by first | exact Or.inl rfl | exact Or.inr rfl) (yX (vB 2) (by rfl) B.list_))
  (aR (iu (L:=[]) PassesOwn.never rfl (eO (dH (lu (bK hstill_to_come hr (dq (vP 0) dz))))) (gN' (i:=5) sc.nd) (aV (d_ (qy (cg (dx (jw 3) (vP 5)))) (aR (sA (i:=6) sc.nd (lu (bK hfirst_free hr (dq (n6 (jw 4)) (dq (cg (dx (dH (dx (vB 0) (vP 5))) iP)) dz)))))
  (aR (vI (i:=3) rfl (vA 6) (vP 5) rfl)
  (aV (vI (i:=4) rfl (dx (dH (dx (vB 0) (vP 5))) iP) (vP 6) rfl)))) (cF))))
  (aV (bW (pG 3 (by decide))))))
theorem z7 (D:Dg K mg "check_who" (top 28) ["stays", "rooms", "now", "who"]) (B:Bl mg) (hcheck_stays:Has P w K mg base n "check_stays" ["stays", "rooms", "now"] (spD K jT)) (hcheck_full:Has P w K mg base n "check_full" ["stays", "rooms", "now"] (spD K iM)):Has P w K mg base (n + 1) "check_who" ["stays", "rooms", "now", "who"] (spD K mH):=by
 have sc:FnScope ["stays", "rooms", "now", "who"] ["stays", "rooms", "now", "who"] (bA (top 28)):=fsc
 exact fu (fl:=[.A,.A,.A,.A]) D sc (by decide) (by decide) fun f cdv A outer s H E hr=>aR (uK (gF (bK hcheck_stays hr (dq (vP 0) (dq (vP 1) (dq (vP 2) dz))))))
  (aR (uK (gF (bK hcheck_full hr (dq (vP 0) (dq (vP 1) (dq (vP 2) dz))))))
  (aV (d_ (oX (mC (jF (Bj qj j_ vH b_lt iP (vP 3) (bC (dR bV i_ (by rfl) B.len_ PySem.boot_len (dq (vP 0) dz))))) (oG (mZ (cg (dx (dH (dx (vB 0) (vP 3))) iP)))))) (aV (qx)) (cF))))
theorem xu (D:Dg K mg "check_room" (top 29) ["rooms", "room"]) (B:Bl mg):Has P w K mg base (n + 1) "check_room" ["rooms", "room"] (spD K fK):=by
 have sc:FnScope ["rooms", "room"] ["rooms", "room"] (bA (top 29)):=fsc
 exact fu (fl:=[.A,.A]) D sc (by decide) (by decide) fun f cdv A outer s H E hr=>aV (d_ (jF (Bj qj j_ vH b_lt iP (vP 1) (vP 0))) (aV (qx)) (cF))
theorem Cj (D:Dg K mg "is_tight" (top 30) ["stays", "rooms", "night"]) (B:Bl mg) (hnights_of:Has P w K mg base n "nights_of" ["stay"] (spD K dh)) (hcount_at:Has P w K mg base n "count_at" ["stretches", "night"] (spD K iR)):Has P w K mg base (n + 1) "is_tight" ["stays", "rooms", "night"] (spD K jm):=by
 have sc:FnScope ["stays", "rooms", "night"] ["stays", "rooms", "night"] (bA (top 30)):=fsc
 exact fu (fl:=[.A,.A,.A]) D sc (by decide) (by decide) fun f cdv A outer s H E hr=>aV (bW (cj (mR (k_ hr.units) sZ (gF (bK hcount_at hr (dq (bC (iV (L:=[]) (fl':=[.A]) rfl ["stay"] [] [] (eO (vB 0)) (fun _ _ _ _ _=>gN' (i:=0) (show (["stay"]:List Str).Nodup by decide +kernel)) (fun _ _ _ _ _=>lX) (fun _ _ _ _ _=>bK hnights_of hr (dq (vP 0) dz)))) (dq (vP 2) dz)))) (vP 1) (cG _))))
theorem xG (D:Dg K mg "goes_ahead" (top 31) ["stays", "who", "place", "night"]) (B:Bl mg):Has P w K mg base (n + 1) "goes_ahead" ["stays", "who", "place", "night"] (spD K fX):=by
 have sc:FnScope ["stays", "who", "place", "night", "stay"] ["stays", "who", "place", "night"] (bA (top 31)):=fsc
 exact fu (fl:=[.A,.A,.A,.A,.A]) D sc (by decide) (by decide) fun f cdv A outer s H E hr=>aR (sA (i:=4) sc.nd (dx (vB 0) (vP 2)))
  (aV (bW (cj (mU (bC (mR (pA hr.units) yU (vP 2) (vP 1) (cG _))) (mU (bC (RZ (cg (dx (vB 4) iP)))) (mU (bC (mR (k_ hr.units) sZ (cg (dx (vB 4) iP)) (vP 3) (cG _))) (qu (mR qj vH (cg (dx (vB 4) iP)) (cg (dx (dH (dx (vB 0) (vP 1))) iP)) (cG _)))))))))
theorem xH (D:Dg K mg "steps_from" (top 32) ["stays", "rooms", "who", "night"]) (B:Bl mg) (his_tight:Has P w K mg base n "is_tight" ["stays", "rooms", "night"] (spD K jm)) (hgoes_ahead:Has P w K mg base n "goes_ahead" ["stays", "who", "place", "night"] (spD K fX)):Has P w K mg base (n + 1) "steps_from" ["stays", "rooms", "who", "night"] (spD K fY):=by
 have sc:FnScope ["stays", "rooms", "who", "night", "steps"] ["stays", "rooms", "who", "night"] (bA (top 32)):=fsc
 exact fu (fl:=[.A,.A,.A,.A,.O]) D sc (by decide) (by decide) fun f cdv A outer s H E hr=>aR (Bf (i:=4) (L:=[]) (fl':=[.A,.A,.A,.A,.A]) rfl sc.nd rfl rfl rfl ["place", "stay"] ["stays", "who", "night"] [0,2,3] (uL (vB 0) (by rfl) B.enumerate_) (fun _ _ _ _ _=>rR rfl (gP (gN' (i:=0) (show (["place", "stay", "stays", "who", "night"]:List Str).Nodup by decide +kernel)) (gP (gN' (i:=1) (show (["place", "stay", "stays", "who", "night"]:List Str).Nodup by decide +kernel)) (pI)))) (fun _ _ _ _ _=>lR (ji (gF (bK hgoes_ahead hr (dq (vP 2) (dq (vP 3) (dq (vP 0) (dq (vP 4) dz)))))))) (fun _ _ _ _ _=>iy (ig (cg (oF rfl (dq (dx (vB 1) iP) (dq (vA 0) dz)))))))
  (aR (d_ (jF (ji (gF (bK his_tight hr (dq (vP 0) (dq (vP 1) (dq (vP 3) dz))))))) (aV (oU (i:=4) rfl (lu (oF rfl (dq (iy (dO gR jz (vP 3) iP)) (dq (iy (yS)) dz)))) rfl)) (cF))
  (aV (bW (pG 4 (by decide)))))
theorem tL (D:Dg K mg "nights_reached" (top 33) ["stays", "rooms", "who", "begin"]) (B:Bl mg) (hsteps_from:Has P w K mg base n "steps_from" ["stays", "rooms", "who", "night"] (spD K fY)):Has P w K mg base (n + 1) "nights_reached" ["stays", "rooms", "who", "begin"] (spD K fQ):=by
 have sc:FnScope ["stays", "rooms", "who", "begin", "reached", "night", "step"] ["stays", "rooms", "who", "begin"] (bA (top 33)):=fsc
 exact fu (fl:=[.A,.A,.A,.A,.N,.A,.A]) D sc (by decide) (by decide) fun f cdv A outer s H E hr=>aR (zf (i:=4) rfl sc.nd rfl (by first | exact Or.inl rfl | exact Or.inr rfl) (XD.J1 (vP 3)))
  (aR (iu (L:=[]) PassesOwn.never rfl (GF (by rfl) B.range_ (oW (dq (vP 3) (dq (cg (dx (dH (dx (vB 0) (vP 2))) iP)) dz)))) (gN' (i:=5) sc.nd) (aV (d_ (cN (XK.SX hr.units) XD.S9 (vP 5) (zc 4 rfl) (by with_unfolding_all rfl)) (aV (iu (L:=[]) PassesOwn.never rfl (eO (dH (lu (bK hsteps_from hr (dq (vP 0) (dq (vP 1) (dq (vP 2) (dq (vP 5) dz)))))))) (gN' (i:=6) sc.nd) (aV (XD.Te (i:=4) rfl (cg (dx (vB 6) iP)) (cg (oF rfl (dq (vA 5) (dq (dx (vB 6) iP) dz)))) rfl ⟨rfl,rfl,rfl,rfl⟩)))) (cF))))
  (aV (bW (JC 4 rfl))))
theorem Ck (D:Dg K mg "chain_to" (top 34) ["reached", "last"]) (B:Bl mg):Has P w K mg base (n + 1) "chain_to" ["reached", "last"] (spD K nM):=by
 have sc:FnScope ["reached", "last", "chain", "night", "place"] ["reached", "last"] (bA (top 34)):=fsc
 exact fu (fl:=[.A,.A,.O,.A,.A]) D sc (by decide) (by decide) fun f cdv A outer s H E hr=>aR (lU (i:=2) rfl sc.nd rfl (by first | exact Or.inl rfl | exact Or.inr rfl) (qp (iU dz)))
  (aR (sA (i:=3) sc.nd (vA 1))
  (aR (Jq PassesOwn.never (mZ (bC (XD.wg (XK.hu1 hr.units) (vP 0) (vP 3) (fun _ _=>rfl)))) (aR (sA (i:=4) sc.nd (dx (dH (gJ (XD.wg (XK.hu1 hr.units) (vP 0) (vP 3) (fun _ _=>rfl)))) iP))
  (aR (d_ (mZ (vP 4)) (aV (Dm (i:=2) rfl iP (vA 4) rfl)) (cF))
  (aV (sA (i:=3) sc.nd (dx (dH (gJ (XD.wg (XK.hu1 hr.units) (vP 0) (vP 3) (fun _ _=>rfl)))) iP))))))
  (aV (bW (pG 2 (by decide))))))
theorem z8 (D:Dg K mg "plan_with" (top 35) ["stays", "rooms", "now", "who", "room", "chain"]) (B:Bl mg) (hbeginnings:Has P w K mg base n "beginnings" ["stays", "rooms", "now"] (spD K cO)) (hfilled:Has P w K mg base n "filled" ["stays", "plan", "begin"] (spD K qQ)):Has P w K mg base (n + 1) "plan_with" ["stays", "rooms", "now", "who", "room", "chain"] (spD K mJ):=by
 have sc:FnScope ["stays", "rooms", "now", "who", "room", "chain", "plan", "place", "begin"] ["stays", "rooms", "now", "who", "room", "chain"] (bA (top 35)):=fsc
 exact fu (fl:=[.A,.A,.A,.A,.A,.A,.O,.A,.O]) D sc (by decide) (by decide) fun f cdv A outer s H E hr=>aR (Bf (i:=6) (L:=[]) (fl':=[.A]) rfl sc.nd rfl rfl rfl ["stay"] [] [] (eO (vB 0)) (fun _ _ _ _ _=>gN' (i:=0) (show (["stay"]:List Str).Nodup by decide +kernel)) (fun _ _ _ _ _=>lX) (fun _ _ _ _ _=>iy (ig (cg (dx (vB 0) iP)))))
  (aR (iu (L:=[]) PassesOwn.never rfl (eO (dH (qt (tY (vB 5) (dH (qt (pK (dq (vA 3) dz)))))))) (gN' (i:=7) sc.nd) (aV (vI (i:=6) rfl (vA 4) (vP 7) rfl)))
  (aR (lU (i:=8) rfl sc.nd rfl (by first | exact Or.inl rfl | exact Or.inr rfl) (qp (Jl (bK hbeginnings hr (dq (vP 0) (dq (vP 1) (dq (vP 2) dz)))))))
  (aR (vI (i:=8) rfl (dx (dH (dx (vB 0) (vP 3))) iP) (vP 4) rfl)
  (aV (bW (uq (bK hfilled hr (dq (vP 0) (dq (n6 (jw 6)) (dq (n6 (jw 8)) dz))))))))))
theorem Cm (D:Dg K mg "may_have" (top 36) ["stays", "rooms", "now", "who", "room"]) (B:Bl mg) (hbeginnings:Has P w K mg base n "beginnings" ["stays", "rooms", "now"] (spD K cO)) (hcheck_who:Has P w K mg base n "check_who" ["stays", "rooms", "now", "who"] (spD K mH)) (hcheck_room:Has P w K mg base n "check_room" ["rooms", "room"] (spD K fK)) (hnights_reached:Has P w K mg base n "nights_reached" ["stays", "rooms", "who", "begin"] (spD K fQ)) (hchain_to:Has P w K mg base n "chain_to" ["reached", "last"] (spD K nM)) (hplan_with:Has P w K mg base n "plan_with" ["stays", "rooms", "now", "who", "room", "chain"] (spD K mJ)):Has P w K mg base (n + 1) "may_have" ["stays", "rooms", "now", "who", "room"] (spD K eV):=by
 have sc:FnScope ["stays", "rooms", "now", "who", "room", "begin", "first", "reached", "chain"] ["stays", "rooms", "now", "who", "room"] (bA (top 36)):=fsc
 exact fu (fl:=[.A,.A,.A,.A,.A,.A,.A,.A,.O]) D sc (by decide) (by decide) fun f cdv A outer s H E hr=>aR (uK (gF (bK hcheck_who hr (dq (vP 0) (dq (vP 1) (dq (vP 2) (dq (vP 3) dz)))))))
  (aR (uK (gF (bK hcheck_room hr (dq (vP 1) (dq (vP 4) dz)))))
  (aR (sA (i:=5) sc.nd (dx (dH (lu (bK hbeginnings hr (dq (vP 0) (dq (vP 1) (dq (vP 2) dz)))))) (vP 4)))
  (aR (sA (i:=6) sc.nd (dx (dH (dx (vB 0) (vP 3))) iP))
  (aR (d_ (cN uY CT (vP 5) (vP 6) (cG _)) (aV (bW (oF rfl (dq (cj (tW)) (dq (cj (iU dz)) dz))))) (cF))
  (aR (sA (i:=7) sc.nd (lu (bK hnights_reached hr (dq (vP 0) (dq (vP 1) (dq (vP 3) (dq (vP 5) dz)))))))
  (aR (d_ (cN (XK.G7 hr.units) XD.Hf (vP 6) (vP 7) (by with_unfolding_all rfl)) (aV (bW (oF rfl (dq (cj (tW)) (dq (cj (XD.Hg rfl (dq (vP 7) dz) (by rfl) B.sorted_)) dz))))) (cF))
  (aR (lU (i:=8) rfl sc.nd rfl (by first | exact Or.inl rfl | exact Or.inr rfl) (qp (Jl (bK hchain_to hr (dq (vP 7) (dq (vP 6) dz))))))
  (aV (bW (oF rfl (dq (cj (tW)) (dq (pG 8 (by decide)) (dq (uq (bK hplan_with hr (dq (vP 0) (dq (vP 1) (dq (vP 2) (dq (vP 3) (dq (vP 4) (dq (n6 (jw 8)) dz)))))))) dz)))))))))))))
theorem z9 (D:Dg K mg "_law_cell" (top 38) ["_law_script", "_law_at"]) (B:Bl mg):Has P w K mg base (n + 1) "_law_cell" ["_law_script", "_law_at"] (spD K jf):=by
 have sc:FnScope ["_law_script", "_law_at"] ["_law_script", "_law_at"] (bA (top 38)):=fsc
 exact fu (fl:=[.A,.A]) D sc (by decide) (by decide) fun f cdv A outer s H E hr=>aR (d_ (cN j_ b_lt (vP 1) (bC (dR bV i_ (by rfl) B.len_ PySem.boot_len (dq (vP 0) dz))) (cG _)) (aV (bW (cj (dO mX sY (cg (dx (vB 0) (vP 1))) iP)))) (cF))
  (aR (d_ (cN (k_ hr.units) sZ (vP 0) (bC (iU dz)) (cG _)) (aV (bW (cj (dO gR jz (bC (dO mY sX iP (vP 1))) iP)))) (cF))
  (aV (bW (cj (dO gR jz (bC (dO mX sY (cg (dx (vB 0) (bC (dO mX sY (bC (dO mY sX (vP 1) iP)) (bC (dR bV i_ (by rfl) B.len_ PySem.boot_len (dq (vP 0) dz))))))) iP)) (bC (dO mY sX iP (vP 1))))))))
theorem z_ (D:Dg K mg "_law_part" (top 39) ["_law_script", "_law_at", "_law_k", "_law_many"]) (B:Bl mg) (h_law_cell:Has P w K mg base n "_law_cell" ["_law_script", "_law_at"] (spD K jf)):Has P w K mg base (n + 1) "_law_part" ["_law_script", "_law_at", "_law_k", "_law_many"] (spD K bT):=by
 have sc:FnScope ["_law_script", "_law_at", "_law_k", "_law_many", "_law_number", "_law_j"] ["_law_script", "_law_at", "_law_k", "_law_many"] (bA (top 39)):=fsc
 exact fu (fl:=[.A,.A,.A,.A,.A,.A]) D sc (by decide) (by decide) fun f cdv A outer s H E hr=>aR (d_ (oX (lG (cN j_ b_lt (vP 1) (bC (dR bV i_ (by rfl) B.len_ PySem.boot_len (dq (vP 0) dz))) (cG _)) (lW (cN Ir RV (cg (dx (vB 0) (vP 1))) (bC (dO Rw Vx iP iP)) (cG _))))) (aR (sA (i:=4) sc.nd (dx (vB 0) (vP 1)))
  (aR (iu (L:=[]) PassesOwn.never rfl (iz (by rfl) B.range_ (oW (dq (vP 2) dz))) (gN' (i:=5) sc.nd) (aV (sA (i:=4) sc.nd (gJ (dO Eu QH (vP 4) iP)))))
  (aV (d_ (cN uY CT (vP 4) iP (cG _)) (aV (bW (cj (dO mX sY (bC (dO mX sY (vP 4) iP)) (vP 3))))) (cF))))) (cF))
  (aR (sA (i:=4) sc.nd (gJ (dO mX sY (bC (dO mY sX (bC (dO gR jz (bC (dO gR jz (gF (bK h_law_cell hr (dq (vP 0) (dq (vP 1) dz)))) (bC (dO mY sX iP (vP 1))))) iP)) (bC (dO gR jz iP (bC (dO mY sX iP (vP 2))))))) iP)))
  (aR (sA (i:=4) sc.nd (gJ (dO gR jz (bC (dO mX sY (bC (dO mY sX (vP 4) (vP 4))) iP)) iP)))
  (aV (bW (cj (dO mX sY (bC (dO Eu QH (bC (dO mX sY (bC (dO mY sX (vP 4) (vP 4))) iP)) iP)) (vP 3)))))))
theorem xJ (D:Dg K mg "_law_whole" (top 40) ["_law_found"]) (B:Bl mg):Has P w K mg base (n + 1) "_law_whole" ["_law_found"] (spD K cJ):=by
 have sc:FnScope ["_law_found"] ["_law_found"] (bA (top 40)):=fsc
 exact fu (fl:=[.A]) D sc (by decide) (by decide) fun f cdv A outer s H E hr=>aV (bW (cj (mU (bC (nC (T := "int") (by decide) (vP 0) (by rfl) B.isinstance_ (by rfl) B.int_ PyProof.Rows.boot_int)) (qu (Jt (bC (nC (T := "bool") (by decide) (vP 0) (by rfl) B.isinstance_ (by rfl) B.bool_ PyProof.Rows.boot_bool)))))))
theorem Aa (D:Dg K mg "_law_stay" (top 41) ["_law_script", "_law_at", "_law_turn", "_law_mode", "_law_now_here"]) (B:Bl mg) (h_law_part:Has P w K mg base n "_law_part" ["_law_script", "_law_at", "_law_k", "_law_many"] (spD K bT)):Has P w K mg base (n + 1) "_law_stay" ["_law_script", "_law_at", "_law_turn", "_law_mode", "_law_now_here"] (spD K gj):=by
 have sc:FnScope ["_law_script", "_law_at", "_law_turn", "_law_mode", "_law_now_here", "_law_first", "_law_long"] ["_law_script", "_law_at", "_law_turn", "_law_mode", "_law_now_here"] (bA (top 41)):=fsc
 exact fu (fl:=[.A,.A,.A,.A,.A,.A,.A]) D sc (by decide) (by decide) fun f cdv A outer s H E hr=>aR (sA (i:=5) sc.nd (gJ (dR (tR rfl) Dj (by rfl) B.min_ PyProof.Rows.boot_min (dq iP (dq (bC (dO gR jz (vP 4) (gF (bK h_law_part hr (dq (vP 0) (dq (vP 1) (dq (vP 2) (dq (cg (dx (dH (gJ (iU (dq iC (dq iC (dq iC (dq iC dz))))))) (vP 3))) dz)))))))) dz)))))
  (aR (sA (i:=6) sc.nd (gJ (dO gR jz iP (gF (bK h_law_part hr (dq (vP 0) (dq (vP 1) (dq (bC (dO gR jz (vP 2) iP)) (dq (cg (dx (dH (gJ (iU (dq iC (dq iC (dq iC (dq iC dz))))))) (gF (bK h_law_part hr (dq (vP 0) (dq (vP 1) (dq (bC (dO gR jz (vP 2) iP)) (dq iP dz)))))))) dz)))))))))
  (aV (bW (oF rfl (dq (cj (ig (vP 5))) (dq (cj (dR (tR rfl) Dj (by rfl) B.min_ PyProof.Rows.boot_min (dq iP (dq (bC (dO gR jz (vP 5) (vP 6))) dz)))) (dq (cj (yS)) dz)))))))
theorem xK (D:Dg K mg "_law_guest" (top 42) ["_law_script", "_law_at", "_law_turn", "_law_now_here", "_law_room"]) (B:Bl mg) (h_law_part:Has P w K mg base n "_law_part" ["_law_script", "_law_at", "_law_k", "_law_many"] (spD K bT)):Has P w K mg base (n + 1) "_law_guest" ["_law_script", "_law_at", "_law_turn", "_law_now_here", "_law_room"] (spD K gW):=by
 have sc:FnScope ["_law_script", "_law_at", "_law_turn", "_law_now_here", "_law_room", "_law_first", "_law_more"] ["_law_script", "_law_at", "_law_turn", "_law_now_here", "_law_room"] (bA (top 42)):=fsc
 exact fu (fl:=[.A,.A,.A,.A,.A,.A,.A]) D sc (by decide) (by decide) fun f cdv A outer s H E hr=>aR (sA (i:=5) sc.nd (gJ (dR (xU rfl) Ju (by rfl) B.max_ PyProof.Rows.boot_max (dq iP (dq (bC (dO Ip QG (vP 3) (gF (bK h_law_part hr (dq (vP 0) (dq (vP 1) (dq (vP 2) (dq iP dz)))))))) dz)))))
  (aR (sA (i:=6) sc.nd (lu (bK h_law_part hr (dq (vP 0) (dq (vP 1) (dq (bC (dO gR jz (vP 2) iP)) (dq (cg (dx (dH (gJ (iU (dq iC (dq iC (dq iC dz)))))) (gF (bK h_law_part hr (dq (vP 0) (dq (vP 1) (dq (bC (dO gR jz (vP 2) iP)) (dq iP dz)))))))) dz)))))))
  (aV (bW (oF rfl (dq (cj (ig (vP 5))) (dq (cj (dR (tR rfl) Dj (by rfl) B.min_ PyProof.Rows.boot_min (dq iP (dq (bC (dO gR jz (bC (dO gR jz (vP 3) iP)) (vP 6))) dz)))) (dq (cj (ig (vP 4))) dz)))))))
theorem Ab (D:Dg K mg "_law_full" (top 43) ["_law_stays_here", "_law_rooms", "_law_now_here"]) (B:Bl mg):Has P w K mg base (n + 1) "_law_full" ["_law_stays_here", "_law_rooms", "_law_now_here"] (spD K gw):=by
 have sc:FnScope ["_law_stays_here", "_law_rooms", "_law_now_here", "_law_night"] ["_law_stays_here", "_law_rooms", "_law_now_here"] (bA (top 43)):=fsc
 exact fu (fl:=[.A,.A,.A,.A]) D sc (by decide) (by decide) fun f cdv A outer s H E hr=>aR (iu (L:=[]) PassesOwn.never rfl (eO (dH (gJ (t_ (dq (A_ (tY (dH (qt (pK (dq (vA 2) dz)))) (dH (gJ (iV (L:=[]) (fl':=[.A,.A]) rfl ["_law_one"] ["_law_now_here"] [2] (eO (vB 0)) (fun _ _ _ _ _=>gN' (i:=0) (show (["_law_one", "_law_now_here"]:List Str).Nodup by decide +kernel)) (fun _ _ _ _ _=>lX) (fun _ _ _ _ _=>iy (dR (xU rfl) Ju (by rfl) B.max_ PyProof.Rows.boot_max (dq (vP 1) (dq (cg (dx (vB 0) iP)) dz))))))))) dz) (by rfl) B.sorted_)))) (gN' (i:=3) sc.nd) (aV (d_ (cN uY CT (bC (dR bV i_ (by rfl) B.len_ PySem.boot_len (dq (bC (iV (L:=[]) (fl':=[.A,.A]) rfl ["_law_one"] ["_law_night"] [3] (eO (vB 0)) (fun _ _ _ _ _=>gN' (i:=0) (show (["_law_one", "_law_night"]:List Str).Nodup by decide +kernel)) (fun _ _ _ _ _=>lR (oX (lG (cN qj vH (cg (dx (vB 0) iP)) (vP 1) (cG _)) (lW (cN j_ b_lt (vP 1) (cg (dx (vB 0) iP)) (cG _)))))) (fun _ _ _ _ _=>iy (ig (vP 0))))) dz))) (vP 1) (cG _)) (aV (bW (cj (ig (vP 3))))) (cF))))
  (aV (bW (cj (yS))))
theorem Cp (D:Dg K mg "_law_now" (top 44) ["_law_script"]) (B:Bl mg) (h_law_part:Has P w K mg base n "_law_part" ["_law_script", "_law_at", "_law_k", "_law_many"] (spD K bT)):Has P w K mg base (n + 1) "_law_now" ["_law_script"] (spD K j8):=by
 have sc:FnScope ["_law_script"] ["_law_script"] (bA (top 44)):=fsc
 exact fu (fl:=[.A]) D sc (by decide) (by decide) fun f cdv A outer s H E hr=>aV (bW (cj (ig (cg (dx (dH (gJ (iU (dq iC (dq (bK h_law_part hr (dq (vP 0) (dq iP (dq iP (dq iP dz))))) (dq (bK h_law_part hr (dq (vP 0) (dq iP (dq iP (dq iP dz))))) (dq iC dz))))))) (gF (bK h_law_part hr (dq (vP 0) (dq iP (dq iP (dq iP dz)))))))))))
theorem xM (D:Dg K mg "_law_stays" (top 45) ["_law_script", "_law_rooms", "_law_now_here", "_law_most"]) (B:Bl mg) (h_law_part:Has P w K mg base n "_law_part" ["_law_script", "_law_at", "_law_k", "_law_many"] (spD K bT)) (h_law_stay:Has P w K mg base n "_law_stay" ["_law_script", "_law_at", "_law_turn", "_law_mode", "_law_now_here"] (spD K gj)) (h_law_guest:Has P w K mg base n "_law_guest" ["_law_script", "_law_at", "_law_turn", "_law_now_here", "_law_room"] (spD K gW)) (h_law_full:Has P w K mg base n "_law_full" ["_law_stays_here", "_law_rooms", "_law_now_here"] (spD K gw)):Has P w K mg base (n + 1) "_law_stays" ["_law_script", "_law_rooms", "_law_now_here", "_law_most"] (spD K jk):=by
 have sc:FnScope ["_law_script", "_law_rooms", "_law_now_here", "_law_most", "_law_mode", "_law_stays_here", "_law_room", "_law_at", "_law_wide", "_law_k", "_law_new"] ["_law_script", "_law_rooms", "_law_now_here", "_law_most"] (bA (top 45)):=fsc
 exact fu (fl:=[.A,.A,.A,.A,.A,.O,.A,.A,.A,.A,.A]) D sc (by decide) (by decide) fun f cdv A outer s H E hr=>aR (sA (i:=4) sc.nd (lu (bK h_law_part hr (dq (vP 0) (dq iP (dq iP (dq iP dz)))))))
  (aR (lU (i:=5) rfl sc.nd rfl (by first | exact Or.inl rfl | exact Or.inr rfl) (qp (iU dz)))
  (aR (iu (L:=[]) PassesOwn.never rfl (iz (by rfl) B.range_ (oW (dq (vP 1) dz))) (gN' (i:=6) sc.nd) (aV (d_ (oX (lG (cN (k_ hr.units) sZ (gF (bK h_law_part hr (dq (vP 0) (dq iP (dq (vP 6) (dq iP dz)))))) iP (cG _)) (lW (cN j_ b_lt (bC (dR bV i_ (by rfl) B.len_ PySem.boot_len (dq (n6 (jw 5)) dz))) (vP 3) (cG _))))) (aR (sA (i:=7) sc.nd (lu (bK h_law_part hr (dq (vP 0) (dq iP (dq (bC (dO gR jz iP (vP 6))) (dq (bC (dO gR jz (bC (dR bV i_ (by rfl) B.len_ PySem.boot_len (dq (n6 (jw 5)) dz))) iP)) dz)))))))
  (aV (Dm (i:=5) rfl (vP 7) (lu (bK h_law_guest hr (dq (vP 0) (dq iP (dq (bC (dO mY sX iP (vP 6))) (dq (vP 2) (dq (vP 6) dz))))))) rfl))) (cF))))
  (aR (sA (i:=8) sc.nd (gJ (mR (k_ hr.units) sZ (gF (bK h_law_part hr (dq (vP 0) (dq iP (dq iP (dq iP dz)))))) iP (cG _))))
  (aR (iu (L:=[]) PassesOwn.never rfl (iz (by rfl) B.range_ (oW (dq (cg (dx (dH (gJ (iU (dq iC (dq iC dz))))) (bC (EY (dq (vP 8) dz) (by rfl) B.int_)))) dz))) (gN' (i:=9) sc.nd) (aR (sA (i:=10) sc.nd (lu (bK h_law_stay hr (dq (vP 0) (dq (bC (dO gR jz iP (vP 9))) (dq iP (dq (vP 4) (dq (vP 2) dz))))))))
  (aR (sA (i:=7) sc.nd (lu (bK h_law_part hr (dq (vP 0) (dq iP (dq (vP 9) (dq (bC (dO gR jz (bC (dR bV i_ (by rfl) B.len_ PySem.boot_len (dq (n6 (jw 5)) dz))) iP)) dz)))))))
  (aV (d_ (oX (lG (cN j_ b_lt (bC (dR bV i_ (by rfl) B.len_ PySem.boot_len (dq (n6 (jw 5)) dz))) (vP 3) (cG _)) (lW (qy (gF (bK h_law_full hr (dq (A_ (tY (jw 5) (dH (qt (pK (dq (vA 10) dz)))))) (dq (vP 1) (dq (vP 2) dz))))))))) (aV (Dm (i:=5) rfl (vP 7) (vA 10) rfl)) (cF))))))
  (aV (bW (pG 5 (by decide))))))))
theorem xO (D:Dg K mg "_law_right" (top 46) ["_law_plan", "_law_stays_here", "_law_rooms"]) (B:Bl mg) (h_law_whole:Has P w K mg base n "_law_whole" ["_law_found"] (spD K cJ)):Has P w K mg base (n + 1) "_law_right" ["_law_plan", "_law_stays_here", "_law_rooms"] (spD K eU):=by
 have sc:FnScope ["_law_plan", "_law_stays_here", "_law_rooms", "_law_at", "_law_k"] ["_law_plan", "_law_stays_here", "_law_rooms"] (bA (top 46)):=fsc
 exact fu (fl:=[.A,.A,.A,.A,.A]) D sc (by decide) (by decide) fun f cdv A outer s H E hr=>aR (d_ (oX (mC (jF (ji (bC (nC (T := "list") (by decide) (vP 0) (by rfl) B.isinstance_ (by rfl) B.list_ PyProof.Rows.boot_list)))) (oG (cN (pA hr.units) yU (bC (dR bV i_ (by rfl) B.len_ PySem.boot_len (dq (vP 0) dz))) (bC (dR bV i_ (by rfl) B.len_ PySem.boot_len (dq (vP 1) dz))) (cG _))))) (aV (bW (cj (mq)))) (cF))
  (aR (iu (L:=[]) PassesOwn.never rfl (iz (by rfl) B.range_ (oW (dq (bC (dR bV i_ (by rfl) B.len_ PySem.boot_len (dq (vP 1) dz))) dz))) (gN' (i:=3) sc.nd) (aR (d_ (oX (mC (jF (ji (gF (bK h_law_whole hr (dq (cg (dx (vB 0) (vP 3))) dz))))) (mC (cN j_ b_lt (cg (dx (vB 0) (vP 3))) iP (cG _)) (oG (cN Ir RV (cg (dx (vB 0) (vP 3))) (vP 2) (cG _)))))) (aV (bW (cj (mq)))) (cF))
  (aR (d_ (oX (lG (mZ (cg (dx (dH (dx (vB 1) (vP 3))) iP))) (lW (cN (pA hr.units) yU (cg (dx (dH (dx (vB 1) (vP 3))) iP)) (cg (dx (vB 0) (vP 3))) (cG _))))) (aV (bW (cj (mq)))) (cF))
  (aV (iu (L:=[]) PassesOwn.never rfl (iz (by rfl) B.range_ (oW (dq (vP 3) dz))) (gN' (i:=4) sc.nd) (aV (d_ (oX (lG (cN (k_ hr.units) sZ (cg (dx (vB 0) (vP 4))) (cg (dx (vB 0) (vP 3))) (cG _)) (lG (cN j_ b_lt (cg (dx (dH (dx (vB 1) (vP 4))) iP)) (cg (dx (dH (dx (vB 1) (vP 3))) iP)) (cG _)) (lW (cN j_ b_lt (cg (dx (dH (dx (vB 1) (vP 3))) iP)) (cg (dx (dH (dx (vB 1) (vP 4))) iP)) (cG _)))))) (aV (bW (cj (mq)))) (cF))))))))
  (aV (bW (cj (mq)))))
theorem xP (D:Dg K mg "_law_begin" (top 47) ["_law_stays_here", "_law_now_here", "_law_room"]) (B:Bl mg):Has P w K mg base (n + 1) "_law_begin" ["_law_stays_here", "_law_now_here", "_law_room"] (spD K fZ):=by
 have sc:FnScope ["_law_stays_here", "_law_now_here", "_law_room", "_law_first", "_law_behind", "_law_held"] ["_law_stays_here", "_law_now_here", "_law_room"] (bA (top 47)):=fsc
 exact fu (fl:=[.A,.A,.A,.A,.A,.A]) D sc (by decide) (by decide) fun f cdv A outer s H E hr=>aR (iu (L:=[]) PassesOwn.never rfl (eO (vB 0)) (rR rfl (gP (gN' (i:=3) sc.nd) (gP (gN' (i:=4) sc.nd) (gP (gN' (i:=5) sc.nd) (pI))))) (aV (d_ (oX (lG (mZ (vP 5)) (lW (cN (k_ hr.units) sZ (vP 5) (vP 2) (cG _))))) (aV (bW (cj (ig (vP 4))))) (cF))))
  (aV (bW (cj (ig (vP 1)))))
theorem Ac (D:Dg K mg "_law_next" (top 48) ["_law_stays_here", "_law_rooms", "_law_who", "_law_night"]) (B:Bl mg):Has P w K mg base (n + 1) "_law_next" ["_law_stays_here", "_law_rooms", "_law_who", "_law_night"] (spD K kI):=by
 have sc:FnScope ["_law_stays_here", "_law_rooms", "_law_who", "_law_night", "_law_found", "_law_k", "_law_first", "_law_behind", "_law_held"] ["_law_stays_here", "_law_rooms", "_law_who", "_law_night"] (bA (top 48)):=fsc
 exact fu (fl:=[.A,.A,.A,.A,.O,.A,.A,.A,.A]) D sc (by decide) (by decide) fun f cdv A outer s H E hr=>aR (lU (i:=4) rfl sc.nd rfl (by first | exact Or.inl rfl | exact Or.inr rfl) (qp (iU dz)))
  (aR (d_ (cN j_ b_lt (bC (dR bV i_ (by rfl) B.len_ PySem.boot_len (dq (bC (iV (L:=[]) (fl':=[.A,.A]) rfl ["_law_one"] ["_law_night"] [3] (eO (vB 0)) (fun _ _ _ _ _=>gN' (i:=0) (show (["_law_one", "_law_night"]:List Str).Nodup by decide +kernel)) (fun _ _ _ _ _=>lR (oX (lG (cN qj vH (cg (dx (vB 0) iP)) (vP 1) (cG _)) (lW (cN j_ b_lt (vP 1) (cg (dx (vB 0) iP)) (cG _)))))) (fun _ _ _ _ _=>iy (ig (vP 0))))) dz))) (vP 1) (cG _)) (aV (oU (i:=4) rfl (gJ (dO gR jz (vP 3) iP)) rfl)) (cF))
  (aR (iu (L:=[]) PassesOwn.never rfl (iz (by rfl) B.range_ (oW (dq (bC (dR bV i_ (by rfl) B.len_ PySem.boot_len (dq (vP 0) dz))) dz))) (gN' (i:=5) sc.nd) (aR (RW (dx (vB 0) (vP 5)) (rR rfl (gP (gN' (i:=6) sc.nd) (gP (gN' (i:=7) sc.nd) (gP (gN' (i:=8) sc.nd) (pI))))))
  (aV (d_ (oX (lG (cN (pA hr.units) yU (vP 5) (vP 2) (cG _)) (lG (qy (vP 8)) (lG (cN (k_ hr.units) sZ (vP 6) (vP 3) (cG _)) (lW (cN qj vH (vP 7) (cg (dx (dH (dx (vB 0) (vP 2))) iP)) (cG _))))))) (aV (oU (i:=4) rfl (vA 7) rfl)) (cF)))))
  (aV (bW (pG 4 (by decide))))))
theorem wM (D:Dg K mg "_law_rising" (top 49) ["_law_thing"]) (B:Bl mg) (h_law_whole:Has P w K mg base n "_law_whole" ["_law_found"] (spD K cJ)):Has P w K mg base (n + 1) "_law_rising" ["_law_thing"] (spD K eG):=by
 have sc:FnScope ["_law_thing"] ["_law_thing"] (bA (top 49)):=fsc
 exact fu (fl:=[.A]) D sc (by decide) (by decide) fun f cdv A outer s H E hr=>aR (d_ (oX (mC (jF (ji (bC (nC (T := "list") (by decide) (vP 0) (by rfl) B.isinstance_ (by rfl) B.list_ PyProof.Rows.boot_list)))) (oG (jF (ji (bC (dR (q_ rfl) yr (by rfl) B.all_ (show bootBuiltins "all" = some (.builtin "all") by decide +kernel) (dq (bC (iV (L:=[]) (fl':=[.A]) rfl ["_law_one"] [] [] (eO (vB 0)) (fun _ _ _ _ _=>gN' (i:=0) (show (["_law_one"]:List Str).Nodup by decide +kernel)) (fun _ _ _ _ _=>lX) (fun _ _ _ _ _=>bK h_law_whole hr (dq (vP 0) dz)))) dz)))))))) (aV (bW (cj (mq)))) (cF))
  (aV (bW (cj (dR (q_ rfl) yr (by rfl) B.all_ (show bootBuiltins "all" = some (.builtin "all") by decide +kernel) (dq (bC (iV (L:=[]) (fl':=[.A,.A]) rfl ["_law_k"] ["_law_thing"] [0] (iz (by rfl) B.range_ (oW (dq (bC (dO Ip QG (bC (dR bV i_ (by rfl) B.len_ PySem.boot_len (dq (vP 0) dz))) iP)) dz))) (fun _ _ _ _ _=>gN' (i:=0) (show (["_law_k", "_law_thing"]:List Str).Nodup by decide +kernel)) (fun _ _ _ _ _=>lX) (fun _ _ _ _ _=>iy (mR j_ b_lt (cg (dx (vB 1) (vP 0))) (cg (dx (vB 1) (bC (dO gR jz (vP 0) iP)))) (cG _))))) dz)))))
theorem Ad (D:Dg K mg "_law_shut" (top 50) ["_law_stays_here", "_law_rooms", "_law_now_here", "_law_who", "_law_room", "_law_thing"]) (B:Bl mg) (h_law_begin:Has P w K mg base n "_law_begin" ["_law_stays_here", "_law_now_here", "_law_room"] (spD K fZ)) (h_law_next:Has P w K mg base n "_law_next" ["_law_stays_here", "_law_rooms", "_law_who", "_law_night"] (spD K kI)) (h_law_rising:Has P w K mg base n "_law_rising" ["_law_thing"] (spD K eG)):Has P w K mg base (n + 1) "_law_shut" ["_law_stays_here", "_law_rooms", "_law_now_here", "_law_who", "_law_room", "_law_thing"] (spD K iQ):=by
 have sc:FnScope ["_law_stays_here", "_law_rooms", "_law_now_here", "_law_who", "_law_room", "_law_thing", "_law_begin_here", "_law_goal", "_law_night", "_law_there"] ["_law_stays_here", "_law_rooms", "_law_now_here", "_law_who", "_law_room", "_law_thing"] (bA (top 50)):=fsc
 exact fu (fl:=[.A,.A,.A,.A,.A,.A,.A,.A,.A,.A]) D sc (by decide) (by decide) fun f cdv A outer s H E hr=>aR (sA (i:=6) sc.nd (lu (bK h_law_begin hr (dq (vP 0) (dq (vP 2) (dq (vP 4) dz))))))
  (aR (sA (i:=7) sc.nd (dx (dH (dx (vB 0) (vP 3))) iP))
  (aR (d_ (jF (ji (gF (bK h_law_rising hr (dq (vP 5) dz))))) (aV (bW (cj (mq)))) (cF))
  (aR (d_ (cN uY CT (vP 6) (vP 7) (cG _)) (aV (bW (cj (mR (k_ hr.units) sZ (vP 5) (bC (iU dz)) (cG _))))) (cF))
  (aR (d_ (oX (mC (cN (yt hr.units) Fd (vP 6) (vP 5) (by with_unfolding_all rfl)) (mC (cN (Sw hr.units) XM (vP 7) (vP 5) (by with_unfolding_all rfl)) (mC (cN j_ b_lt (cg (dx (vB 5) iP)) (vP 6) (cG _)) (oG (cN uY CT (cg (dx (vB 5) (bC (Jw iP)))) (vP 7) (cG _))))))) (aV (bW (cj (mq)))) (cF))
  (aR (iu (L:=[]) PassesOwn.never rfl (eO (vB 5)) (gN' (i:=8) sc.nd) (aV (iu (L:=[]) PassesOwn.never rfl (eO (dH (lu (bK h_law_next hr (dq (vP 0) (dq (vP 1) (dq (vP 3) (dq (vP 8) dz)))))))) (gN' (i:=9) sc.nd) (aV (d_ (cN (yt hr.units) Fd (vP 9) (vP 5) (by with_unfolding_all rfl)) (aV (bW (cj (mq)))) (cF))))))
  (aV (bW (cj (mq)))))))))
theorem xQ (D:Dg K mg "_law_ahead" (top 51) ["_law_stays_here", "_law_plan", "_law_who"]) (B:Bl mg):Has P w K mg base (n + 1) "_law_ahead" ["_law_stays_here", "_law_plan", "_law_who"] (spD K lC):=by
 have sc:FnScope ["_law_stays_here", "_law_plan", "_law_who", "_law_ranked"] ["_law_stays_here", "_law_plan", "_law_who"] (bA (top 51)):=fsc
 exact fu (fl:=[.A,.A,.A,.A]) D sc (by decide) (by decide) fun f cdv A outer s H E hr=>aR (sA (i:=3) sc.nd (gJ (JM (dq (bC (iV (L:=[]) (fl':=[.A,.A,.A,.A]) rfl ["_law_k"] ["_law_stays_here", "_law_plan", "_law_who"] [0,1,2] (iz (by rfl) B.range_ (oW (dq (bC (dR bV i_ (by rfl) B.len_ PySem.boot_len (dq (vP 0) dz))) dz))) (fun _ _ _ _ _=>gN' (i:=0) (show (["_law_k", "_law_stays_here", "_law_plan", "_law_who"]:List Str).Nodup by decide +kernel)) (fun _ _ _ _ _=>lR (oX (lG (qy (cg (dx (dH (dx (vB 1) (vP 0))) iP))) (lW (cN (k_ hr.units) sZ (cg (dx (vB 2) (vP 0))) (cg (dx (vB 2) (vP 3))) (cG _)))))) (fun _ _ _ _ _=>iy (ig (cg (oF rfl (dq (dx (dH (dx (vB 1) (vP 0))) iP) (dq (vA 0) dz)))))))) dz) (by rfl) B.sorted_)))
  (aV (bW (cj (iV (L:=[]) (fl':=[.A,.A,.A,.A]) rfl ["_law_first", "_law_k"] ["_law_stays_here", "_law_who"] [0,2] (eO (vB 3)) (fun _ _ _ _ _=>rR rfl (gP (gN' (i:=0) (show (["_law_first", "_law_k", "_law_stays_here", "_law_who"]:List Str).Nodup by decide +kernel)) (gP (gN' (i:=1) (show (["_law_first", "_law_k", "_law_stays_here", "_law_who"]:List Str).Nodup by decide +kernel)) (pI)))) (fun _ _ _ _ _=>lR (cN j_ b_lt (vP 0) (cg (dx (dH (dx (vB 2) (vP 3))) iP)) (cG _))) (fun _ _ _ _ _=>iy (ig (vP 1)))))))
theorem wN (D:Dg K mg "_law_walked" (top 52) ["_law_found", "_law_stays_here", "_law_rooms", "_law_who", "_law_room"]) (B:Bl mg) (h_law_whole:Has P w K mg base n "_law_whole" ["_law_found"] (spD K cJ)) (h_law_right:Has P w K mg base n "_law_right" ["_law_plan", "_law_stays_here", "_law_rooms"] (spD K eU)) (h_law_ahead:Has P w K mg base n "_law_ahead" ["_law_stays_here", "_law_plan", "_law_who"] (spD K lC)):Has P w K mg base (n + 1) "_law_walked" ["_law_found", "_law_stays_here", "_law_rooms", "_law_who", "_law_room"] (spD K jt):=by
 have sc:FnScope ["_law_found", "_law_stays_here", "_law_rooms", "_law_who", "_law_room"] ["_law_found", "_law_stays_here", "_law_rooms", "_law_who", "_law_room"] (bA (top 52)):=fsc
 exact fu (fl:=[.A,.A,.A,.A,.A]) D sc (by decide) (by decide) fun f cdv A outer s H E hr=>aR (d_ (oX (mC (jF (ji (bC (nC (T := "tuple") (by decide) (vP 0) (by rfl) B.isinstance_ (by rfl) B.tuple_ PyProof.Rows.boot_tuple)))) (mC (cN (pA hr.units) yU (bC (dR bV i_ (by rfl) B.len_ PySem.boot_len (dq (vP 0) dz))) iP (cG _)) (mC (cN (pA hr.units) yU (cg (dx (vB 0) iP)) (bC (tW)) (cG _)) (oG (jF (ji (bC (nC (T := "list") (by decide) (cg (dx (vB 0) iP)) (by rfl) B.isinstance_ (by rfl) B.list_ PyProof.Rows.boot_list))))))))) (aV (bW (cj (mq)))) (cF))
  (aR (d_ (oX (mC (jF (ji (gF (bK h_law_right hr (dq (cg (dx (vB 0) iP)) (dq (vP 1) (dq (vP 2) dz))))))) (oG (cN (pA hr.units) yU (cg (dx (dH (dx (vB 0) iP)) (vP 3))) (vP 4) (cG _))))) (aV (bW (cj (mq)))) (cF))
  (aV (bW (cj (mU (bC (dR (q_ rfl) yr (by rfl) B.all_ (show bootBuiltins "all" = some (.builtin "all") by decide +kernel) (dq (bC (iV (L:=[]) (fl':=[.A]) rfl ["_law_one"] [] [] (eO (dH (dx (vB 0) iP))) (fun _ _ _ _ _=>gN' (i:=0) (show (["_law_one"]:List Str).Nodup by decide +kernel)) (fun _ _ _ _ _=>lX) (fun _ _ _ _ _=>bK h_law_whole hr (dq (vP 0) dz)))) dz))) (qu (mR (k_ hr.units) sZ (cg (dx (vB 0) iP)) (gF (bK h_law_ahead hr (dq (vP 1) (dq (cg (dx (vB 0) iP)) (dq (vP 3) dz))))) (cG _))))))))
theorem xR (D:Dg K mg "_law_plans" (top 53) ["_law_stays_here", "_law_rooms"]) (B:Bl mg) (h_law_right:Has P w K mg base n "_law_right" ["_law_plan", "_law_stays_here", "_law_rooms"] (spD K eU)):Has P w K mg base (n + 1) "_law_plans" ["_law_stays_here", "_law_rooms"] (spL K lD):=by
 have sc:FnScope ["_law_stays_here", "_law_rooms", "_law_plans_here", "_law_at", "_law_longer", "_law_plan", "_law_room"] ["_law_stays_here", "_law_rooms"] (bA (top 53)):=fsc
 exact Sx (fl:=[.A,.A,.A,.A,.O,.A,.A]) D sc (by decide) (by decide) fun f cdv A outer s H E hr=>aR (sA (i:=2) sc.nd (gJ (iU (dq (iy (iU dz)) dz))))
  (aR (iu (L:=[]) PassesOwn.never rfl (iz (by rfl) B.range_ (oW (dq (bC (dR bV i_ (by rfl) B.len_ PySem.boot_len (dq (vP 0) dz))) dz))) (gN' (i:=3) sc.nd) (aR (lU (i:=4) rfl sc.nd rfl (by first | exact Or.inl rfl | exact Or.inr rfl) (qp (iU dz)))
  (aR (iu (L:=[]) PassesOwn.never rfl (eO (vB 2)) (gN' (i:=5) sc.nd) (aV (iu (L:=[]) PassesOwn.never rfl (iz (by rfl) B.range_ (oW (dq (vP 1) dz))) (gN' (i:=6) sc.nd) (aV (d_ (ji (gF (bK h_law_right hr (dq (A_ (tY (vB 5) (dH (qt (pK (dq (vA 6) dz)))))) (dq (A_ (VB (vB 0) Nq (Nr (bC (dO gR jz (vP 3) iP))))) (dq (vP 1) dz)))))) (aV (oU (i:=4) rfl (qt (tY (vB 5) (dH (qt (pK (dq (vA 6) dz)))))) rfl)) (cF))))))
  (aV (XV.S6 (i:=2) (j:=4) rfl rfl sc.nd rfl (by first | exact Or.inl rfl | exact Or.inr rfl))))))
  (aV (NP (vP 2))))
theorem Ae (D:Dg K mg "_law_told" (top 54) ["_law_found", "_law_plans_here", "_law_stays_here", "_law_rooms", "_law_now_here", "_law_who", "_law_room"]) (B:Bl mg) (h_law_shut:Has P w K mg base n "_law_shut" ["_law_stays_here", "_law_rooms", "_law_now_here", "_law_who", "_law_room", "_law_thing"] (spD K iQ)) (h_law_walked:Has P w K mg base n "_law_walked" ["_law_found", "_law_stays_here", "_law_rooms", "_law_who", "_law_room"] (spD K jt)):Has P w K mg base (n + 1) "_law_told" ["_law_found", "_law_plans_here", "_law_stays_here", "_law_rooms", "_law_now_here", "_law_who", "_law_room"] (spD K fG):=by
 have sc:FnScope ["_law_found", "_law_plans_here", "_law_stays_here", "_law_rooms", "_law_now_here", "_law_who", "_law_room", "_law_there"] ["_law_found", "_law_plans_here", "_law_stays_here", "_law_rooms", "_law_now_here", "_law_who", "_law_room"] (bA (top 54)):=fsc
 exact fu (fl:=[.A,.A,.A,.A,.A,.A,.A,.A]) D sc (by decide) (by decide) fun f cdv A outer s H E hr=>aR (sA (i:=7) sc.nd (gJ (dR (GQ rfl) JB (by rfl) B.any_ (show bootBuiltins "any" = some (.builtin "any") by decide +kernel) (dq (bC (iV (L:=[]) (fl':=[.A,.A,.A]) rfl ["_law_plan"] ["_law_room", "_law_who"] [6,5] (eO (vB 1)) (fun _ _ _ _ _=>gN' (i:=0) (show (["_law_plan", "_law_room", "_law_who"]:List Str).Nodup by decide +kernel)) (fun _ _ _ _ _=>lX) (fun _ _ _ _ _=>iy (mR (k_ hr.units) sZ (cg (dx (vB 0) (vP 2))) (vP 1) (cG _))))) dz))))
  (aR (d_ (oX (mC (jF (ji (bC (nC (T := "tuple") (by decide) (vP 0) (by rfl) B.isinstance_ (by rfl) B.tuple_ PyProof.Rows.boot_tuple)))) (mC (cN j_ b_lt (bC (dR bV i_ (by rfl) B.len_ PySem.boot_len (dq (vP 0) dz))) iP (cG _)) (oG (cN (pA hr.units) yU (cg (dx (vB 0) iP)) (cg (dx (dH (gJ (iU (dq (iy (tW)) (dq (iy (tW)) dz))))) (bC (EY (dq (vP 7) dz) (by rfl) B.int_)))) (cG _)))))) (aV (bW (cj (mq)))) (cF))
  (aR (d_ (ji (vP 7)) (aV (bW (uq (bK h_law_walked hr (dq (vP 0) (dq (vP 2) (dq (vP 3) (dq (vP 5) (dq (vP 6) dz))))))))) (cF))
  (aV (bW (uq (mU (bC (mR (k_ hr.units) sZ (bC (dR bV i_ (by rfl) B.len_ PySem.boot_len (dq (vP 0) dz))) iP (cG _))) (qu (bK h_law_shut hr (dq (vP 2) (dq (vP 3) (dq (vP 4) (dq (vP 5) (dq (vP 6) (dq (cg (dx (vB 0) iP)) dz))))))))))))))
theorem U0 {f:Addr} {fd:FuncData} (Fn:FunD K "law" (top 55) f fd) (B:Bl mg) (hmay_have:Has P w K mg base n "may_have" ["stays", "rooms", "now", "who", "room"] (spD K eV)) (h_law_part:Has P w K mg base n "_law_part" ["_law_script", "_law_at", "_law_k", "_law_many"] (spD K bT)) (h_law_now:Has P w K mg base n "_law_now" ["_law_script"] (spD K j8)) (h_law_stays:Has P w K mg base n "_law_stays" ["_law_script", "_law_rooms", "_law_now_here", "_law_most"] (spD K jk)) (h_law_plans:Has P w K mg base n "_law_plans" ["_law_stays_here", "_law_rooms"] (spL K lD)) (h_law_told:Has P w K mg base n "_law_told" ["_law_found", "_law_plans_here", "_law_stays_here", "_law_rooms", "_law_now_here", "_law_who", "_law_room"] (spD K fG)):FnOk P w K mg base CX0 (n + 1) f fd ["_law_script"] (spD K KY):=by
 have sc:FnScope ["_law_script", "_law_rooms", "_law_now_here", "_law_stays_here", "_law_stay_here", "_law_plans_here", "_law_who", "_law_room", "_law_found"] ["_law_script"] (bA (top 55)):=fsc
 exact Jy (fl:=[.A,.A,.A,.O,.A,.A,.A,.A,.N]) Fn sc (by decide) (by decide) fun f cdv A outer s H E hr=>aR (sA (i:=1) sc.nd (gJ (dO gR jz iP (gF (bK h_law_part hr (dq (vP 0) (dq iP (dq iP (dq iP dz)))))))))
  (aR (sA (i:=2) sc.nd (lu (bK h_law_now hr (dq (vP 0) dz))))
  (aR (lU (i:=3) rfl sc.nd rfl (by first | exact Or.inl rfl | exact Or.inr rfl) (qp (iU dz)))
  (aR (iu (L:=[]) PassesOwn.never rfl (eO (dH (lu (bK h_law_stays hr (dq (vP 0) (dq (vP 1) (dq (vP 2) (dq iP dz)))))))) (gN' (i:=4) sc.nd) (aV (d_ (oX (mC (mZ (cg (dx (vB 4) iP))) (oG (cN j_ b_lt (bC (dR bV i_ (by rfl) B.len_ PySem.boot_len (dq (bC (iV (L:=[3]) (fl':=[.A]) rfl ["_law_one"] [] [] (eO (jw 3)) (fun _ _ _ _ _=>gN' (i:=0) (show (["_law_one"]:List Str).Nodup by decide +kernel)) (fun _ _ _ _ _=>lR (qy (cg (dx (vB 0) iP)))) (fun _ _ _ _ _=>iy (ig (vP 0))))) dz))) iP (cG _))))) (aV (oU (i:=3) rfl (vA 4) rfl)) (cF))))
  (aR (XQ.Od (os:=[3]) (ns:=[8]) (i:=5) rfl rfl sc.nd rfl (by first | exact Or.inl rfl | exact Or.inr rfl) (JK h_law_plans hr (dq (n6 (jw 3)) (dq (vP 1) dz))))
  (aR (iu (L:=[]) PassesOwn.never rfl (iz (by rfl) B.range_ (oW (dq (bC (dR bV i_ (by rfl) B.len_ PySem.boot_len (dq (n6 (jw 3)) dz))) dz))) (gN' (i:=6) sc.nd) (aV (iu (L:=[]) PassesOwn.never rfl (iz (by rfl) B.range_ (oW (dq (vP 1) dz))) (gN' (i:=7) sc.nd) (aV (d_ (qy (cg (dx (dH (dx (jw 3) (vP 6))) iP))) (aR (zf (i:=8) rfl sc.nd rfl (by first | exact Or.inl rfl | exact Or.inr rfl) (S5 (bK hmay_have hr (dq (A_ (yX (jw 3) (by rfl) B.list_)) (dq (vP 1) (dq (vP 2) (dq (vP 6) (dq (vP 7) dz))))))))
  (aR (d_ (jF (ji (gF (bK h_law_told hr (dq (zc 8 rfl) (dq (vP 5) (dq (n6 (jw 3)) (dq (vP 1) (dq (vP 2) (dq (vP 6) (dq (vP 7) dz))))))))))) (aV (bW (cj (mq)))) (cF))
  (aR (Nx (i:=8) rfl (bC (Jw iP)) rfl (fun _ _=>rfl))
  (aV (d_ (jF (ji (gF (bK h_law_told hr (dq (gF (bK hmay_have hr (dq (n6 (jw 3)) (dq (vP 1) (dq (vP 2) (dq (vP 6) (dq (vP 7) dz))))))) (dq (vP 5) (dq (n6 (jw 3)) (dq (vP 1) (dq (vP 2) (dq (vP 6) (dq (vP 7) dz))))))))))) (aV (bW (cj (mq)))) (cF)))))) (cF))))))
  (aV (bW (cj (mq)))))))))
end
end K42
namespace D3
theorem len0 {p:List PySem.Value→Prop} (h:p []):∀ us,us.length=0→p us:=fun us hl=>by
 cases us with
 | nil=>exact h
 | cons _ _=>cases hl
theorem b_ {n:Nat} {p:List PySem.Value→Prop} (h:∀ a us,us.length=n→p (a :: us)):∀ us,us.length=n + 1→p us:=fun us hl=>by
 cases us with
 | nil=>cases hl
 | cons a r=>exact h a r (Nat.succ.inj hl)
end D3
namespace K42
open PySem L2 My D3
structure Txt (K:PySem.W.Frag) (mg:Str→Option Value):Prop where
 d_is_whole:Dg K mg "is_whole" (top 7) ["thing"]
 d_all_whole:Dg K mg "all_whole" (top 8) ["things"]
 d_is_tuple_of:Dg K mg "is_tuple_of" (top 9) ["thing", "many"]
 d_is_pair:Dg K mg "is_pair" (top 10) ["thing"]
 d_is_stretch:Dg K mg "is_stretch" (top 13) ["thing"]
 d_nights_of:Dg K mg "nights_of" (top 14) ["stay"]
 d_holds:Dg K mg "holds" (top 15) ["stretch", "night"]
 d_count_at:Dg K mg "count_at" (top 16) ["stretches", "night"]
 d_firsts:Dg K mg "firsts" (top 17) ["stretches"]
 d_fuller:Dg K mg "fuller" (top 18) ["stretches", "many", "since"]
 d_is_stay:Dg K mg "is_stay" (top 20) ["thing", "rooms", "now"]
 d_check_stays:Dg K mg "check_stays" (top 21) ["stays", "rooms", "now"]
 d_check_full:Dg K mg "check_full" (top 22) ["stays", "rooms", "now"]
 d_still_to_come:XL.DgT K mg "still_to_come" (top 23) ["stays"] 187 "still_to_come.<locals>.<lambda>" ⟨70,30,70,59⟩
 d_beginnings:Dg K mg "beginnings" (top 24) ["stays", "rooms", "now"]
 d_first_free:Dg K mg "first_free" (top 25) ["begin", "night"]
 d_filled:Dg K mg "filled" (top 26) ["stays", "plan", "begin"]
 d_check_who:Dg K mg "check_who" (top 28) ["stays", "rooms", "now", "who"]
 d_check_room:Dg K mg "check_room" (top 29) ["rooms", "room"]
 d_is_tight:Dg K mg "is_tight" (top 30) ["stays", "rooms", "night"]
 d_goes_ahead:Dg K mg "goes_ahead" (top 31) ["stays", "who", "place", "night"]
 d_steps_from:Dg K mg "steps_from" (top 32) ["stays", "rooms", "who", "night"]
 d_nights_reached:Dg K mg "nights_reached" (top 33) ["stays", "rooms", "who", "begin"]
 d_chain_to:Dg K mg "chain_to" (top 34) ["reached", "last"]
 d_plan_with:Dg K mg "plan_with" (top 35) ["stays", "rooms", "now", "who", "room", "chain"]
 d_may_have:Dg K mg "may_have" (top 36) ["stays", "rooms", "now", "who", "room"]
 d__law_cell:Dg K mg "_law_cell" (top 38) ["_law_script", "_law_at"]
 d__law_part:Dg K mg "_law_part" (top 39) ["_law_script", "_law_at", "_law_k", "_law_many"]
 d__law_whole:Dg K mg "_law_whole" (top 40) ["_law_found"]
 d__law_stay:Dg K mg "_law_stay" (top 41) ["_law_script", "_law_at", "_law_turn", "_law_mode", "_law_now_here"]
 d__law_guest:Dg K mg "_law_guest" (top 42) ["_law_script", "_law_at", "_law_turn", "_law_now_here", "_law_room"]
 d__law_full:Dg K mg "_law_full" (top 43) ["_law_stays_here", "_law_rooms", "_law_now_here"]
 d__law_now:Dg K mg "_law_now" (top 44) ["_law_script"]
 d__law_stays:Dg K mg "_law_stays" (top 45) ["_law_script", "_law_rooms", "_law_now_here", "_law_most"]
 d__law_right:Dg K mg "_law_right" (top 46) ["_law_plan", "_law_stays_here", "_law_rooms"]
 d__law_begin:Dg K mg "_law_begin" (top 47) ["_law_stays_here", "_law_now_here", "_law_room"]
 d__law_next:Dg K mg "_law_next" (top 48) ["_law_stays_here", "_law_rooms", "_law_who", "_law_night"]
 d__law_rising:Dg K mg "_law_rising" (top 49) ["_law_thing"]
 d__law_shut:Dg K mg "_law_shut" (top 50) ["_law_stays_here", "_law_rooms", "_law_now_here", "_law_who", "_law_room", "_law_thing"]
 d__law_ahead:Dg K mg "_law_ahead" (top 51) ["_law_stays_here", "_law_plan", "_law_who"]
 d__law_walked:Dg K mg "_law_walked" (top 52) ["_law_found", "_law_stays_here", "_law_rooms", "_law_who", "_law_room"]
 d__law_plans:Dg K mg "_law_plans" (top 53) ["_law_stays_here", "_law_rooms"]
 d__law_told:Dg K mg "_law_told" (top 54) ["_law_found", "_law_plans_here", "_law_stays_here", "_law_rooms", "_law_now_here", "_law_who", "_law_room"]
 d_law:Dl K mg "law" "_law_script" (top 55)
 blt:Bl mg
 c_NIGHTS:∃ t,mg "NIGHTS" = some (.int 400 t)
theorem U3 {P:Program} {w:World} {K:PySem.W.Frag} {mg:Str→Option Value} {base:Heap} (T:Txt K mg) {f:Addr} {fd:FuncData} (F:FunD K "law" (top 55) f fd):FnOk P w K mg base CX0 65 f fd ["_law_script"] (Jz K):=by
 have h_is_whole:=Cg (P:=P) (w:=w) (base:=base) (n:=0) T.d_is_whole T.blt
 have h_nights_of:=z6 (P:=P) (w:=w) (base:=base) (n:=0) T.d_nights_of T.blt
 have h_holds:=Mf (P:=P) (w:=w) (base:=base) (n:=0) T.d_holds T.blt
 have h_firsts:=HN (P:=P) (w:=w) (base:=base) (n:=0) T.d_firsts T.blt
 have h_still_to_come:=uh (P:=P) (w:=w) (base:=base) (n:=0) T.d_still_to_come T.blt
 have h_beginnings:=xq (P:=P) (w:=w) (base:=base) (n:=0) T.d_beginnings T.blt
 have h_first_free:=xr (P:=P) (w:=w) (base:=base) (n:=0) T.d_first_free T.blt
 have h_check_room:=xu (P:=P) (w:=w) (base:=base) (n:=0) T.d_check_room T.blt
 have h_goes_ahead:=xG (P:=P) (w:=w) (base:=base) (n:=0) T.d_goes_ahead T.blt
 have h_chain_to:=Ck (P:=P) (w:=w) (base:=base) (n:=0) T.d_chain_to T.blt
 have h__law_cell:=z9 (P:=P) (w:=w) (base:=base) (n:=0) T.d__law_cell T.blt
 have h__law_whole:=xJ (P:=P) (w:=w) (base:=base) (n:=0) T.d__law_whole T.blt
 have h__law_full:=Ab (P:=P) (w:=w) (base:=base) (n:=0) T.d__law_full T.blt
 have h__law_begin:=xP (P:=P) (w:=w) (base:=base) (n:=0) T.d__law_begin T.blt
 have h__law_next:=Ac (P:=P) (w:=w) (base:=base) (n:=0) T.d__law_next T.blt
 have h__law_ahead:=xQ (P:=P) (w:=w) (base:=base) (n:=0) T.d__law_ahead T.blt
 have h_all_whole:=zZ (P:=P) (w:=w) (base:=base) (n:=1) T.d_all_whole T.blt (h_is_whole.mono (by decide))
 have h_count_at:=Ci (P:=P) (w:=w) (base:=base) (n:=1) T.d_count_at T.blt (h_holds.mono (by decide))
 have h_filled:=HW (P:=P) (w:=w) (base:=base) (n:=1) T.d_filled T.blt (h_still_to_come.mono (by decide)) (h_first_free.mono (by decide))
 have h__law_part:=z_ (P:=P) (w:=w) (base:=base) (n:=1) T.d__law_part T.blt (h__law_cell.mono (by decide))
 have h__law_right:=xO (P:=P) (w:=w) (base:=base) (n:=1) T.d__law_right T.blt (h__law_whole.mono (by decide))
 have h__law_rising:=wM (P:=P) (w:=w) (base:=base) (n:=1) T.d__law_rising T.blt (h__law_whole.mono (by decide))
 have h_is_tuple_of:=wK (P:=P) (w:=w) (base:=base) (n:=2) T.d_is_tuple_of T.blt (h_all_whole.mono (by decide))
 have h_fuller:=HS (P:=P) (w:=w) (base:=base) (n:=2) T.d_fuller T.blt (h_count_at.mono (by decide)) (h_firsts.mono (by decide))
 have h_is_tight:=Cj (P:=P) (w:=w) (base:=base) (n:=2) T.d_is_tight T.blt (h_nights_of.mono (by decide)) (h_count_at.mono (by decide))
 have h_plan_with:=z8 (P:=P) (w:=w) (base:=base) (n:=2) T.d_plan_with T.blt (h_beginnings.mono (by decide)) (h_filled.mono (by decide))
 have h__law_stay:=Aa (P:=P) (w:=w) (base:=base) (n:=2) T.d__law_stay T.blt (h__law_part.mono (by decide))
 have h__law_guest:=xK (P:=P) (w:=w) (base:=base) (n:=2) T.d__law_guest T.blt (h__law_part.mono (by decide))
 have h__law_now:=Cp (P:=P) (w:=w) (base:=base) (n:=2) T.d__law_now T.blt (h__law_part.mono (by decide))
 have h__law_shut:=Ad (P:=P) (w:=w) (base:=base) (n:=2) T.d__law_shut T.blt (h__law_begin.mono (by decide)) (h__law_next.mono (by decide)) (h__law_rising.mono (by decide))
 have h__law_walked:=wN (P:=P) (w:=w) (base:=base) (n:=2) T.d__law_walked T.blt (h__law_whole.mono (by decide)) (h__law_right.mono (by decide)) (h__law_ahead.mono (by decide))
 have h__law_plans:=xR (P:=P) (w:=w) (base:=base) (n:=2) T.d__law_plans T.blt (h__law_right.mono (by decide))
 have h_is_pair:=Ek (P:=P) (w:=w) (base:=base) (n:=3) T.d_is_pair T.blt (h_is_tuple_of.mono (by decide))
 have h_check_full:=xg (P:=P) (w:=w) (base:=base) (n:=3) T.d_check_full T.blt (h_nights_of.mono (by decide)) (h_fuller.mono (by decide))
 have h_steps_from:=xH (P:=P) (w:=w) (base:=base) (n:=3) T.d_steps_from T.blt (h_is_tight.mono (by decide)) (h_goes_ahead.mono (by decide))
 have h__law_stays:=xM (P:=P) (w:=w) (base:=base) (n:=3) T.d__law_stays T.blt (h__law_part.mono (by decide)) (h__law_stay.mono (by decide)) (h__law_guest.mono (by decide)) (h__law_full.mono (by decide))
 have h__law_told:=Ae (P:=P) (w:=w) (base:=base) (n:=3) T.d__law_told T.blt (h__law_shut.mono (by decide)) (h__law_walked.mono (by decide))
 have h_is_stretch:=wZ (P:=P) (w:=w) (base:=base) (n:=4) T.d_is_stretch T.blt (h_is_pair.mono (by decide)) T.c_NIGHTS
 have h_nights_reached:=tL (P:=P) (w:=w) (base:=base) (n:=4) T.d_nights_reached T.blt (h_steps_from.mono (by decide))
 have h_is_stay:=El (P:=P) (w:=w) (base:=base) (n:=5) T.d_is_stay T.blt (h_is_whole.mono (by decide)) (h_is_stretch.mono (by decide)) (h_nights_of.mono (by decide)) (h_holds.mono (by decide))
 have h_check_stays:=wL (P:=P) (w:=w) (base:=base) (n:=6) T.d_check_stays T.blt (h_is_stay.mono (by decide))
 have h_check_who:=z7 (P:=P) (w:=w) (base:=base) (n:=7) T.d_check_who T.blt (h_check_stays.mono (by decide)) (h_check_full.mono (by decide))
 have h_may_have:=Cm (P:=P) (w:=w) (base:=base) (n:=8) T.d_may_have T.blt (h_beginnings.mono (by decide)) (h_check_who.mono (by decide)) (h_check_room.mono (by decide)) (h_nights_reached.mono (by decide)) (h_chain_to.mono (by decide)) (h_plan_with.mono (by decide))
 exact ((U0 (P:=P) (w:=w) (base:=base) (n:=9) F T.blt (h_may_have.mono (by decide)) (h__law_part.mono (by decide)) (h__law_now.mono (by decide)) (h__law_stays.mono (by decide)) (h__law_plans.mono (by decide)) (h__law_told.mono (by decide))).mono (by decide)).imp (Nu K42.Ma)
end K42
def PySem.W.Fast.tw13873915075933526671:=0
def PySem.W.Fast.tw13167088724118872993:=0
def PySem.W.Fast.tw17145105365240592489:=0
def PySem.W.Fast.tw5372443440349903990:=0
def PySem.W.Fast.tw10312309352024203638:=0
def PySem.W.Fast.tw17848829222534028097:=0
def PySem.W.Fast.tw2526035820328484130:=0
def PySem.W.Fast.tw13965023509649073640:=0
def PySem.W.Fast.tw11029752281252677768:=0
def PySem.W.Fast.tw8334239660990620471:=0
def PySem.W.Fast.tw6304252398657348917:=0
def PySem.W.Fast.tw1572985394063737003:=0
def PySem.W.Fast.tw3429592813112703656:=0
def PySem.W.Fast.tw1890396722072010159:=0
def PySem.W.Fast.tw3788516277474581784:=0
def PySem.W.Fast.tw9137532747743143533:=0
def PySem.W.Fast.tw16405938511833008477:=0
def PySem.W.Fast.tw15389901128604927802:=0
def PySem.W.Fast.tw2074029418845786570:=0
def PySem.W.Fast.tw6456926380407439241:=0
open PySem PySem.W PyProof.Rows
set_option maxRecDepth 100000 in
set_option maxHeartbeats 0 in
theorem PySem.Challenge.cw_nightbook_k42_or_may_not_holds : PySem.Challenge.rw_nightbook_k42_or_may_not.Holds := by
 w_on;o_law;k_head;(case hw=>w_witness2)
 k_fill
 refine L2.Je (l:=PySem.Challenge.rw_nightbook_k42_or_may_not) (n:=63) (k:=65) (x := "_law_script") (CX:=L2.CX0) (sp:=D3.Jz) rfl (by decide) rfl ⟨rfl,by decide,by decide⟩ (fun w h Y=>PySem.W.km_in_of Y) ?F D3.tabs (fun w h Y=>XL.Ou (c:=189) (PySem.W.km_in_of Y) (PySem.W.km_tabs_of Y _ (aM)) (by kernel_rfl) (by kernel_rfl)) XL.J5 ?S ?C
 case F =>
  intro w mg fa h KX G hmg
  have T:K42.Txt (L2.KOf KX) mg:=by
   dsimp only [L2.KOf]
   have d_is_whole:D3.Dg (L2.KOf KX) mg "is_whole" (K42.top 7) ["thing"]:=by
    dsimp only [L2.KOf]
    refine' D3.fj KX G ?b ?a ?l ?c ?k
    (case a=>k_is);(case l=>k_is);(case c=>k_is);(case k=>k_is)
    (case b=>exact fun _ _ _ _ _ _=>D3.b_ fun _=>D3.len0 rfl)
   have d_all_whole:D3.Dg (L2.KOf KX) mg "all_whole" (K42.top 8) ["things"]:=by
    dsimp only [L2.KOf]
    refine' D3.fj KX G ?b ?a ?l ?c ?k
    (case a=>k_is);(case l=>k_is);(case c=>k_is);(case k=>k_is)
    (case b=>exact fun _ _ _ _ _ _=>D3.b_ fun _=>D3.len0 rfl)
   have d_is_tuple_of:D3.Dg (L2.KOf KX) mg "is_tuple_of" (K42.top 9) ["thing", "many"]:=by
    dsimp only [L2.KOf]
    refine' D3.fj KX G ?b ?a ?l ?c ?k
    (case a=>k_is);(case l=>k_is);(case c=>k_is);(case k=>k_is)
    (case b=>exact fun _ _ _ _ _ _=>D3.b_ fun _=>D3.b_ fun _=>D3.len0 rfl)
   have d_is_pair:D3.Dg (L2.KOf KX) mg "is_pair" (K42.top 10) ["thing"]:=by
    dsimp only [L2.KOf]
    refine' D3.fj KX G ?b ?a ?l ?c ?k
    (case a=>k_is);(case l=>k_is);(case c=>k_is);(case k=>k_is)
    (case b=>exact fun _ _ _ _ _ _=>D3.b_ fun _=>D3.len0 rfl)
   have d_is_stretch:D3.Dg (L2.KOf KX) mg "is_stretch" (K42.top 13) ["thing"]:=by
    dsimp only [L2.KOf]
    refine' D3.fj KX G ?b ?a ?l ?c ?k
    (case a=>k_is);(case l=>k_is);(case c=>k_is);(case k=>k_is)
    (case b=>exact fun _ _ _ _ _ _=>D3.b_ fun _=>D3.len0 rfl)
   have d_nights_of:D3.Dg (L2.KOf KX) mg "nights_of" (K42.top 14) ["stay"]:=by
    dsimp only [L2.KOf]
    refine' D3.fj KX G ?b ?a ?l ?c ?k
    (case a=>k_is);(case l=>k_is);(case c=>k_is);(case k=>k_is)
    (case b=>exact fun _ _ _ _ _ _=>D3.b_ fun _=>D3.len0 rfl)
   have d_holds:D3.Dg (L2.KOf KX) mg "holds" (K42.top 15) ["stretch", "night"]:=by
    dsimp only [L2.KOf]
    refine' D3.fj KX G ?b ?a ?l ?c ?k
    (case a=>k_is);(case l=>k_is);(case c=>k_is);(case k=>k_is)
    (case b=>exact fun _ _ _ _ _ _=>D3.b_ fun _=>D3.b_ fun _=>D3.len0 rfl)
   have d_count_at:D3.Dg (L2.KOf KX) mg "count_at" (K42.top 16) ["stretches", "night"]:=by
    dsimp only [L2.KOf]
    refine' D3.fj KX G ?b ?a ?l ?c ?k
    (case a=>k_is);(case l=>k_is);(case c=>k_is);(case k=>k_is)
    (case b=>exact fun _ _ _ _ _ _=>D3.b_ fun _=>D3.b_ fun _=>D3.len0 rfl)
   have d_firsts:D3.Dg (L2.KOf KX) mg "firsts" (K42.top 17) ["stretches"]:=by
    dsimp only [L2.KOf]
    refine' D3.fj KX G ?b ?a ?l ?c ?k
    (case a=>k_is);(case l=>k_is);(case c=>k_is);(case k=>k_is)
    (case b=>exact fun _ _ _ _ _ _=>D3.b_ fun _=>D3.len0 rfl)
   have d_fuller:D3.Dg (L2.KOf KX) mg "fuller" (K42.top 18) ["stretches", "many", "since"]:=by
    dsimp only [L2.KOf]
    refine' D3.R5 KX G ?b ?a ?l ?c ?k ?t ?s
    (case a=>k_is);(case l=>k_is);(case c=>k_is);(case k=>k_is);(case t=>k_is);(case s=>rfl)
    (case b=>exact fun _ _ _ _ _ _=>D3.b_ fun _=>D3.b_ fun _=>D3.b_ fun _=>D3.len0 ⟨_,rfl,rfl⟩)
   have d_is_stay:D3.Dg (L2.KOf KX) mg "is_stay" (K42.top 20) ["thing", "rooms", "now"]:=by
    dsimp only [L2.KOf]
    refine' D3.fj KX G ?b ?a ?l ?c ?k
    (case a=>k_is);(case l=>k_is);(case c=>k_is);(case k=>k_is)
    (case b=>exact fun _ _ _ _ _ _=>D3.b_ fun _=>D3.b_ fun _=>D3.b_ fun _=>D3.len0 rfl)
   have d_check_stays:D3.Dg (L2.KOf KX) mg "check_stays" (K42.top 21) ["stays", "rooms", "now"]:=by
    dsimp only [L2.KOf]
    refine' D3.fj KX G ?b ?a ?l ?c ?k
    (case a=>k_is);(case l=>k_is);(case c=>k_is);(case k=>k_is)
    (case b=>exact fun _ _ _ _ _ _=>D3.b_ fun _=>D3.b_ fun _=>D3.b_ fun _=>D3.len0 rfl)
   have d_check_full:D3.Dg (L2.KOf KX) mg "check_full" (K42.top 22) ["stays", "rooms", "now"]:=by
    dsimp only [L2.KOf]
    refine' D3.fj KX G ?b ?a ?l ?c ?k
    (case a=>k_is);(case l=>k_is);(case c=>k_is);(case k=>k_is)
    (case b=>exact fun _ _ _ _ _ _=>D3.b_ fun _=>D3.b_ fun _=>D3.b_ fun _=>D3.len0 rfl)
   have d_still_to_come:XL.DgT (L2.KOf KX) mg "still_to_come" (K42.top 23) ["stays"] 187 "still_to_come.<locals>.<lambda>" ⟨70,30,70,59⟩:=by
    dsimp only [L2.KOf]
    refine' XL.Tg KX G ?b ?a ?l ?c ?k ?h ?t
    (case a=>k_is);(case l=>k_is);(case c=>k_is);(case k=>k_is);(case h=>kernel_rfl);(case t=>exact aM)
    (case b=>exact fun _ _ _ _ _ _=>D3.b_ fun _=>D3.len0 rfl)
   have d_beginnings:D3.Dg (L2.KOf KX) mg "beginnings" (K42.top 24) ["stays", "rooms", "now"]:=by
    dsimp only [L2.KOf]
    refine' D3.fj KX G ?b ?a ?l ?c ?k
    (case a=>k_is);(case l=>k_is);(case c=>k_is);(case k=>k_is)
    (case b=>exact fun _ _ _ _ _ _=>D3.b_ fun _=>D3.b_ fun _=>D3.b_ fun _=>D3.len0 rfl)
   have d_first_free:D3.Dg (L2.KOf KX) mg "first_free" (K42.top 25) ["begin", "night"]:=by
    dsimp only [L2.KOf]
    refine' D3.fj KX G ?b ?a ?l ?c ?k
    (case a=>k_is);(case l=>k_is);(case c=>k_is);(case k=>k_is)
    (case b=>exact fun _ _ _ _ _ _=>D3.b_ fun _=>D3.b_ fun _=>D3.len0 rfl)
   have d_filled:D3.Dg (L2.KOf KX) mg "filled" (K42.top 26) ["stays", "plan", "begin"]:=by
    dsimp only [L2.KOf]
    refine' D3.fj KX G ?b ?a ?l ?c ?k
    (case a=>k_is);(case l=>k_is);(case c=>k_is);(case k=>k_is)
    (case b=>exact fun _ _ _ _ _ _=>D3.b_ fun _=>D3.b_ fun _=>D3.b_ fun _=>D3.len0 rfl)
   have d_check_who:D3.Dg (L2.KOf KX) mg "check_who" (K42.top 28) ["stays", "rooms", "now", "who"]:=by
    dsimp only [L2.KOf]
    refine' D3.fj KX G ?b ?a ?l ?c ?k
    (case a=>k_is);(case l=>k_is);(case c=>k_is);(case k=>k_is)
    (case b=>exact fun _ _ _ _ _ _=>D3.b_ fun _=>D3.b_ fun _=>D3.b_ fun _=>D3.b_ fun _=>D3.len0 rfl)
   have d_check_room:D3.Dg (L2.KOf KX) mg "check_room" (K42.top 29) ["rooms", "room"]:=by
    dsimp only [L2.KOf]
    refine' D3.fj KX G ?b ?a ?l ?c ?k
    (case a=>k_is);(case l=>k_is);(case c=>k_is);(case k=>k_is)
    (case b=>exact fun _ _ _ _ _ _=>D3.b_ fun _=>D3.b_ fun _=>D3.len0 rfl)
   have d_is_tight:D3.Dg (L2.KOf KX) mg "is_tight" (K42.top 30) ["stays", "rooms", "night"]:=by
    dsimp only [L2.KOf]
    refine' D3.fj KX G ?b ?a ?l ?c ?k
    (case a=>k_is);(case l=>k_is);(case c=>k_is);(case k=>k_is)
    (case b=>exact fun _ _ _ _ _ _=>D3.b_ fun _=>D3.b_ fun _=>D3.b_ fun _=>D3.len0 rfl)
   have d_goes_ahead:D3.Dg (L2.KOf KX) mg "goes_ahead" (K42.top 31) ["stays", "who", "place", "night"]:=by
    dsimp only [L2.KOf]
    refine' D3.fj KX G ?b ?a ?l ?c ?k
    (case a=>k_is);(case l=>k_is);(case c=>k_is);(case k=>k_is)
    (case b=>exact fun _ _ _ _ _ _=>D3.b_ fun _=>D3.b_ fun _=>D3.b_ fun _=>D3.b_ fun _=>D3.len0 rfl)
   have d_steps_from:D3.Dg (L2.KOf KX) mg "steps_from" (K42.top 32) ["stays", "rooms", "who", "night"]:=by
    dsimp only [L2.KOf]
    refine' D3.fj KX G ?b ?a ?l ?c ?k
    (case a=>k_is);(case l=>k_is);(case c=>k_is);(case k=>k_is)
    (case b=>exact fun _ _ _ _ _ _=>D3.b_ fun _=>D3.b_ fun _=>D3.b_ fun _=>D3.b_ fun _=>D3.len0 rfl)
   have d_nights_reached:D3.Dg (L2.KOf KX) mg "nights_reached" (K42.top 33) ["stays", "rooms", "who", "begin"]:=by
    dsimp only [L2.KOf]
    refine' D3.fj KX G ?b ?a ?l ?c ?k
    (case a=>k_is);(case l=>k_is);(case c=>k_is);(case k=>k_is)
    (case b=>exact fun _ _ _ _ _ _=>D3.b_ fun _=>D3.b_ fun _=>D3.b_ fun _=>D3.b_ fun _=>D3.len0 rfl)
   have d_chain_to:D3.Dg (L2.KOf KX) mg "chain_to" (K42.top 34) ["reached", "last"]:=by
    dsimp only [L2.KOf]
    refine' D3.fj KX G ?b ?a ?l ?c ?k
    (case a=>k_is);(case l=>k_is);(case c=>k_is);(case k=>k_is)
    (case b=>exact fun _ _ _ _ _ _=>D3.b_ fun _=>D3.b_ fun _=>D3.len0 rfl)
   have d_plan_with:D3.Dg (L2.KOf KX) mg "plan_with" (K42.top 35) ["stays", "rooms", "now", "who", "room", "chain"]:=by
    dsimp only [L2.KOf]
    refine' D3.fj KX G ?b ?a ?l ?c ?k
    (case a=>k_is);(case l=>k_is);(case c=>k_is);(case k=>k_is)
    (case b=>exact fun _ _ _ _ _ _=>D3.b_ fun _=>D3.b_ fun _=>D3.b_ fun _=>D3.b_ fun _=>D3.b_ fun _=>D3.b_ fun _=>D3.len0 rfl)
   have d_may_have:D3.Dg (L2.KOf KX) mg "may_have" (K42.top 36) ["stays", "rooms", "now", "who", "room"]:=by
    dsimp only [L2.KOf]
    refine' D3.fj KX G ?b ?a ?l ?c ?k
    (case a=>k_is);(case l=>k_is);(case c=>k_is);(case k=>k_is)
    (case b=>exact fun _ _ _ _ _ _=>D3.b_ fun _=>D3.b_ fun _=>D3.b_ fun _=>D3.b_ fun _=>D3.b_ fun _=>D3.len0 rfl)
   have d__law_cell:D3.Dg (L2.KOf KX) mg "_law_cell" (K42.top 38) ["_law_script", "_law_at"]:=by
    dsimp only [L2.KOf]
    refine' D3.fj KX G ?b ?a ?l ?c ?k
    (case a=>k_is);(case l=>k_is);(case c=>k_is);(case k=>k_is)
    (case b=>exact fun _ _ _ _ _ _=>D3.b_ fun _=>D3.b_ fun _=>D3.len0 rfl)
   have d__law_part:D3.Dg (L2.KOf KX) mg "_law_part" (K42.top 39) ["_law_script", "_law_at", "_law_k", "_law_many"]:=by
    dsimp only [L2.KOf]
    refine' D3.fj KX G ?b ?a ?l ?c ?k
    (case a=>k_is);(case l=>k_is);(case c=>k_is);(case k=>k_is)
    (case b=>exact fun _ _ _ _ _ _=>D3.b_ fun _=>D3.b_ fun _=>D3.b_ fun _=>D3.b_ fun _=>D3.len0 rfl)
   have d__law_whole:D3.Dg (L2.KOf KX) mg "_law_whole" (K42.top 40) ["_law_found"]:=by
    dsimp only [L2.KOf]
    refine' D3.fj KX G ?b ?a ?l ?c ?k
    (case a=>k_is);(case l=>k_is);(case c=>k_is);(case k=>k_is)
    (case b=>exact fun _ _ _ _ _ _=>D3.b_ fun _=>D3.len0 rfl)
   have d__law_stay:D3.Dg (L2.KOf KX) mg "_law_stay" (K42.top 41) ["_law_script", "_law_at", "_law_turn", "_law_mode", "_law_now_here"]:=by
    dsimp only [L2.KOf]
    refine' D3.fj KX G ?b ?a ?l ?c ?k
    (case a=>k_is);(case l=>k_is);(case c=>k_is);(case k=>k_is)
    (case b=>exact fun _ _ _ _ _ _=>D3.b_ fun _=>D3.b_ fun _=>D3.b_ fun _=>D3.b_ fun _=>D3.b_ fun _=>D3.len0 rfl)
   have d__law_guest:D3.Dg (L2.KOf KX) mg "_law_guest" (K42.top 42) ["_law_script", "_law_at", "_law_turn", "_law_now_here", "_law_room"]:=by
    dsimp only [L2.KOf]
    refine' D3.fj KX G ?b ?a ?l ?c ?k
    (case a=>k_is);(case l=>k_is);(case c=>k_is);(case k=>k_is)
    (case b=>exact fun _ _ _ _ _ _=>D3.b_ fun _=>D3.b_ fun _=>D3.b_ fun _=>D3.b_ fun _=>D3.b_ fun _=>D3.len0 rfl)
   have d__law_full:D3.Dg (L2.KOf KX) mg "_law_full" (K42.top 43) ["_law_stays_here", "_law_rooms", "_law_now_here"]:=by
    dsimp only [L2.KOf]
    refine' D3.fj KX G ?b ?a ?l ?c ?k
    (case a=>k_is);(case l=>k_is);(case c=>k_is);(case k=>k_is)
    (case b=>exact fun _ _ _ _ _ _=>D3.b_ fun _=>D3.b_ fun _=>D3.b_ fun _=>D3.len0 rfl)
   have d__law_now:D3.Dg (L2.KOf KX) mg "_law_now" (K42.top 44) ["_law_script"]:=by
    dsimp only [L2.KOf]
    refine' D3.fj KX G ?b ?a ?l ?c ?k
    (case a=>k_is);(case l=>k_is);(case c=>k_is);(case k=>k_is)
    (case b=>exact fun _ _ _ _ _ _=>D3.b_ fun _=>D3.len0 rfl)
   have d__law_stays:D3.Dg (L2.KOf KX) mg "_law_stays" (K42.top 45) ["_law_script", "_law_rooms", "_law_now_here", "_law_most"]:=by
    dsimp only [L2.KOf]
    refine' D3.fj KX G ?b ?a ?l ?c ?k
    (case a=>k_is);(case l=>k_is);(case c=>k_is);(case k=>k_is)
    (case b=>exact fun _ _ _ _ _ _=>D3.b_ fun _=>D3.b_ fun _=>D3.b_ fun _=>D3.b_ fun _=>D3.len0 rfl)
   have d__law_right:D3.Dg (L2.KOf KX) mg "_law_right" (K42.top 46) ["_law_plan", "_law_stays_here", "_law_rooms"]:=by
    dsimp only [L2.KOf]
    refine' D3.fj KX G ?b ?a ?l ?c ?k
    (case a=>k_is);(case l=>k_is);(case c=>k_is);(case k=>k_is)
    (case b=>exact fun _ _ _ _ _ _=>D3.b_ fun _=>D3.b_ fun _=>D3.b_ fun _=>D3.len0 rfl)
   have d__law_begin:D3.Dg (L2.KOf KX) mg "_law_begin" (K42.top 47) ["_law_stays_here", "_law_now_here", "_law_room"]:=by
    dsimp only [L2.KOf]
    refine' D3.fj KX G ?b ?a ?l ?c ?k
    (case a=>k_is);(case l=>k_is);(case c=>k_is);(case k=>k_is)
    (case b=>exact fun _ _ _ _ _ _=>D3.b_ fun _=>D3.b_ fun _=>D3.b_ fun _=>D3.len0 rfl)
   have d__law_next:D3.Dg (L2.KOf KX) mg "_law_next" (K42.top 48) ["_law_stays_here", "_law_rooms", "_law_who", "_law_night"]:=by
    dsimp only [L2.KOf]
    refine' D3.fj KX G ?b ?a ?l ?c ?k
    (case a=>k_is);(case l=>k_is);(case c=>k_is);(case k=>k_is)
    (case b=>exact fun _ _ _ _ _ _=>D3.b_ fun _=>D3.b_ fun _=>D3.b_ fun _=>D3.b_ fun _=>D3.len0 rfl)
   have d__law_rising:D3.Dg (L2.KOf KX) mg "_law_rising" (K42.top 49) ["_law_thing"]:=by
    dsimp only [L2.KOf]
    refine' D3.fj KX G ?b ?a ?l ?c ?k
    (case a=>k_is);(case l=>k_is);(case c=>k_is);(case k=>k_is)
    (case b=>exact fun _ _ _ _ _ _=>D3.b_ fun _=>D3.len0 rfl)
   have d__law_shut:D3.Dg (L2.KOf KX) mg "_law_shut" (K42.top 50) ["_law_stays_here", "_law_rooms", "_law_now_here", "_law_who", "_law_room", "_law_thing"]:=by
    dsimp only [L2.KOf]
    refine' D3.fj KX G ?b ?a ?l ?c ?k
    (case a=>k_is);(case l=>k_is);(case c=>k_is);(case k=>k_is)
    (case b=>exact fun _ _ _ _ _ _=>D3.b_ fun _=>D3.b_ fun _=>D3.b_ fun _=>D3.b_ fun _=>D3.b_ fun _=>D3.b_ fun _=>D3.len0 rfl)
   have d__law_ahead:D3.Dg (L2.KOf KX) mg "_law_ahead" (K42.top 51) ["_law_stays_here", "_law_plan", "_law_who"]:=by
    dsimp only [L2.KOf]
    refine' D3.fj KX G ?b ?a ?l ?c ?k
    (case a=>k_is);(case l=>k_is);(case c=>k_is);(case k=>k_is)
    (case b=>exact fun _ _ _ _ _ _=>D3.b_ fun _=>D3.b_ fun _=>D3.b_ fun _=>D3.len0 rfl)
   have d__law_walked:D3.Dg (L2.KOf KX) mg "_law_walked" (K42.top 52) ["_law_found", "_law_stays_here", "_law_rooms", "_law_who", "_law_room"]:=by
    dsimp only [L2.KOf]
    refine' D3.fj KX G ?b ?a ?l ?c ?k
    (case a=>k_is);(case l=>k_is);(case c=>k_is);(case k=>k_is)
    (case b=>exact fun _ _ _ _ _ _=>D3.b_ fun _=>D3.b_ fun _=>D3.b_ fun _=>D3.b_ fun _=>D3.b_ fun _=>D3.len0 rfl)
   have d__law_plans:D3.Dg (L2.KOf KX) mg "_law_plans" (K42.top 53) ["_law_stays_here", "_law_rooms"]:=by
    dsimp only [L2.KOf]
    refine' D3.fj KX G ?b ?a ?l ?c ?k
    (case a=>k_is);(case l=>k_is);(case c=>k_is);(case k=>k_is)
    (case b=>exact fun _ _ _ _ _ _=>D3.b_ fun _=>D3.b_ fun _=>D3.len0 rfl)
   have d__law_told:D3.Dg (L2.KOf KX) mg "_law_told" (K42.top 54) ["_law_found", "_law_plans_here", "_law_stays_here", "_law_rooms", "_law_now_here", "_law_who", "_law_room"]:=by
    dsimp only [L2.KOf]
    refine' D3.fj KX G ?b ?a ?l ?c ?k
    (case a=>k_is);(case l=>k_is);(case c=>k_is);(case k=>k_is)
    (case b=>exact fun _ _ _ _ _ _=>D3.b_ fun _=>D3.b_ fun _=>D3.b_ fun _=>D3.b_ fun _=>D3.b_ fun _=>D3.b_ fun _=>D3.b_ fun _=>D3.len0 rfl)
   have d_law:D3.Dl (L2.KOf KX) mg "law" "_law_script" (K42.top 55):=by
    dsimp only [L2.KOf]
    refine' D3.VF KX G ?b ?a ?l ?c ?k
    (case a=>k_is);(case l=>k_is);(case c=>k_is);(case k=>k_is)
    (case b=>exact fun _ _ _ _ _ _ u=>rfl)
   have i_:mg "len" = none:=by
    refine' PySem.W.mg_none_of KX G ?z
    (case z=>k_is)
   have b_range:mg "range" = none:=by
    refine' PySem.W.mg_none_of KX G ?z
    (case z=>k_is)
   have b_abs:mg "abs" = none:=by
    refine' PySem.W.mg_none_of KX G ?z
    (case z=>k_is)
   have b_isinstance:mg "isinstance" = none:=by
    refine' PySem.W.mg_none_of KX G ?z
    (case z=>k_is)
   have b_int:mg "int" = none:=by
    refine' PySem.W.mg_none_of KX G ?z
    (case z=>k_is)
   have b_bool:mg "bool" = none:=by
    refine' PySem.W.mg_none_of KX G ?z
    (case z=>k_is)
   have b_tuple:mg "tuple" = none:=by
    refine' PySem.W.mg_none_of KX G ?z
    (case z=>k_is)
   have b_list:mg "list" = none:=by
    refine' PySem.W.mg_none_of KX G ?z
    (case z=>k_is)
   have b_str:mg "str" = none:=by
    refine' PySem.W.mg_none_of KX G ?z
    (case z=>k_is)
   have b_max:mg "max" = none:=by
    refine' PySem.W.mg_none_of KX G ?z
    (case z=>k_is)
   have b_min:mg "min" = none:=by
    refine' PySem.W.mg_none_of KX G ?z
    (case z=>k_is)
   have b_sorted:mg "sorted" = none:=by
    refine' PySem.W.mg_none_of KX G ?z
    (case z=>k_is)
   have QK:mg "sum" = none:=by
    refine' PySem.W.mg_none_of KX G ?z
    (case z=>k_is)
   have b_reversed:mg "reversed" = none:=by
    refine' PySem.W.mg_none_of KX G ?z
    (case z=>k_is)
   have b_enumerate:mg "enumerate" = none:=by
    refine' PySem.W.mg_none_of KX G ?z
    (case z=>k_is)
   have b_zip:mg "zip" = none:=by
    refine' PySem.W.mg_none_of KX G ?z
    (case z=>k_is)
   have b_set:mg "set" = none:=by
    refine' PySem.W.mg_none_of KX G ?z
    (case z=>k_is)
   have JB:mg "any" = none:=by
    refine' PySem.W.mg_none_of KX G ?z
    (case z=>k_is)
   have yr:mg "all" = none:=by
    refine' PySem.W.mg_none_of KX G ?z
    (case z=>k_is)
   have b_dict:mg "dict" = none:=by
    refine' PySem.W.mg_none_of KX G ?z
    (case z=>k_is)
   have c_NIGHTS:∃ t,mg "NIGHTS" = some (.int 400 t):=by
    refine' ⟨?t_NIGHTS,PySem.W.mg_of KX G ?z⟩
    (case z=>rfl)
   exact ⟨d_is_whole,d_all_whole,d_is_tuple_of,d_is_pair,d_is_stretch,d_nights_of,d_holds,d_count_at,d_firsts,d_fuller,d_is_stay,d_check_stays,d_check_full,d_still_to_come,d_beginnings,d_first_free,d_filled,d_check_who,d_check_room,d_is_tight,d_goes_ahead,d_steps_from,d_nights_reached,d_chain_to,d_plan_with,d_may_have,d__law_cell,d__law_part,d__law_whole,d__law_stay,d__law_guest,d__law_full,d__law_now,d__law_stays,d__law_right,d__law_begin,d__law_next,d__law_rising,d__law_shut,d__law_ahead,d__law_walked,d__law_plans,d__law_told,d_law,⟨i_,b_range,b_abs,b_isinstance,b_int,b_bool,b_tuple,b_list,b_str,b_max,b_min,b_sorted,QK,b_reversed,b_enumerate,b_zip,b_set,JB,yr,b_dict⟩,c_NIGHTS⟩
  obtain ⟨f,fd,F,b,m⟩:=T.d_law.ex
  have e0:=hmg.symm.trans m
  cases e0
  exact ⟨fd,b,fun base kb nb=>K42.U3 T F⟩
 case S=>exact fun K H a ns hl hO hS=>⟨a,ns,hO,rfl,hS,hl,fun _=>rfl⟩
 case C=>exact fun _ _ _ _ z=>z
