import PyProof.Rows.All
import Wide.All
import OpenK.AllK
import Wide.FinOn
import Lean
import PyProof.EqAt
import PyProof.EqKinds
import PyProof.TupleCall
import PyProof.EqLayable
import KE.KDictSum
import KE.KDictList
import PyProof.Rows.SetFrom
import PyProof.DictIter
import PyProof.FactsAll.set
import PyProof.DictKinds
import PyProof.DictStraight
import PyProof.SetKind
import KE.KDictSum
import PyProof.Rows.SortWalk
import PyProof.NeKinds
import PyProof.DictWalks
import Wide.Seal
import PySem.Challenge.RW_nightbook_k43_shut_or_not
set_option Elab.async false
set_option linter.all false
set_option maxRecDepth 100000
set_option maxHeartbeats 4000000
set_option exponentiation.threshold 40000
open List renaming length_map→aH,mem_cons_of_mem→aL,pairwise_append→aM,getElem?_eq_getElem→aN,mem_cons_self→aP,mem_cons→aR,mem_singleton→aV,append_assoc→aW,range→aX,getElem?_map→bf,size_toArray→bx,length_append→bB,replicate→bD,getElem?_set_ne→bF,length_cons→bK,mem_append_right→bL,map_cons→bM,mem_range→bO,getD_eq_getElem?_getD→bQ,mem_map→bT,mem_append→bW,length_replicate→b_,length_range→cC,getElem?_eq_none→cF,getElem_of_mem→cH,length_drop→cL,getElem?_append_right→cN,pairwise_cons→cO,getElem?_append_left→cQ,append_nil→cR,length_set→cT,mem_append_left→cV,mem_of_getElem?→cW,take_of_length_le→cY,replicate_succ→dh,map_append→dj,pairwise_iff_getElem→dB,getElem?_set_self→dD,nodup_cons→dF,lookup_cons→dI,filterMap_cons→dM,length_filter_le→dN,eraseIdx_eq_take_drop_succ→dW,getElem_mem→dZ,not_mem_nil→d7,getElem?_range→d_,take_append_drop→eG,drop_zero→eO,mem_filterMap→fj,length_take→fB,all_eq_true→fD,mem_filter→fP,getElem?_eq_some_iff→fU,perm_append_comm→fW,getElem?_replicate→gM,flatten_cons→gO,pairwise_singleton→gP,find?_cons→gQ,drop_eq_nil_of_le→g_,map_map→h_,nil_append→jq,length_nil→jt,ext_getElem?→jC,getElem_drop→jD,mem_of_mem_drop→jG,take_zero→jH,perm_append_singleton→jK,perm_middle→jL,drop_eq_getElem_cons→jP,getElem?_drop→jX,filter_cons_of_pos→j9,filter_cons_of_neg→j_,reverse_cons→kI,any_cons→lU,getElem?_mapIdx→mj,mem_of_mem_take→mC,find?_eq_none→m6,drop_drop→m7,perm_ext_iff_of_nodup→nj,mem_of_find?_eq_some→nJ,extract_eq_take_drop→nM,pairwise_map→nP,getElem?_take_of_lt→n_,map_drop→ou,nodup_range→oN,length_eq_zero_iff→oO,map_nil→o7,drop_of_length_le→o9,of_mem_zip→pI,foldl_cons→pJ,length_zip→pN,length_singleton→pP,length→pQ,getElem?_of_mem→pU,nodup_nil→pW,length_eraseIdx→p7,length_reverse→rO,map_congr_left→rP,map_take→rT,take_sublist→sW,getElem?_set→sX,getElem_take→sZ,take_add_one→tu,map_id'→tH,foldl→vq
open Nat renaming reduceLeDiff→ao,reduceEqDiff→aq,reduceAdd→au,reduceLT→aA,le_refl→aQ,ne_of_lt→bN,le_trans→bV,lt_of_lt_of_le→bY,zero_add→d8,le_of_lt→eY,zero_le→fu,lt_or_ge→gZ,lt_of_succ_lt→iG,lt_irrefl→iU,lt_of_le_of_lt→jh,not_lt_zero→jr,lt_succ_self→lF,lt_trans→mQ,add_zero→mR,eq_zero_or_pos→m9,mod_lt→m_,lt_succ_of_lt→nO,add_sub_cancel_left→oM,sub_zero→o8,le_succ→pR,add_assoc→rR,lt_or_eq_of_le→su,le_of_eq→sV
open Int renaming reduceEq→aB,reduceLT→aC,reduceLE→aD,le_refl→cX,toNat_natCast→dO,le_trans→gY,emod_lt_of_pos→iy,emod_nonneg→ju,le_of_lt→mU,le_antisymm→pK,sub_zero→sY
open Option renaming bind_some→aK,some→fO,map_some→iD,isSome_iff_exists→jQ,isSome_map→tG
open Bool renaming and_eq_true→aO,false_ne_true→aU,not_true→bJ,not_false→bR,false_and→iw,not_eq_true'→iH,true_and→jz,not_eq_false'→m8,eq_iff_iff→pL,and_self→rQ,false_eq_true→sy
open Array renaming length_toList→aJ,getElem?_eq_getElem→bU,toList_append→cg,getElem?_toList→cD,getElem?_eq_none→fJ,perm_iff_toList_perm→jJ,size_setIfInBounds→jR,getD→jY,toList_push→kJ,toList_reverse→mq,getElem?_setIfInBounds→mJ,getElem?_replicate→oh,toList_extract→pX,size_map→pY,getElem_of_mem→pZ,getElem_mem→tE
theorem dTr {p:Prop} [Decidable p] (h:p):decide p=true:=decide_eq_true h
theorem dFa {p:Prop} [Decidable p] (h:¬ p):decide p=false:=decide_eq_false h
theorem lMp {α β:Type} {f:α→β} {l:List α}:(l.map f).length=l.length:=aH f

namespace L2
open PySem PySem.Spec PyProof.Rows
noncomputable abbrev Key:=Sum Int Str
noncomputable def oR:Key→Value→Bool
 | .inl k,v=>Value.isInt k v
 | .inr x,v=>Value.isStrOf x v
noncomputable def Uj (w:World):Key→Int
 | .inl k=>hashInt k
 | .inr x=>hashStr w x
theorem eF:∀ {k:Key} {v:Value},oR k v=true→(∃ i t,k=Sum.inl i∧v=Value.int i t)∨(∃ x t,k=Sum.inr x∧v=Value.str x t)
 | .inl i,v,h=>by
  obtain ⟨t,e⟩:=Value.isInt_shape (k:=i) (v:=v) h
  exact .inl ⟨i,t,rfl,e⟩
 | .inr x,v,h=>by
  obtain ⟨t,e⟩:=Value.isStrOf_shape (x:=x) (v:=v) h
  exact .inr ⟨x,t,rfl,e⟩
theorem Gp (i:Int) (t:Tok):oR (.inl i) (.int i t)=true:=by simp [oR,Value.isInt]
theorem Gq (x:Str) (t:Tok):oR (.inr x) (.str x t)=true:=by simp [oR,Value.isStrOf]
theorem Qh (a b:Int):decide ((Sum.inl a:Key)=Sum.inl b)=(a == b):=by
 by_cases e:a=b
 ·subst e;simp
 ·have h:¬ (Sum.inl a:Key)=Sum.inl b:=fun q=>e (Sum.inl.inj q)
  rw [dFa h]
  exact (beq_eq_false_iff_ne.mpr e).symm
theorem Qi (a b:Str):decide ((Sum.inr a:Key)=Sum.inr b)=decide (a=b):=by
 by_cases e:a=b
 ·subst e;simp
 ·have h:¬ (Sum.inr a:Key)=Sum.inr b:=fun q=>e (Sum.inr.inj q)
  rw [dFa h,dFa e]
theorem Qj (a:Int) (b:Str):decide ((Sum.inl a:Key)=Sum.inr b)=false:=dFa (fun q=>nomatch q)
theorem Qk (a:Str) (b:Int):decide ((Sum.inr a:Key)=Sum.inl b)=false:=dFa (fun q=>nomatch q)
noncomputable def dH (prog:Program) (w:World):PySem.KeyKind prog w Key where
 is:=oR
 hash:=Uj w
 inj:=fun v a b ha hb=>by
  rcases eF ha with ⟨i,t,rfl,rfl⟩ | ⟨x,t,rfl,rfl⟩
  ·rcases eF hb with ⟨j,u,rfl,e⟩ | ⟨y,u,rfl,e⟩
   ·injection e with e1 _;rw [e1]
   ·exact nomatch e
  ·rcases eF hb with ⟨j,u,rfl,e⟩ | ⟨y,u,rfl,e⟩
   ·exact nomatch e
   ·injection e with e1 _;rw [e1]
 byValue:=fun k v h=>by
  rcases eF h with ⟨i,t,rfl,rfl⟩ | ⟨x,t,rfl,rfl⟩ <;> rfl
 pyHash:=fun hv h=>by
  rcases eF hv with ⟨i,t,rfl,rfl⟩ | ⟨x,t,rfl,rfl⟩
  ·exact wpAny_pyHash_int h
  ·exact wpAny_pyHash_str h
 eqBool:=fun hu hv h=>by
  rcases eF hu with ⟨i,t,rfl,rfl⟩ | ⟨x,t,rfl,rfl⟩
  ·rcases eF hv with ⟨j,u,rfl,rfl⟩ | ⟨y,u,rfl,rfl⟩
   ·rw [Qh] at h;exact wpAny_eqBool_int h
   ·rw [Qj] at h;exact SeqAt.EqAt.int_str i t y u _ _ _ _ h
  ·rcases eF hv with ⟨j,u,rfl,rfl⟩ | ⟨y,u,rfl,rfl⟩
   ·rw [Qk] at h;exact SeqAt.EqAt.str_int x t j u _ _ _ _ h
   ·rw [Qi] at h;exact wpAny_eqBool_str h
 «strs»:=fun k x t v h=>by
  rcases eF h with ⟨i,u,rfl,e⟩ | ⟨y,u,rfl,e⟩
  ·exact nomatch e
  ·injection e with e1 _
   subst e1
   cases v <;> rfl
theorem Ca (prog:Program) (w:World) (k:Key) (v:Value):(dH prog w).is k v=oR k v:=rfl
theorem Ac (prog:Program) (w:World) (i:Int) (t:Tok):(dH prog w).is (.inl i) (.int i t)=true:=Gp i t
theorem Ad (prog:Program) (w:World) (x:Str) (t:Tok):(dH prog w).is (.inr x) (.str x t)=true:=Gq x t
end L2
namespace L2
open PySem PySem.Spec PyProof.Rows
inductive V where
 | non | bl (b:Bool) | int (i:Int) | str (x:Str) | byt (b:Array UInt8) | flt (b:UInt64) | ref (a:Addr) | ty (n:String)
 deriving DecidableEq
noncomputable def RelV:V→Value→Prop
 | .non,u=>u=Value.none
 | .bl b,u=>u=Value.bool b
 | .int i,u=>∃ t,u=Value.int i t
 | .str x,u=>∃ t,u=Value.str x t
 | .byt b,u=>∃ t,u=Value.bytes b t
 | .flt b,u=>∃ t,u=Value.float b t
 | .ref a,u=>u=Value.ref a
 | .ty n,u=>u=Value.type n
noncomputable abbrev Vals:List V→List Value→Prop:=Paired RelV
theorem Vals.length {xs:List V} {us:List Value} (r:Vals xs us):xs.length=us.length:=Paired.length r
theorem Vals.get:∀ {xs:List V} {us:List Value} {i:Nat} {x:V},Vals xs us→xs[i]? = some x→∃ u,us[i]? = some u∧RelV x u
 | _,_,_,_,.nil,e=>by simp at e
 | _,_,0,_,.cons r _,e=>by simp at e;subst e;exact ⟨_,rfl,r⟩
 | _,_,i + 1,x,.cons _ t,e=>by
  obtain ⟨u,h1,h2⟩:=Vals.get (i:=i) (x:=x) t (by simpa using e)
  exact ⟨u,by simpa using h1,h2⟩
theorem Vals.set {x:V} {u:Value} (r:RelV x u):∀ {xs:List V} {us:List Value} (i:Nat),Vals xs us→Vals (xs.set i x) (us.set i u)
 | _,_,_,.nil=>.nil
 | _,_,0,.cons _ t=>.cons r t
 | _,_,i + 1,.cons q t=>.cons q (Vals.set r i t)
theorem Vals.append:∀ {xs ys:List V} {us ws:List Value},Vals xs us→Vals ys ws→Vals (xs++ys) (us++ws)
 | _,_,_,_,.nil,s=>s
 | _,_,_,_,.cons r t,s=>.cons r (Vals.append t s)
theorem Vals.take:∀ {xs:List V} {us:List Value} (n:Nat),Vals xs us→Vals (xs.take n) (us.take n)
 | _,_,0,_=>.nil
 | _,_,_ + 1,.nil=>.nil
 | _,_,n + 1,.cons r t=>.cons r (Vals.take n t)
theorem Vals.drop:∀ {xs:List V} {us:List Value} (n:Nat),Vals xs us→Vals (xs.drop n) (us.drop n)
 | _,_,0,r=>r
 | _,_,_ + 1,.nil=>.nil
 | _,_,n + 1,.cons _ t=>Vals.drop n t
noncomputable def yF:Option V→Option Value→Prop
 | some v,some u=>RelV v u
 | none,none=>True
 | _,_=>False
noncomputable def KV {κ:Type}:List (κ × V)→List (κ × Value)→Prop:=Paired fun (p:κ × V) (q:κ × Value)=>p.1=q.1∧RelV p.2 q.2
noncomputable def kV:Key→V
 | .inl i=>.int i
 | .inr x=>.str x
inductive HO where
 /-- a list -/
 | lst (xs:List V)
 /-- a tuple (never changes) -/
 | tup (xs:List V)
 /-- a dict whose keys are ints and texts;one whose keys are tuples of ints and texts (the empty one is both) -/
 | dK (kvs:List (Key × V)) | dT (kvs:List (List Key × V))
 /-- a set of ints: its members,its size -/
 | set (S:Int→Bool) (n:Nat)
 /-- an instance of the class at C,its dict at dx,its attributes -/
 | ins (C dx:Addr) (fs:List (Str × V))
 /-- the dict of the instance at x -/
 | own (x:Addr)
 /-- the dict of an exception -/
 | xd (fs:List (Str × V))
 /-- a bound method,f of x -/
 | met (f x:Addr)
 /-- a range object lo,lo + 1,.. below hi -/
 | rng (lo hi:Int)
 /-- a thing that is known to the object (the script;a dict while a loop walks it): read,never written while it is so -/
 | frz (o:Obj) (u:HO)
 /-- a code object's table -/
 | tbl (q:Str) (p:Pos)
 /-- any other thing,by what is true of its one object (a def of one's own: SetO a S n:=HO.ext fun h=>..) -/
 | ext (φ:Heap→Prop)
noncomputable abbrev Hp:=Addr→Option HO
noncomputable def upd (H:Hp) (a:Addr) (o:HO):Hp:=fun b=>if b=a then some o else H b
theorem fG {H:Hp} {a:Addr} {o:HO}:upd H a o a=some o:=by unfold upd;rw [if_pos rfl]
theorem dU {H:Hp} {a b:Addr} {o:HO} (h:b ≠ a):upd H a o b=H b:=by unfold upd;rw [if_neg h]
theorem DR {H:Hp} {a b:Addr} {o u:HO} (h:H a=some o) (h':H b=some u) (d:o ≠ u):a ≠ b:=by
 intro e;subst e;rw [h] at h';exact d (fO.inj h')
theorem lG {H:Hp} {a b:Addr} {o:HO} (h:H a=some o) (h':H b=none):a ≠ b:=by
 intro e;subst e;rw [h] at h';cases h'
section
variable (P:Program) (w:World)
noncomputable def iI (H:Hp) (h:Heap) (a:Addr):HO→Prop
 | .lst xs=>xs.length ≤ sizeLine∧∃ (its:List Value) (n:Nat),Vals xs its∧h.get? a=some { cls:=.type "list", data:=.seq its.toArray n }
 | .tup xs=>xs.length ≤ sizeLine∧∃ its:List Value,Vals xs its∧IsTup h a its.toArray
 | .dK kvs=>kvs.length ≤ sizeLine∧(a == sysModules)=false∧∃ vs,KV kvs vs∧h.DictOf (dH P w) a vs
 | .dT kvs=>kvs.length ≤ sizeLine∧(a == sysModules)=false∧∃ xs:List (List Key × Addr × Value),
  Paired (fun (p:List Key × V) (q:List Key × Addr × Value)=>p.1=q.1∧H q.2.1=some (.tup (p.1.map kV))∧RelV p.2 q.2.2) kvs xs ∧
  ∃ o es ep,h.get? a=some o∧o.ExactDict∧o.data = .dict es ep∧es.toList=xs.map (entryOfKey (tupleKind (dH P w)))∧(xs.map (·.1)).Nodup
 | .set S n=>h.SetOf (intKind P w) a S n
 | .ins C dx fs=>H dx=some (.own a)∧fs.length ≤ 1000∧dx ≠ a∧h.get? a=some (PySem.W.instObj C dx) ∧
  ∃ mA,h.Ns1 dx mA∧(∀ f,yF (fs.lookup f) (mA f))∧PySem.Within mA (fs.map (·.1))
 | .own _=>∃ o,h.get? a=some o
 | .xd fs=>∃ mA,h.Ns1 a mA∧∀ f,yF (fs.lookup f) (mA f)
 | .rng lo hi=>∃ t u v,h.get? a=some { cls:=.type "range", data:=.fields #[.int lo t,.int hi u,.int 1 v] }
 | .frz o u=>h.get? a=some o∧iI H h a u
 | .tbl q p=>∃ ps,h.get? a=some { cls:=.none,data:=.fields ps }∧(ps = #[]∨∃ c',ps = #[rawInt p.line,rawInt p.col,.ref c']∧H c'=some (.own a)∧h.CodeRec (.ref c') q)
 | .met f x=>h.get? a=some (PySem.W.methodObj (.ref f) (.ref x))
 | .ext φ=>φ h∧(∃ o,h.get? a=some o)∧∀ h1 h2:Heap,φ h1→(∀ o,h1.get? a=some o→h2.get? a=some o)→φ h2
noncomputable def HOk (H:Hp) (h:Heap):Prop:=∀ a o,H a=some o→iI P w H h a o
end
section
variable {P:Program} {w:World} {H H':Hp} {h h':Heap} {a:Addr} {o:HO}
theorem iI.lt (x:iI P w H h a o):a < h.objs.size:=by
 cases o with
 | lst xs=>obtain ⟨_,_,_,_,e⟩:=x;exact Heap.lt_size e
 | tup xs=>obtain ⟨_,_,_,p⟩:=x;exact p.lt
 | dK kvs=>obtain ⟨_,_,_,_,o,_,_,e,_⟩:=x;exact Heap.lt_size e
 | dT kvs=>obtain ⟨_,_,_,_,o,_,_,e,_⟩:=x;exact Heap.lt_size e
 | set S n=>obtain ⟨o,_,_,_,e,_⟩:=x;exact Heap.lt_size e
 | ins C dx fs=>obtain ⟨_,_,_,e,_⟩:=x;exact Heap.lt_size e
 | own y=>obtain ⟨_,e⟩:=x;exact Heap.lt_size e
 | xd fs=>obtain ⟨_,⟨_,_,_,e,_⟩,_⟩:=x;exact Heap.lt_size e
 | rng lo hi=>obtain ⟨_,_,_,e⟩:=x;exact Heap.lt_size e
 | frz ob u=>obtain ⟨e,_⟩:=x;exact Heap.lt_size e
 | tbl q p=>obtain ⟨_,e,_⟩:=x;exact Heap.lt_size e
 | met f y=>exact Heap.lt_size (show h.get? a=some _ from x)
 | ext φ=>obtain ⟨_,⟨_,e⟩,_⟩:=x;exact Heap.lt_size e
theorem Paired.mapP {α β:Type} {F G:α→β→Prop}:∀ {l₁:List α} {l₂:List β},Paired F l₁ l₂→(∀ a b,F a b→G a b)→Paired G l₁ l₂
 | _,_,.nil,_=>.nil
 | _,_,.cons r t,f=>.cons (f _ _ r) (Paired.mapP t f)
theorem iI.stay (x:iI P w H h a o) (k:∀ b u,(b=a∨H b=some (.own a))→h.get? b=some u→h'.get? b=some u)
 (ho:∀ b,H b=some (.own a)→H' b=some (.own a)) (ht:∀ b xs,H b=some (.tup xs)→H' b=some (.tup xs)):iI P w H' h' a o:=by
 induction o with
 | lst xs=>obtain ⟨z,its,n,r,e⟩:=x;exact ⟨z,its,n,r,k _ _ (.inl rfl) e⟩
 | tup xs=>obtain ⟨z,its,r,ob,e,c⟩:=x;exact ⟨z,its,r,ob,k _ _ (.inl rfl) e,c⟩
 | dK kvs=>obtain ⟨z,y,vs,r,ob,es,ep,e,c⟩:=x;exact ⟨z,y,vs,r,ob,es,ep,k _ _ (.inl rfl) e,c⟩
 | dT kvs =>
  obtain ⟨z,y,xs,r,ob,es,ep,e,c⟩:=x
  exact ⟨z,y,xs,Paired.mapP r fun p q z=>⟨z.1,ht _ _ z.2.1,z.2.2⟩,ob,es,ep,k _ _ (.inl rfl) e,c⟩
 | set S n=>obtain ⟨ob,es,ep,t,e,c⟩:=x;exact ⟨ob,es,ep,t,k _ _ (.inl rfl) e,c⟩
 | ins C dx fs =>
  obtain ⟨d,z,ne,e,mA,⟨od,es,ep,e2,c⟩,r⟩:=x
  exact ⟨ho _ d,z,ne,k _ _ (.inl rfl) e,mA,⟨od,es,ep,k _ _ (.inr d) e2,c⟩,r⟩
 | own y=>obtain ⟨ob,e⟩:=x;exact ⟨ob,k _ _ (.inl rfl) e⟩
 | xd fs=>obtain ⟨mA,⟨od,es,ep,e,c⟩,r⟩:=x;exact ⟨mA,⟨od,es,ep,k _ _ (.inl rfl) e,c⟩,r⟩
 | rng lo hi=>obtain ⟨t,u,v,e⟩:=x;exact ⟨t,u,v,k _ _ (.inl rfl) e⟩
 | frz ob u ih=>obtain ⟨e,q⟩:=x;exact ⟨k _ _ (.inl rfl) e,ih q⟩
 | tbl q p =>
  obtain ⟨ps,e,z⟩:=x
  refine ⟨ps,k a _ (.inl rfl) e,?_⟩
  rcases z with z | ⟨c',z1,z2,z3⟩
  ·exact .inl z
  ·obtain ⟨c,oc,vs,tq,hc,hoc,hdc,hq⟩:=z3
   have hc':c'=c:=by injection hc
   exact .inr ⟨c',z1,ho _ z2,c,oc,vs,tq,hc,k _ _ (.inr (hc' ▸ z2)) hoc,hdc,hq⟩
 | met f y =>
  have e:h.get? a=some (PySem.W.methodObj (.ref f) (.ref y)):=x
  show h'.get? a=some (PySem.W.methodObj (.ref f) (.ref y))
  exact k a _ (.inl rfl) e
 | ext φ=>obtain ⟨p,⟨o,e⟩,st⟩:=x;exact ⟨st _ _ p fun o q=>k _ _ (.inl rfl) q,⟨o,k _ _ (.inl rfl) e⟩,st⟩
theorem HOk.lt (x:HOk P w H h) (e:H a=some o):a < h.objs.size:=(x a o e).lt
theorem HOk.fresh (x:HOk P w H h) (e:h.objs.size ≤ a):H a=none:=by
 cases q:H a with
 | none=>rfl
 | some u=>exact absurd (bY (x.lt q) e) (iU _)
theorem HOk.kept (x:HOk P w H h) (k:∀ b u,h.get? b=some u→h'.get? b=some u):HOk P w H h':=fun a o e =>
 (x a o e).stay (fun b u _ q=>k b u q) (fun _ q=>q) fun _ _ q=>q
theorem HOk.laid (x:HOk P w H h) (k:∀ b u,h.get? b=some u→h'.get? b=some u) (hp:h.objs.size ≤ a) (new:iI P w (upd H a o) h' a o):HOk P w (upd H a o) h':=fun b u e=>by
 have hn:=x.fresh hp
 by_cases hb:b=a
 ·subst hb;rw [fG] at e;cases e;exact new
 ·rw [dU hb] at e
  exact (x b u e).stay (fun c v _ q=>k c v q) (fun c q=>by rw [dU (lG q hn)];exact q) fun c xs q=>by rw [dU (lG q hn)];exact q
end
noncomputable def Rd (H:Hp) (a:Addr) (u:HO):Prop:=H a=some u∨∃ o,H a=some (.frz o u)
theorem Rd.ok {P:Program} {w:World} {H:Hp} {h:Heap} {a:Addr} {u:HO} (r:Rd H a u) (x:HOk P w H h):iI P w H h a u:=by
 rcases r with r | ⟨o,r⟩
 ·exact x a u r
 ·obtain ⟨_,q⟩:=x a _ r
  exact q
noncomputable def Mut:Option HO→Prop
 | some (.lst _)=>True
 | some (.dK _)=>True
 | some (.dT _)=>True
 | some (.set _ _)=>True
 | some (.ins _ _ _)=>True
 | some (.ext _)=>True
 | _=>False
section
variable {P:Program} {w:World} {H:Hp} {h h':Heap} {x e:Addr} {o':HO}
theorem HOk.write (ok:HOk P w H h) (mu:Mut (H x)) (he:e=x∨H e=some (.own x)) (k:∀ b u,b ≠ e→h.get? b=some u→h'.get? b=some u) (heo:∃ u,h'.get? e=some u)
 (new:iI P w (upd H x o') h' x o'):HOk P w (upd H x o') h':=fun b u q=>by
 have nown:∀ c y,H c=some (.own y)→c ≠ x:=fun c y r z=>by subst z;rw [r] at mu;exact mu
 have ntup:∀ c xs,H c=some (.tup xs)→c ≠ x:=fun c xs r z=>by subst z;rw [r] at mu;exact mu
 by_cases hb:b=x
 ·subst hb;rw [fG] at q;cases q;exact new
 ·rw [dU hb] at q
  by_cases hbe:b=e
  ·have q':H b=some (.own x):=by
    rcases he with z | z
    ·exact absurd (hbe.trans z) hb
    ·rw [hbe];exact z
   rw [q] at q';cases q'
   obtain ⟨v,hv⟩:=heo
   exact ⟨v,by rw [hbe];exact hv⟩
  ·refine (ok b u q).stay (fun c v hc r=>k c v ?_ r) (fun c r=>by rw [dU (nown c b r)];exact r) fun c xs r=>by rw [dU (ntup c xs r)];exact r
   rcases hc with rfl | hc
   ·exact hbe
   ·rintro rfl
    rcases he with z | z
    ·exact nown c b hc z
    ·rw [hc] at z;cases z;exact hb rfl
end
structure Un (fs ex:List Addr) (H H':Hp) (h h':Heap):Prop where
 keep:∀ b o,h.get? b=some o→H b=none→b ∉ fs→b ∉ ex→h'.get? b=some o
 slot:∀ b o,h.get? b=some o→H b=none→b ∈ fs→b ∉ ex→∃ sl,h'.get? b=some { o with slots:=sl }
 free:∀ b o,h.get? b=some o→H b=none→b ∉ ex→H' b=none
 there:∀ b o,h.get? b=some o→b ∉ ex→∃ o',h'.get? b=some o'
 tups:∀ b xs,H b=some (.tup xs)→H' b=some (.tup xs)
 frzs:∀ b o u,H b=some (.frz o u)→H' b=some (.frz o u)
 tbls:∀ b q p,H b=some (.tbl q p)→H' b=some (.tbl q p)
section
variable {fs fs' ex ex':List Addr} {H H1 H2:Hp} {h h1 h2 h':Heap} {a x e:Addr} {o:HO}
theorem Un.any (u:Un fs ex H H1 h h1) {b:Addr} {ob:Obj} (q:h.get? b=some ob) (n:H b=none) (hx:b ∉ ex):∃ sl,h1.get? b=some { ob with slots:=sl }:=by
 by_cases hb:b ∈ fs
 ·exact u.slot b ob q n hb hx
 ·exact ⟨ob.slots,u.keep b ob q n hb hx⟩
theorem Un.kept (k:∀ b u,h.get? b=some u→h'.get? b=some u):Un fs ex H H h h' :=
 ⟨fun b ob q _ _ _=>k b ob q,fun b ob q _ _ _=>⟨ob.slots,k b ob q⟩,fun _ _ _ n _=>n,fun b ob q _=>⟨ob,k b ob q⟩,fun _ _ q=>q,fun _ _ _ q=>q,fun _ _ _ q=>q⟩
theorem Un.refl:Un fs ex H H h h:=Un.kept fun _ _ q=>q
theorem Un.laid (k:∀ b u,h.get? b=some u→h'.get? b=some u) (hp:h.objs.size ≤ a) (hn:H a=none):Un fs ex H (upd H a o) h h' where
 keep:=fun b u q _ _ _=>k b u q
 slot:=fun b u q _ _ _=>⟨u.slots,k b u q⟩
 free:=fun b u q n _=>by rw [dU (bN (bY (Heap.lt_size q) hp))];exact n
 there:=fun b u q _=>⟨u,k b u q⟩
 tups:=fun b xs q=>by rw [dU (lG q hn)];exact q
 frzs:=fun b u xs q=>by rw [dU (lG q hn)];exact q
 tbls:=fun b q p e=>by rw [dU (lG e hn)];exact e
theorem Un.write (mu:Mut (H x)) (he:e=x∨H e=some (.own x)) (k:∀ b u,b ≠ e→h.get? b=some u→h'.get? b=some u) (heo:∃ u,h'.get? e=some u):Un fs ex H (upd H x o) h h':=by
 have hx:∀ b,H b=none→b ≠ x:=fun b n z=>by subst z;rw [n] at mu;exact mu
 have hb:∀ b,H b=none→b ≠ e:=fun b n z=>by
  subst z
  rcases he with r | r
  ·exact hx b n r
  ·rw [n] at r;cases r
 have hm:∀ b u,H b=some u→¬ Mut (some u)→b ≠ x:=fun b u q nm z=>by subst z;rw [q] at mu;exact nm mu
 refine ⟨fun b u q n _ _=>k b u (hb b n) q,fun b u q n _ _=>⟨u.slots,k b u (hb b n) q⟩,fun b u q n _=>by rw [dU (hx b n)];exact n,fun b u q _=>?_,
  fun b xs q=>by rw [dU (hm b _ q fun z=>z)];exact q,fun b u xs q=>by rw [dU (hm b _ q fun z=>z)];exact q,fun b q p e=>by rw [dU (hm b _ e fun z=>z)];exact e⟩
 by_cases hbe:b=e
 ·subst hbe;exact heo
 ·exact ⟨u,k b u hbe q⟩
end
noncomputable def trk (h:Heap) (H:Hp):List Addr:=(aX h.objs.size).filter fun a=>(H a).isSome
noncomputable def yG (h:Heap) (H:Hp):Heap:=PySem.W.hideAll h (trk h H)
theorem Gr (h:Heap) (H:Hp):(yG h H).objs.size=h.objs.size:=PySem.W.hideAll_size _ _
theorem HW {h:Heap} {H:Hp} {b:Addr} {o:Obj} (e:h.get? b=some o) (n:H b=none):(yG h H).get? b=some o :=
 PySem.W.hideAll_get _ e fun hm=>by
  have q:(H b).isSome=true:=(fP.mp hm).2
  rw [n] at q;simp at q
theorem Lj {h:Heap} {H:Hp} {b:Addr} {o:Obj} (e:(yG h H).get? b=some o):h.get? b=some o∧H b=none:=by
 have e':h.get? b=some o:=PySem.W.of_hideAll (trk h H) e
 refine ⟨e',?_⟩
 cases q:H b with
 | none=>rfl
 | some x =>
  have hm:b ∈ trk h H:=fP.mpr ⟨bO.mpr (Heap.lt_size e'),by simp [q]⟩
  have z:(yG h H).get? b=none:=PySem.W.hideAll_none (trk h H) hm
  rw [z] at e;cases e
end L2
namespace L2
open PySem PySem.Spec PyProof.Rows
structure Mod (K:PySem.W.Frag) (mg:Str→Option Value) (base:Heap):Prop where
 kin:K.In base
 glob:base.Ns mainGlobals mg
 blt:∃ mb,base.Ns builtinsNs mb∧∀ x:Str,x ≠ "__name__" → mb x=bootBuiltins x
 nolimit:base.NoLimit
 bm:∃ bm ob,mg "__builtins__" = some (.ref bm)∧bm ≠ builtinsNs∧base.get? bm=some ob∧ob.cls = .type "module" ∧ ob.dict=some builtinsNs∧ob.data = .plain
structure Cx where
 prog:Program
 w:World
 K:PySem.W.Frag
 mg:Str→Option Value
 base:Heap
 A:Around
 N:List Str
 s₀:Shared
 H₀:Hp
 env:Env
 outer:List Env
 stack:List Env
 ex:List Addr
 fn:Str→Bool
 calm:Bool
 pn:List (Addr × Obj)
 xe:Value→Shared→Prop
noncomputable def frs (l:List Env):List Addr:=l.filterMap (·.frame)
noncomputable abbrev Cx.fs (X:Cx):List Addr:=frs X.outer
noncomputable def Vis (sc:Scope) (x:Str):Prop:=sc.names.lookup x=some .local∨sc.names.lookup x=some .cell∨sc.names.lookup x=some .free
noncomputable def Loc (sc:Scope) (x:Str):Prop:=sc.names.lookup x=some .local∨sc.names.lookup x=some .cell
noncomputable def Look (env:Env) (h:Heap) (m:Str→Option Value) (x:Str) (u:Value):Prop :=
 (env.kindOf x=some .local∧m x=some u)∨((env.kindOf x=some .cell∨env.kindOf x=some .free)∧∃ c,env.cells.lookup x=some c∧h.IsCell c (some u))
structure Cx.Ok (X:Cx):Prop where
 mod:Mod X.K X.mg X.base
 kind:X.env.scope.kind = .function
 glob:X.env.globals=mainGlobals
 blt:X.env.builtins=builtinsNs
 above:X.s₀.heap.objs.size ≤ X.env.locals
 inj:∀ x y c,X.env.cells.lookup x=some c→X.env.cells.lookup y=some c→x=y
 has:∀ x,(X.env.kindOf x=some .cell∨X.env.kindOf x=some .free)→∃ c,X.env.cells.lookup x=some c
 cab:∀ x c,X.fn x=true→X.env.cells.lookup x=some c→X.s₀.heap.objs.size ≤ c
 hd:X.calm=true→X.A.handled=none
 frames:X.A.frames=some X.stack
 stk:X.stack=X.outer∨(X.stack=X.env :: X.outer∧X.env.frame=some X.env.locals)
 exf:∀ b ∈ X.ex,b ≠ X.env.locals∧∀ x c,X.env.cells.lookup x=some c→c ≠ b
 bs:∀ b o,X.base.get? b=some o→X.s₀.heap.get? b=some o∧X.H₀ b=none
 bsz:X.base.objs.size ≤ X.s₀.heap.objs.size
 noex:∀ b o,X.base.get? b=some o→b ∉ X.ex
 exfs:∀ b ∈ X.ex,b ∉ X.fs
 funs:X.s₀.heap.FunFrames X.base X.outer
 frf:∀ b ∈ X.fs,X.H₀ b=none
structure Inv (X:Cx) (pins:List (Addr × Obj)) (σ:List (Option V)) (H:Hp) (s:Shared):Prop where
 ok:X.Ok
 os:s.os=X.s₀.os
 bare:AllBare s.gens
 base:Un X.fs X.ex X.H₀ H X.s₀.heap s.heap
 loc:∃ m,s.heap.Ns X.env.locals m∧∀ (i:Nat) (x:Str) (v:V),X.N[i]? = some x→σ[i]? = some (some v)→Vis X.env.scope x→∃ u,RelV v u∧Look X.env s.heap m x u
 cell:∀ x c,X.env.cells.lookup x=some c→∃ v,s.heap.IsCell c v
 free:H X.env.locals=none
 freeC:∀ x c,X.env.cells.lookup x=some c→H c=none
 pin:∀ p ∈ X.pn++pins,s.heap.get? p.1=some p.2∧H p.1=none∧p.1 ≠ X.env.locals∧p.1 ∉ X.fs∧∀ v,p.2.data ≠ .cell v
 hok:HOk X.prog X.w H s.heap
 len:σ.length=X.N.length
section
variable {X:Cx} {pins:List (Addr × Obj)} {σ:List (Option V)} {H H':Hp} {s:Shared} {h':Heap}
theorem Cx.Ok.nofr (ok:X.Ok) {b:Addr} {o:Obj} (e:X.base.get? b=some o):b ∉ X.fs:=fun hb=>by
 have:=(ok.funs.mem hb).1
 rw [e] at this;cases this
theorem Inv.bs (I:Inv X pins σ H s):∀ b o,X.base.get? b=some o→s.heap.get? b=some o∧H b=none:=fun b o e =>
 ⟨I.base.keep b o (I.ok.bs b o e).1 (I.ok.bs b o e).2 (I.ok.nofr e) (I.ok.noex b o e),I.base.free b o (I.ok.bs b o e).1 (I.ok.bs b o e).2 (I.ok.noex b o e)⟩
theorem Inv.bk (I:Inv X pins σ H s):∀ b o,X.base.get? b=some o→s.heap.get? b=some o:=fun b o e=>(I.bs b o e).1
theorem Inv.mod (I:Inv X pins σ H s):Mod X.K X.mg X.base:=I.ok.mod
theorem Inv.kIn (I:Inv X pins σ H s):X.K.In s.heap:=I.ok.mod.kin.keeps I.bk
theorem Inv.lt (I:Inv X pins σ H s):X.env.locals < s.heap.objs.size:=let ⟨_,hn,_⟩:=I.loc;hn.lt
theorem Inv.sz (I:Inv X pins σ H s):X.s₀.heap.objs.size ≤ s.heap.objs.size:=bV I.ok.above (eY I.lt)
theorem Inv.nofs (I:Inv X pins σ H s) {a:Addr} (h:s.heap.objs.size ≤ a):a ∉ X.fs:=fun hb=>by
 obtain ⟨_,o,ho,_⟩:=I.ok.funs.mem hb
 exact absurd (bY (Heap.lt_size ho) (bV I.sz h)) (iU _)
theorem Inv.cne (I:Inv X pins σ H s):∀ x c,X.env.cells.lookup x=some c→c ≠ X.env.locals:=fun x c e z=>by
 obtain ⟨v,o,ho,hd⟩:=I.cell x c e
 obtain ⟨m,⟨o',es,ep,ho',hd',_⟩,_⟩:=I.loc
 rw [z,ho'] at ho;cases ho;rw [hd'] at hd;cases hd
theorem Inv.funs (I:Inv X pins σ H s):s.heap.FunFrames X.base X.outer:=by
 have all:∀ (l:List Env),(∀ b ∈ frs l,b ∈ X.fs)→X.s₀.heap.FunFrames X.base l→s.heap.FunFrames X.base l:=by
  intro l
  induction l with
  | nil=>intro _ _;trivial
  | cons env r ih =>
   intro hs hl
   obtain ⟨hk,⟨L,o,hf,hn,ho,hd⟩,hr⟩:=hl
   have hL:L ∈ X.fs:=hs L (by unfold frs;rw [dM,hf];exact aP)
   obtain ⟨sl,e⟩:=I.base.slot L o ho (I.ok.frf L hL) hL fun z=>I.ok.exfs L z hL
   exact ⟨hk,⟨L,_,hf,hn,e,hd⟩,ih (fun b hb=>hs b (by unfold frs;rw [dM,hf];exact aL _ hb)) hr⟩
 exact all X.outer (fun _ hb=>hb) I.ok.funs
theorem Inv.stack (I:Inv X pins σ H s):s.heap.FunFrames X.base X.stack:=by
 rcases I.ok.stk with e | ⟨e,hf⟩
 ·rw [e];exact I.funs
 ·rw [e]
  obtain ⟨m,hn,_⟩:=I.loc
  refine .cons (by rw [I.ok.kind];decide) hf hn ?_ I.funs
  exact Heap.get?_none_of_le (bV I.ok.bsz I.ok.above)
theorem Inv.stkSub (I:Inv X pins σ H s):∀ b ∈ frs X.stack,b ∈ X.env.locals :: X.fs:=fun b hb=>by
 rcases I.ok.stk with e | ⟨e,hf⟩
 ·rw [e] at hb;exact aL _ hb
 ·rw [e] at hb
  unfold frs at hb
  rw [dM,hf] at hb
  exact hb
theorem Inv.stkFree (I:Inv X pins σ H s):∀ b ∈ frs X.stack,H b=none:=fun b hb=>by
 rcases aR.mp (I.stkSub b hb) with e | hb
 ·rw [e];exact I.free
 ·obtain ⟨_,o,ho,_⟩:=I.ok.funs.mem hb
  exact I.base.free b o ho (I.ok.frf b hb) fun z=>I.ok.exfs b z hb
theorem Inv.step {g':Array GenState} {t':Nat} {d':Drawn} {ch:List Addr} (I:Inv X pins σ H s)
 (hch:∀ b ∈ ch,(b ∈ X.ex∨X.s₀.heap.objs.size ≤ b)∧b ≠ X.env.locals∧(∀ x c,X.env.cells.lookup x=some c→c ≠ b)∧∀ p ∈ X.pn++pins,p.1 ≠ b)
 (keep:∀ b o,b ≠ X.env.locals→b ∉ X.fs→b ∉ ch→s.heap.get? b=some o→H b=none→h'.get? b=some o)
 (slot:∀ b o,b ≠ X.env.locals→b ∈ X.fs→b ∉ ch→s.heap.get? b=some o→H b=none→∃ sl,h'.get? b=some { o with slots:=sl }) (free:∀ b o,b ∉ ch→s.heap.get? b=some o→H b=none→H' b=none)
 (there:∀ b o,b ∉ ch→s.heap.get? b=some o→∃ o',h'.get? b=some o')
 (tups:∀ b xs,H b=some (.tup xs)→H' b=some (.tup xs)) (frzs:∀ b o u,H b=some (.frz o u)→H' b=some (.frz o u)) (tbls:∀ b q p,H b=some (.tbl q p)→H' b=some (.tbl q p))
 (ns:∀ m,s.heap.Ns X.env.locals m→h'.Ns X.env.locals m) (hok:HOk X.prog X.w H' h') (hg:AllBare g') :
 Inv X pins σ H' { s with heap:=h',gens:=g',drawn:=d',toks:=t' }:=by
 have neL:∀ b o,X.s₀.heap.get? b=some o→b ≠ X.env.locals:=fun b o e=>bN (bY (Heap.lt_size e) I.ok.above)
 have neC:∀ b o,X.s₀.heap.get? b=some o→b ∉ X.ex→b ∉ ch:=fun b o e hx hb=>by
  rcases (hch b hb).1 with z | z
  ·exact hx z
  ·exact absurd (bY (Heap.lt_size e) z) (iU _)
 have cellK:∀ x c,X.env.cells.lookup x=some c→∀ v,s.heap.IsCell c v→h'.IsCell c v:=fun x c e v ⟨o,ho,hd⟩=>by
  have nch:c ∉ ch:=fun z=>(hch c z).2.2.1 x c e rfl
  by_cases hc:c ∈ X.fs
  ·obtain ⟨sl,q⟩:=slot c o (I.cne x c e) hc nch ho (I.freeC x c e)
   exact ⟨_,q,hd⟩
  ·exact ⟨o,keep c o (I.cne x c e) hc nch ho (I.freeC x c e),hd⟩
 refine ⟨I.ok,I.os,hg,⟨fun b o e n hb hx=>?_,fun b o e n hb hx=>?_,fun b o e n hx=>?_,fun b o e hx=>?_,fun b xs e=>tups b xs (I.base.tups b xs e),fun b o xs e=>frzs b o xs (I.base.frzs b o xs e),fun b q p e=>tbls b q p (I.base.tbls b q p e)⟩,?_,fun x c e=>?_,?_,fun x c e=>?_,fun p hp=>?_,hok,I.len⟩
 ·exact keep b o (neL b o e) hb (neC b o e hx) (I.base.keep b o e n hb hx) (I.base.free b o e n hx)
 ·obtain ⟨sl,e1⟩:=I.base.slot b o e n hb hx
  obtain ⟨sl',e2⟩:=slot b _ (neL b o e) hb (neC b o e hx) e1 (I.base.free b o e n hx)
  exact ⟨sl',e2⟩
 ·obtain ⟨o',e1⟩:=I.base.there b o e hx
  exact free b o' (neC b o e hx) e1 (I.base.free b o e n hx)
 ·obtain ⟨o',e1⟩:=I.base.there b o e hx
  exact there b o' (neC b o e hx) e1
 ·obtain ⟨m,hn,hl⟩:=I.loc
  refine ⟨m,ns m hn,fun i x v e1 e2 e3=>?_⟩
  obtain ⟨u,r,l⟩:=hl i x v e1 e2 e3
  refine ⟨u,r,?_⟩
  rcases l with l | ⟨k,c,e,z⟩
  ·exact .inl l
  ·exact .inr ⟨k,c,e,cellK x c e _ z⟩
 ·obtain ⟨v,z⟩:=I.cell x c e
  exact ⟨v,cellK x c e v z⟩
 ·obtain ⟨m,⟨o,_,_,ho,_⟩,_⟩:=I.loc
  exact free _ o (fun z=>(hch _ z).2.1 rfl) ho I.free
 ·obtain ⟨v,o,ho,hd⟩:=I.cell x c e
  exact free c o (fun z=>(hch c z).2.2.1 x c e rfl) ho (I.freeC x c e)
 ·obtain ⟨e,n,ne,nf,d⟩:=I.pin p hp
  have nch:p.1 ∉ ch:=fun z=>(hch p.1 z).2.2.2 p hp rfl
  exact ⟨keep p.1 p.2 ne nf nch e n,free p.1 p.2 nch e n,ne,nf,d⟩
theorem Inv.un {t':Nat} (I:Inv X pins σ H s) (u:Un X.fs [] H H' s.heap h') (hok:HOk X.prog X.w H' h'):Inv X pins σ H' { s with heap:=h',toks:=t' }:=by
 obtain ⟨m,⟨o,es,ep,ho,r⟩,_⟩:=id I.loc
 obtain ⟨sl,hL⟩:=u.any ho I.free (by simp)
 exact I.step (g':=s.gens) (d':=s.drawn) (ch:=[]) (fun _ z=>nomatch z) (fun b o _ hb _ e n=>u.keep b o e n hb (by simp)) (fun b o _ hb _ e n=>u.slot b o e n hb (by simp)) (fun b o _ e n=>u.free b o e n (by simp)) (fun b o _ e=>u.there b o e (by simp)) u.tups u.frzs u.tbls (fun m' hm=>by
  obtain ⟨o',es',ep',ho',r'⟩:=hm
  rw [ho] at ho';cases ho'
  exact ⟨_,es',ep',hL,r'⟩) hok I.bare
theorem Inv.call {g':Array GenState} {t':Nat} {d':Drawn} {ch:List Addr} (I:Inv X pins σ H s) (u:Un (frs X.stack) ch H H' s.heap h') (hok:HOk X.prog X.w H' h') (hg:AllBare g')
 (hch:∀ b ∈ ch,(b ∈ X.ex∨X.s₀.heap.objs.size ≤ b)∧b ≠ X.env.locals∧(∀ x c,X.env.cells.lookup x=some c→c ≠ b)∧∀ p ∈ X.pn++pins,p.1 ≠ b) :
 Inv X pins σ H' { s with heap:=h',gens:=g',drawn:=d',toks:=t' }:=by
 obtain ⟨m,⟨o,es,ep,ho,r⟩,_⟩:=id I.loc
 obtain ⟨sl,hL⟩:=u.any ho I.free fun z=>(hch _ z).2.1 rfl
 exact I.step (ch:=ch) hch (fun b o hL hb hc e n=>u.keep b o e n (fun z=>(aR.mp (I.stkSub b z)).elim hL hb) hc) (fun b o _ _ hc e n=>u.any e n hc) (fun b o hc e n=>u.free b o e n hc) (fun b o hc e=>u.there b o e hc) u.tups u.frzs u.tbls (fun m' hm=>by
  obtain ⟨o',es',ep',ho',r'⟩:=hm
  rw [ho] at ho';cases ho'
  exact ⟨_,es',ep',hL,r'⟩) hok hg
theorem Inv.turned {t':Nat} {it:Addr} (I:Inv X pins σ H s) (k:∀ b o,b ≠ it→s.heap.get? b=some o→h'.get? b=some o) (hn:H it=none) (hL:it ≠ X.env.locals)
 (h1:it ∈ X.ex∨X.s₀.heap.objs.size ≤ it) (h2:∀ x c,X.env.cells.lookup x=some c→c ≠ it) (h3:∀ p ∈ X.pn++pins,p.1 ≠ it):Inv X pins σ H { s with heap:=h',toks:=t' }:=by
 have nit:∀ b u,H b=some u→b ≠ it:=fun b u e z=>by rw [z,hn] at e;cases e
 refine I.step (g':=s.gens) (d':=s.drawn) (ch:=[it]) (fun b hb=>?_) (fun b o _ _ hc e _=>k b o (fun z=>hc (by simp [z])) e) (fun b o _ _ hc e _=>⟨o.slots,k b o (fun z=>hc (by simp [z])) e⟩) (fun _ _ _ _ n=>n)
  (fun b o hc e=>⟨o,k b o (fun z=>hc (by simp [z])) e⟩) (fun _ _ e=>e) (fun _ _ _ e=>e) (fun _ _ _ e=>e) (fun m hm=>?_) (fun b u e=>?_) I.bare
 ·have e:b=it:=by simpa using hb
  subst e
  exact ⟨h1,hL,h2,h3⟩
 ·obtain ⟨o,es,ep,ho,r⟩:=hm
  exact ⟨o,es,ep,k _ o (Ne.symm hL) ho,r⟩
 ·refine (I.hok b u e).stay (fun c v hc q=>k c v ?_ q) (fun _ q=>q) fun _ _ q=>q
  rcases hc with z | z
  ·rw [z];exact nit b u e
  ·exact nit c _ z
theorem Inv.tok (I:Inv X pins σ H s) (t:Nat):Inv X pins σ H { s with toks:=t }:=I.un (h':=s.heap) (t':=t) Un.refl I.hok
theorem Inv.kept {t':Nat} (I:Inv X pins σ H s) (k:∀ b u,s.heap.get? b=some u→h'.get? b=some u):Inv X pins σ H { s with heap:=h',toks:=t' }:=I.un (Un.kept k) (I.hok.kept k)
theorem Inv.laid {a:Addr} {o:HO} {t':Nat} (I:Inv X pins σ H s) (k:∀ b u,s.heap.get? b=some u→h'.get? b=some u) (hp:s.heap.objs.size ≤ a) (new:iI X.prog X.w (upd H a o) h' a o) :
 Inv X pins σ (upd H a o) { s with heap:=h',toks:=t' }:=I.un (Un.laid k hp (I.hok.fresh hp)) (I.hok.laid k hp new)
theorem Inv.write {x e:Addr} {o:HO} {t':Nat} (I:Inv X pins σ H s) (mu:Mut (H x)) (he:e=x∨H e=some (.own x)) (k:∀ b u,b ≠ e→s.heap.get? b=some u→h'.get? b=some u) (heo:∃ u,h'.get? e=some u)
 (new:iI X.prog X.w (upd H x o) h' x o):Inv X pins σ (upd H x o) { s with heap:=h',toks:=t' }:=I.un (Un.write mu he k heo) (I.hok.write mu he k heo new)
theorem Inv.pins_of {pins':List (Addr × Obj)} (I:Inv X pins σ H s) (h:∀ p ∈ pins',s.heap.get? p.1=some p.2∧H p.1=none∧p.1 ≠ X.env.locals∧p.1 ∉ X.fs∧∀ v,p.2.data ≠ .cell v):Inv X pins' σ H s :=
 ⟨I.ok,I.os,I.bare,I.base,I.loc,I.cell,I.free,I.freeC,fun p hp=>(bW.mp hp).elim (fun z=>I.pin p (cV _ z)) (h p),I.hok,I.len⟩
theorem Ae {N:List Str} (hN:N.Nodup) {i j:Nat} {x:Str} (a:N[i]? = some x) (b:N[j]? = some x):i=j:=by
 obtain ⟨h1,e1⟩:=fU.mp a
 obtain ⟨h2,e2⟩:=fU.mp b
 exact (List.getElem_inj hN).mp (e1.trans e2.symm)
theorem xK {M:Model} {A:Around} {E:Value→Shared→Prop} {i:Nat} {x:Str} {v:V} {u:Value} {Q:Unit→Shared→Prop} (I:Inv X pins σ H s) (hN:X.N.Nodup) (hi:X.N[i]? = some x) (hx:Loc X.env.scope x) (r:RelV v u)
 (h:∀ s',Inv X pins (σ.set i (some v)) H s'→(∃ a,Heap.SameBut a s.heap s'.heap∧(a=X.env.locals∨X.env.cells.lookup x=some a))→Q () s') (hf:X.fn x=true∨X.env.scope.names.lookup x=some .local:=by first | exact .inl rfl | exact .inr rfl | assumption):wpAny M A (storeName X.env x u) Q E s:=by
 obtain ⟨m,hn,hl⟩:=id I.loc
 have hcls:(X.env.scope.kind == .class || (X.env.scope.kind == .module && X.env.locals != X.env.globals))=false:=by rw [I.ok.kind];rfl
 have hiσ:i < σ.length:=by rw [I.len];exact (fU.mp hi).1
 have cne:=I.cne
 have tracked:∀ {a:Addr} {h':Heap},(∃ o,s.heap.get? a=some o∧H a=none)→Heap.SameBut a s.heap h'→HOk X.prog X.w H h':=fun {a h'} ha hs b ob e=>by
  obtain ⟨_,_,hfree⟩:=ha
  refine (I.hok b ob e).stay (fun c w' hc q=>(hs.2 c ?_).trans q) (fun _ q=>q) fun _ _ q=>q
  rintro rfl
  rcases hc with rfl | hc
  ·rw [hfree] at e;cases e
  ·rw [hfree] at hc;cases hc
 rcases hx with hk | hk
 ·refine wpAny_storeName_local hk hn (fun h' hn' hs=>?_) hcls
  obtain ⟨oL,_,_,hoL,_⟩:=id hn
  refine h _ ⟨I.ok,I.os,I.bare,⟨fun b o e n hb hx=>?_,fun b o e n hb hx=>?_,I.base.free,fun b o e hx=>?_,I.base.tups,I.base.frzs,I.base.tbls⟩,⟨_,hn',fun j y v' e1 e2 e3=>?_⟩,fun y c e=>?_,I.free,I.freeC,fun p hp=>?_,tracked ⟨oL,hoL,I.free⟩ hs,by simpa using I.len⟩ ⟨_,hs,.inl rfl⟩
  ·exact (hs.2 b (bN (bY (Heap.lt_size e) I.ok.above))).trans (I.base.keep b o e n hb hx)
  ·obtain ⟨sl,e1⟩:=I.base.slot b o e n hb hx
   exact ⟨sl,(hs.2 b (bN (bY (Heap.lt_size e) I.ok.above))).trans e1⟩
  ·obtain ⟨o',e1⟩:=I.base.there b o e hx
   exact ⟨o',(hs.2 b (bN (bY (Heap.lt_size e) I.ok.above))).trans e1⟩
  ·by_cases hj:j=i
   ·subst hj
    rw [hi] at e1;cases e1
    rw [dD hiσ] at e2
    cases e2
    exact ⟨u,r,.inl ⟨hk,by simp⟩⟩
   ·rw [bF (Ne.symm hj)] at e2
    obtain ⟨u',r',q⟩:=hl j y v' e1 e2 e3
    refine ⟨u',r',?_⟩
    rcases q with ⟨k,e⟩ | ⟨k,c,e,z⟩
    ·refine .inl ⟨k,?_⟩
     have:y ≠ x:=fun e=>hj (Ae hN e1 (e ▸ hi))
     simp [this,e]
    ·exact .inr ⟨k,c,e,z.sameBut hs (cne y c e)⟩
  ·obtain ⟨w',z⟩:=I.cell y c e
   exact ⟨w',z.sameBut hs (cne y c e)⟩
  ·obtain ⟨e,n,ne,nf,d⟩:=I.pin p hp
   exact ⟨(hs.2 p.1 ne).trans e,n,ne,nf,d⟩
 ·have hfn:X.fn x=true:=by
   rcases hf with z | z
   ·exact z
   ·rw [z] at hk;cases hk
  obtain ⟨c,hc⟩:=I.ok.has x (.inl hk)
  obtain ⟨w',z⟩:=I.cell x c hc
  refine wpAny_storeName_cell I.ok.kind hk hc z (fun h' hc' hs=>?_)
  obtain ⟨oc,hoc,hocd⟩:=id z
  refine h { s with heap:=h' } ⟨I.ok,I.os,I.bare,⟨fun b o e n hb hx=>?_,fun b o e n hb hx=>?_,I.base.free,fun b o e hx=>?_,I.base.tups,I.base.frzs,I.base.tbls⟩,⟨m,hn.sameBut hs (Ne.symm (cne x c hc)),fun j y v' e1 e2 e3=>?_⟩,fun y c' e=>?_,I.free,I.freeC,fun p hp=>?_,tracked ⟨oc,hoc,I.freeC x c hc⟩ hs,by simpa using I.len⟩ ⟨c,hs,.inr hc⟩
  ·exact (hs.2 b (bN (bY (Heap.lt_size e) (I.ok.cab x c hfn hc)))).trans (I.base.keep b o e n hb hx)
  ·obtain ⟨sl,e1⟩:=I.base.slot b o e n hb hx
   exact ⟨sl,(hs.2 b (bN (bY (Heap.lt_size e) (I.ok.cab x c hfn hc)))).trans e1⟩
  ·obtain ⟨o',e1⟩:=I.base.there b o e hx
   exact ⟨o',(hs.2 b (bN (bY (Heap.lt_size e) (I.ok.cab x c hfn hc)))).trans e1⟩
  ·by_cases hj:j=i
   ·subst hj
    rw [hi] at e1;cases e1
    rw [dD hiσ] at e2
    cases e2
    exact ⟨u,r,.inr ⟨.inl hk,c,hc,hc'⟩⟩
   ·rw [bF (Ne.symm hj)] at e2
    obtain ⟨u',r',q⟩:=hl j y v' e1 e2 e3
    refine ⟨u',r',?_⟩
    rcases q with q | ⟨k,c',e,z'⟩
    ·exact .inl q
    ·refine .inr ⟨k,c',e,z'.sameBut hs ?_⟩
     rintro rfl
     exact hj (Ae hN e1 (I.ok.inj _ _ _ e hc ▸ hi))
  ·by_cases hcc:c'=c
   ·subst hcc;exact ⟨_,hc'⟩
   ·obtain ⟨w2,z2⟩:=I.cell y c' e
    exact ⟨w2,z2.sameBut hs hcc⟩
  ·obtain ⟨e,n,ne,nf,d⟩:=I.pin p hp
   refine ⟨(hs.2 p.1 ?_).trans e,n,ne,nf,d⟩
   intro q
   rw [q,hoc] at e
   have q':oc=p.2:=fO.inj e
   exact d w' (by rw [← q'];exact hocd)
theorem Af {M:Model} {A:Around} {E:Value→Shared→Prop} {i:Nat} {x:Str} {v:V} {u:Value} {Q:Unit→Shared→Prop} (I:Inv X pins σ H s) (hN:X.N.Nodup) (hi:X.N[i]? = some x) (hx:Loc X.env.scope x) (r:RelV v u)
 (h:∀ s',Inv X pins (σ.set i (some v)) H s'→Q () s') (hf:X.fn x=true∨X.env.scope.names.lookup x=some .local:=by first | exact .inl rfl | exact .inr rfl | assumption):wpAny M A (storeName X.env x u) Q E s :=
 xK I hN hi hx r (fun s' I' _=>h s' I') hf
end
noncomputable abbrev XK:=Value→Option Addr→Hp→Prop
noncomputable abbrev St:=List (Option V)
noncomputable abbrev VK:=V→Hp→Prop
noncomputable abbrev TE:=St→Hp→VK→Prop
noncomputable abbrev TT:=St→Hp→(Bool→Hp→Prop)→Prop
noncomputable abbrev TA:=St→Hp→(List V→Hp→Prop)→Prop
structure Ends where
 nx:St→Hp→Prop
 rt:VK
 bk:St→Hp→Prop:=fun _ _=>False
 ct:St→Hp→Prop:=fun _ _=>False
noncomputable abbrev TS:=Ends→St→Hp→Prop
noncomputable def EP (X:Cx) (pins:List (Addr × Obj)) (σ:St) (Q:VK) (u:Value) (s':Shared):Prop:=∃ v H',Inv X pins σ H' s'∧RelV v u∧Q v H'
noncomputable def TP (X:Cx) (pins:List (Addr × Obj)) (σ:St) (Q:Bool→Hp→Prop) (b:Bool) (s':Shared):Prop:=∃ H',Inv X pins σ H' s'∧Q b H'
noncomputable def AP (X:Cx) (pins:List (Addr × Obj)) (σ:St) (Q:List V→Hp→Prop) (us:List Value) (s':Shared):Prop:=∃ vs H',Inv X pins σ H' s'∧Vals vs us∧Q vs H'
noncomputable def SP (X:Cx) (pins:List (Addr × Obj)) (D:Ends) (f:Flow) (s':Shared):Prop :=
 match f with
 | .next=>∃ σ' H',Inv X pins σ' H' s'∧D.nx σ' H'
 | .brk=>∃ σ' H',Inv X pins σ' H' s'∧D.bk σ' H'
 | .cont=>∃ σ' H',Inv X pins σ' H' s'∧D.ct σ' H'
 | .ret u=>∃ v σ' H',Inv X pins σ' H' s'∧RelV v u∧D.rt v H'
noncomputable def PE (X:Cx) (e:Expr) (t:TE):Prop :=
 ∀ (pins:List (Addr × Obj)) (s:Shared) (σ:St) (H:Hp) (Q:VK),Inv X pins σ H s→t σ H Q→wpAny (model X.prog X.w) X.A (eval e X.env) (EP X pins σ Q) X.xe s
noncomputable def PT (X:Cx) (e:Expr) (t:TT):Prop :=
 ∀ (pins:List (Addr × Obj)) (s:Shared) (σ:St) (H:Hp) (Q:Bool→Hp→Prop),Inv X pins σ H s→t σ H Q→wpAny (model X.prog X.w) X.A (isTrue e X.env (eval e X.env)) (TP X pins σ Q) X.xe s
noncomputable def PW (X:Cx) (e:Expr) (t:TT):Prop :=
 ∀ (whole:Sem Value) (pins:List (Addr × Obj)) (s:Shared) (σ:St) (H:Hp) (Q:Bool→Hp→Prop),Inv X pins σ H s→t σ H Q→wpAny (model X.prog X.w) X.A (isTrue e X.env whole) (TP X pins σ Q) X.xe s
theorem PW.pt {X:Cx} {e:Expr} {t:TT} (h:PW X e t):PT X e t:=h _
noncomputable def PA (X:Cx) (es:List Expr) (t:TA):Prop :=
 ∀ (pos:Pos) (pins:List (Addr × Obj)) (s:Shared) (σ:St) (H:Hp) (Q:List V→Hp→Prop),Inv X pins σ H s→t σ H Q→wpAny (model X.prog X.w) X.A (spliced (backTo pos (starEach es X.env))) (AP X pins σ Q) X.xe s
noncomputable def PS (X:Cx) (st:Stmt) (t:TS):Prop :=
 ∀ (pins:List (Addr × Obj)) (s:Shared) (σ:St) (H:Hp) (D:Ends),Inv X pins σ H s→t D σ H→wpAny (model X.prog X.w) X.A (exec st X.env) (SP X pins D) X.xe s
noncomputable def PSs (X:Cx) (st:List Stmt) (t:TS):Prop :=
 ∀ (pins:List (Addr × Obj)) (s:Shared) (σ:St) (H:Hp) (D:Ends),Inv X pins σ H s→t D σ H→wpAny (model X.prog X.w) X.A (execs st X.env) (SP X pins D) X.xe s
theorem thn {α:Type} {t:Sem α} {Q Q':α→Shared→Prop} {M:Model} {A:Around} {E:Value→Shared→Prop} {s:Shared} (h:wpAny M A t Q E s) (hQ:∀ a s,Q a s→Q' a s):wpAny M A t Q' E s:=wpAny_mono h hQ fun _ _ x=>x
end L2
namespace L2
open PySem PySem.Spec PyProof.Rows
section
variable {X:Cx}
noncomputable def WM (i:Nat):TE:=fun σ H Q=>∃ v,σ[i]? = some (some v)∧Q v H
noncomputable def tC (v:V):TE:=fun _ H Q=>Q v H
theorem oA {i:Nat} {x:Str} {pos:Pos} (hN:X.N[i]? = some x) (hv:Vis X.env.scope x) (hd:(x == ("__debug__" : Str))=false:=by decide) (hcd:(x == ("__classdict__" : Str))=false:=by decide):PE X (.Name x pos) (WM i):=by
 intro pins s σ H Q I h
 obtain ⟨v,e,h⟩:=h
 obtain ⟨m,hn,hl⟩:=I.loc
 obtain ⟨u,r,l⟩:=hl i x v hN e hv
 have fin:EP X pins σ Q u s:=⟨v,H,I,r,h⟩
 rcases l with ⟨hk,hm⟩ | ⟨hk,c,hc,hcell⟩
 ·exact wpAny_Name (wpAny_loadName_local I.ok.kind hk hn hm fin) hd
 ·rcases hk with hk | hk
  ·exact wpAny_Name (wpAny_loadName_cell I.ok.kind hk hc hcell fin) hd
  ·exact wpAny_Name (wpAny_loadName_free I.ok.kind hk hc hcell fin hcd) hd
theorem Ql {i j pos}:PE X (.Constant (.int i) j pos) (tC (.int i)):=fun _ _ _ H _ I h=>wpAny_Constant_int ⟨.int i,H,I.tok _,⟨_,rfl⟩,h⟩
theorem DX {b j pos}:PE X (.Constant (.bool b) j pos) (tC (.bl b)):=fun _ _ _ H _ I h=>Constant_bool ⟨.bl b,H,I,rfl,h⟩
theorem Qm {j pos}:PE X (.Constant .none j pos) (tC .non):=fun _ _ _ H _ I h=>Constant_none ⟨.non,H,I,rfl,h⟩
theorem Qn {x j pos}:PE X (.Constant (.str x) j pos) (tC (.str x)):=fun _ _ _ H _ I h=>Calls.Constant_str ⟨.str x,H,I.tok _,⟨_,rfl⟩,h⟩
noncomputable def Gl (X:Cx) (x:Str):Prop:=X.env.kindOf x=some .globalImplicit
theorem DY {E:Value→Shared→Prop} {pins:List (Addr × Obj)} {s:Shared} {σ:St} {H:Hp} {x:Str} {u:Value} {pos:Pos} {Q:Value→Shared→Prop} (I:Inv X pins σ H s) (hg:Gl X x) (hm:X.mg x=some u) (h:Q u s)
 (hd:(x == ("__debug__" : Str))=false:=by decide):wpAny (model X.prog X.w) X.A (eval (.Name x pos) X.env) Q E s :=
 Calls.Name_function_global I.ok.kind hg (Calls.loadGlobal_global (by rw [I.ok.glob];exact I.mod.glob.keeps I.bk) hm h) hd
theorem qb {E:Value→Shared→Prop} {pins:List (Addr × Obj)} {s:Shared} {σ:St} {H:Hp} {x:Str} {u:Value} {pos:Pos} {Q:Value→Shared→Prop} (I:Inv X pins σ H s) (hg:Gl X x) (hm:X.mg x=none) (hv:bootBuiltins x=some u) (h:Q u s)
 (hn:x ≠ "__name__" := by decide) (hd:(x == ("__debug__" : Str))=false:=by decide):wpAny (model X.prog X.w) X.A (eval (.Name x pos) X.env) Q E s:=by
 obtain ⟨mb,h1,h2⟩:=I.mod.blt
 exact Calls.Name_function_global I.ok.kind hg (Calls.loadGlobal_builtin (by rw [I.ok.glob];exact I.mod.glob.keeps I.bk) hm (by rw [I.ok.blt];exact h1.keeps I.bk) ((h2 x hn).trans hv) h) hd
theorem Lk {x:Str} {v:V} {u:Value} {pos:Pos} (hg:Gl X x) (hm:X.mg x=some u) (r:RelV v u) (hd:(x == ("__debug__" : Str))=false:=by decide):PE X (.Name x pos) (tC v) :=
 fun _ _ _ H _ I h=>DY I hg hm ⟨v,H,I,r,h⟩ hd
theorem Ln {x:Str} {v:V} {u:Value} {pos:Pos} (hg:Gl X x) (hm:X.mg x=none) (hv:bootBuiltins x=some u) (r:RelV v u) (hn:x ≠ "__name__" := by decide) (hd:(x == ("__debug__" : Str))=false:=by decide):PE X (.Name x pos) (tC v) :=
 fun _ _ _ H _ I h=>qb I hg hm hv ⟨v,H,I,r,h⟩ hn hd
variable {a b:Expr} {ta tb:TE} {pos:Pos}
noncomputable def PC (X:Cx) (op:CmpOp) (a b:Expr) (t:TE):Prop :=
 ∀ (pins:List (Addr × Obj)) (s:Shared) (σ:St) (H:Hp) (Q:VK),Inv X pins σ H s→t σ H Q →
  wpAny (model X.prog X.w) X.A (eval a X.env) (fun v s₁=>wpAny (model X.prog X.w) X.A (eval b X.env) (fun u s₂=>wpAny (model X.prog X.w) X.A (compareOp op v u) (EP X pins σ Q) X.xe s₂) X.xe s₁) X.xe s
theorem Ag (b:Expr) {op:CmpOp} (h:op ≠ .In) (h2:op ≠ .NotIn):behindInMarks op b=false:=by
 have e1:(op == CmpOp.In)=false:=by cases op <;> first | rfl | exact absurd rfl h
 have e2:(op == CmpOp.NotIn)=false:=by cases op <;> first | rfl | exact absurd rfl h2
 cases b <;> simp [behindInMarks,e1,e2]
noncomputable def WQ (ta:TE):TE:=fun σ H Q=>ta σ H fun x H1=>Q (.bl (decide (x = .non))) H1
noncomputable def Uk (ta:TE):TE:=fun σ H Q=>ta σ H fun x H1=>Q (.bl (!decide (x = .non))) H1
theorem RelV.none_iff {x:V} {v:Value} (r:RelV x v):(v == Value.none)=decide (x = .non):=by
 cases x with
 | non=>cases r;rfl
 | bl _=>cases r;rfl
 | int _=>obtain ⟨t,rfl⟩:=r;rfl
 | str _=>obtain ⟨t,rfl⟩:=r;rfl
 | byt _=>obtain ⟨t,rfl⟩:=r;rfl
 | flt _=>obtain ⟨t,rfl⟩:=r;rfl
 | ref _=>cases r;rfl
 | ty _=>cases r;rfl
theorem HX {j pos'} (ha:PE X a ta):PC X .Is a (.Constant .none j pos') (WQ ta):=by
 intro pins s σ H Q I h
 refine thn (ha pins s σ H _ I h) fun v s1 ⟨x,H1,I1,r1,q1⟩=>?_
 exact Constant_none (is_none_gen ⟨.bl _,H1,I1,by rw [r1.none_iff];rfl,q1⟩)
theorem Lq {j pos'} (ha:PE X a ta):PC X .IsNot a (.Constant .none j pos') (Uk ta):=by
 intro pins s σ H Q I h
 refine thn (ha pins s σ H _ I h) fun v s1 ⟨x,H1,I1,r1,q1⟩=>?_
 exact Constant_none (isnot_none_gen ⟨.bl _,H1,I1,by rw [r1.none_iff];rfl,q1⟩)
noncomputable def tB (t:TE):TT:=fun σ H Q=>t σ H fun x H1=>∃ c,x = .bl c∧Q c H1
theorem Qo {op:CmpOp} {t:TE} (h:PC X op a b t) (h1:behindInMarks op b=false:=by first | exact Ag _ (by decide) (by decide) | rfl):PE X (.Compare a [op] [b] pos) t:=fun pins s σ H Q I hw=>wpAny_Compare1 (h pins s σ H Q I hw) h1
theorem HY {op:CmpOp} {t:TE} (h:PC X op a b t) (h1:behindInMarks op b=false:=by first | exact Ag _ (by decide) (by decide) | rfl):PT X (.Compare a [op] [b] pos) (tB t):=by
 intro pins s σ H Q I hw
 refine wpAny_isTrue_Compare1 (thn (h pins s σ H _ I hw) fun v s1 h1=>thn h1 fun u s2 h2=>thn h2 fun c s3 ⟨x,H1,I1,r1,q1⟩=>?_) h1
 obtain ⟨d,rfl,q⟩:=q1
 cases r1
 exact wpAny_truthy_bool ⟨H1,I1,q⟩
theorem Qq {e:Expr} {t:TE} (h:PE X e t) (he:∀ whole,isTrue e X.env whole=(do let v ← whole;standAt e.pos;holding [v] (truthy v)):=by intro _;rfl):PT X e (tB t):=by
 intro pins s σ H Q I hw
 refine isTrue_plain (thn (h pins s σ H _ I hw) fun v s1 ⟨x,H1,I1,r1,q1⟩=>?_) (he _)
 obtain ⟨d,rfl,q⟩:=q1
 cases r1
 exact wpAny_truthy_bool ⟨H1,I1,q⟩
variable {tA tB':TT} {rest:List Expr}
noncomputable def lE (t u:TT):TT:=fun σ H Q=>t σ H fun c H1=>if c=true then u σ H1 Q else Q false H1
noncomputable def tOr (t u:TT):TT:=fun σ H Q=>t σ H fun c H1=>if c=true then Q true H1 else u σ H1 Q
noncomputable def oE (t:TT):TT:=fun σ H Q=>t σ H fun c H1=>Q (!c) H1
theorem Lr (ha:PT X a tA):PW X (.BoolOp .And [a] pos) tA:=by
 intro wh pins s σ H Q I h
 refine isTrue_and (thn (ha pins s σ H Q I h) fun c s1 e=>?_)
 cases c with
 | true=>exact isTrue_and_nil e
 | false=>exact e
theorem Qs (ha:PT X a tA):PW X (.BoolOp .Or [a] pos) tA:=by
 intro wh pins s σ H Q I h
 refine isTrue_or (thn (ha pins s σ H Q I h) fun c s1 e=>?_)
 cases c with
 | false=>exact isTrue_or_nil e
 | true=>exact e
theorem Qt (ha:PT X a tA) (hb:PW X (.BoolOp .And (b :: rest) pos) tB'):PW X (.BoolOp .And (a :: b :: rest) pos) (lE tA tB'):=by
 intro wh pins s σ H Q I h
 refine isTrue_and (thn (ha pins s σ H _ I h) fun c s1 ⟨H1,I1,q1⟩=>?_)
 cases c with
 | true=>exact hb wh pins s1 σ H1 Q I1 q1
 | false=>exact ⟨H1,I1,q1⟩
theorem Ul (ha:PT X a tA) (hb:PW X (.BoolOp .Or (b :: rest) pos) tB'):PW X (.BoolOp .Or (a :: b :: rest) pos) (tOr tA tB'):=by
 intro wh pins s σ H Q I h
 refine isTrue_or (thn (ha pins s σ H _ I h) fun c s1 ⟨H1,I1,q1⟩=>?_)
 cases c with
 | true=>exact ⟨H1,I1,q1⟩
 | false=>exact hb wh pins s1 σ H1 Q I1 q1
theorem Qu (ha:PT X a tA):PT X (.UnaryOp .Not a pos) (oE tA):=by
 intro pins s σ H Q I h
 exact isTrue_not (ha pins s σ H (fun c H1=>Q (!c) H1) I h)
noncomputable def Um (ta tb:TE):TE:=fun σ H Q=>ta σ H fun x H1=>∃ c,x = .bl c∧if c=true then tb σ H1 Q else Q (.bl false) H1
noncomputable def Uo (ta:TE):TE:=fun σ H Q=>ta σ H fun x H1=>∃ c,x = .bl c∧Q (.bl (!c)) H1
theorem Qw {op} {t:TE} (h:PE X a t):PE X (.BoolOp op [a] pos) t:=fun pins s σ H Q I hw=>BoolOp_one (h pins s σ H Q I hw)
theorem Qx (ha:PE X a ta) (hb:PE X (.BoolOp .And (b :: rest) pos) tb):PE X (.BoolOp .And (a :: b :: rest) pos) (Um ta tb):=by
 intro pins s σ H Q I h
 refine BoolOp_and (thn (ha pins s σ H _ I h) fun v s1 ⟨x,H1,I1,r1,q1⟩=>?_)
 obtain ⟨c,rfl,q1⟩:=q1
 cases r1
 refine wpAny_truthy_bool ?_
 cases c with
 | true=>exact hb pins s1 σ H1 Q I1 q1
 | false=>exact ⟨.bl false,H1,I1,rfl,q1⟩
theorem Qy (ha:PE X a ta):PE X (.UnaryOp .Not a pos) (Uo ta):=by
 intro pins s σ H Q I h
 refine UnaryOp_ (thn (ha pins s σ H _ I h) fun v s1 ⟨x,H1,I1,r1,q1⟩=>?_)
 obtain ⟨c,rfl,q1⟩:=q1
 cases r1
 exact not_of (wpAny_truthy_bool ⟨.bl (!c),H1,I1,rfl,q1⟩)
end
end L2
namespace L2
open PySem PySem.Spec PyProof.Rows
noncomputable def SqL (K:PySem.W.Frag) (H:Hp) (a:Addr) (xs:List V):Prop :=
 Rd H a (.lst xs) ∨
  ∃ (o:Obj) (its:Array Value) (n:Nat),K.lookup a=some o∧o.cls = .type "list" ∧ o.dict=none∧o.data = .seq its n∧its.size ≤ sizeLine∧Vals xs its.toList
noncomputable def SqT (K:PySem.W.Frag) (H:Hp) (a:Addr) (xs:List V):Prop :=
 Rd H a (.tup xs) ∨
  ∃ (o:Obj) (its:Array Value) (n:Nat),K.lookup a=some o∧o.cls = .type "tuple" ∧ o.data = .seq its n∧its.size ≤ sizeLine∧Vals xs its.toList
noncomputable def WR:Value→Option V
 | .none=>some .non
 | .bool b=>some (.bl b)
 | .int i _=>some (.int i)
 | .str x _=>some (.str x)
 | .bytes b _=>some (.byt b)
 | .float b _=>some (.flt b)
 | .ref a=>some (.ref a)
 | .type n=>some (.ty n)
 | _=>none
theorem RelV.abs {x:V} {u:Value} (r:RelV x u):WR u=some x:=by
 cases x with
 | non=>cases r;rfl
 | bl _=>cases r;rfl
 | int _=>obtain ⟨t,rfl⟩:=r;rfl
 | str _=>obtain ⟨t,rfl⟩:=r;rfl
 | byt _=>obtain ⟨t,rfl⟩:=r;rfl
 | flt _=>obtain ⟨t,rfl⟩:=r;rfl
 | ref _=>cases r;rfl
 | ty _=>cases r;rfl
theorem RelV.inj {x y:V} {u:Value} (r:RelV x u) (q:RelV y u):x=y:=fO.inj (r.abs.symm.trans q.abs)
theorem Vals.inj:∀ {xs ys:List V} {us:List Value},Vals xs us→Vals ys us→xs=ys
 | _,_,_,.nil,.nil=>rfl
 | _,_,_,.cons r t,.cons r' t'=>by rw [r.inj r',Vals.inj t t']
section
variable {X:Cx} {pins:List (Addr × Obj)} {σ:St} {H:Hp} {s:Shared} {a:Addr} {xs ys:List V}
theorem SqL.of {K:PySem.W.Frag} (h:H a=some (.lst xs)):SqL K H a xs:=.inl (.inl h)
theorem Inv.list (I:Inv X pins σ H s) (h:SqL X.K H a xs):∃ its:List Value,Vals xs its∧PlainL s.heap a its.toArray∧xs.length ≤ sizeLine:=by
 rcases h with h | ⟨o,its,n,hk,hc,hd,hs,hz,r⟩
 ·obtain ⟨z,its,n,r,e⟩:=h.ok I.hok
  exact ⟨its,r,⟨_,n,e,rfl,rfl,rfl⟩,z⟩
 ·refine ⟨its.toList,r,⟨o,n,I.kIn a o hk,hc,hd,by simpa using hs⟩,?_⟩
  have e:=r.length
  simp only [aJ] at e
  omega
theorem Inv.tuple (I:Inv X pins σ H s) (h:SqT X.K H a xs):∃ its:List Value,Vals xs its∧IsTup s.heap a its.toArray∧xs.length ≤ sizeLine:=by
 rcases h with h | ⟨o,its,n,hk,hc,hs,hz,r⟩
 ·obtain ⟨z,its,r,p⟩:=h.ok I.hok
  exact ⟨its,r,p,z⟩
 ·refine ⟨its.toList,r,⟨o,I.kIn a o hk,hc,n,by simpa using hs⟩,?_⟩
  have e:=r.length
  simp only [aJ] at e
  omega
theorem Inv.list_inj (I:Inv X pins σ H s) (h:SqL X.K H a xs) (h':SqL X.K H a ys):xs=ys:=by
 obtain ⟨its,r,⟨o,n,e,_,_,d⟩,_⟩:=I.list h
 obtain ⟨its',r',⟨o',n',e',_,_,d'⟩,_⟩:=I.list h'
 rw [e] at e';cases e'
 rw [d] at d'
 injection d' with d1 _
 have:its=its':=by simpa using congrArg Array.toList d1
 subst this
 exact r.inj r'
theorem Inv.tuple_inj (I:Inv X pins σ H s) (h:SqT X.K H a xs) (h':SqT X.K H a ys):xs=ys:=by
 obtain ⟨its,r,⟨o,e,_,n,d⟩,_⟩:=I.tuple h
 obtain ⟨its',r',⟨o',e',_,n',d'⟩,_⟩:=I.tuple h'
 rw [e] at e';cases e'
 rw [d] at d'
 injection d' with d1 _
 have:its=its':=by simpa using congrArg Array.toList d1
 subst this
 exact r.inj r'
end
noncomputable abbrev Cx.wish (X:Cx) (E:Value→Shared→Prop):Cx:={ X with xe:=E }
noncomputable abbrev Cx.nox (X:Cx):Cx:=X.wish fun _ _=>False
theorem Cx.Ok.wish {X:Cx} (ok:X.Ok) (E:Value→Shared→Prop):(X.wish E).Ok :=
 ⟨ok.mod,ok.kind,ok.glob,ok.blt,ok.above,ok.inj,ok.has,ok.cab,ok.hd,ok.frames,ok.stk,ok.exf,ok.bs,ok.bsz,ok.noex,ok.exfs,ok.funs,ok.frf⟩
theorem Cx.Ok.unwish {X:Cx} {E:Value→Shared→Prop} (ok:(X.wish E).Ok):X.Ok :=
 ⟨ok.mod,ok.kind,ok.glob,ok.blt,ok.above,ok.inj,ok.has,ok.cab,ok.hd,ok.frames,ok.stk,ok.exf,ok.bs,ok.bsz,ok.noex,ok.exfs,ok.funs,ok.frf⟩
section
variable {X:Cx} {pins:List (Addr × Obj)} {σ:St} {H:Hp} {s:Shared} {E:Value→Shared→Prop}
theorem Inv.wish (I:Inv X pins σ H s) (E:Value→Shared→Prop):Inv (X.wish E) pins σ H s:=⟨I.ok.wish E,I.os,I.bare,I.base,I.loc,I.cell,I.free,I.freeC,I.pin,I.hok,I.len⟩
theorem Inv.unwish (I:Inv (X.wish E) pins σ H s):Inv X pins σ H s:=⟨I.ok.unwish,I.os,I.bare,I.base,I.loc,I.cell,I.free,I.freeC,I.pin,I.hok,I.len⟩
theorem SP.unwish {D:Ends} {f:Flow} {s':Shared} (h:SP (X.wish E) pins D f s'):SP X pins D f s':=by
 cases f with
 | next=>obtain ⟨σ',H',I,q⟩:=h;exact ⟨σ',H',I.unwish,q⟩
 | brk=>obtain ⟨σ',H',I,q⟩:=h;exact ⟨σ',H',I.unwish,q⟩
 | cont=>obtain ⟨σ',H',I,q⟩:=h;exact ⟨σ',H',I.unwish,q⟩
 | ret u=>obtain ⟨v,σ',H',I,r,q⟩:=h;exact ⟨v,σ',H',I.unwish,r,q⟩
theorem PSs.nox {st:List Stmt} {t:TS} (h:PSs X.nox st t):PSs X st t:=fun pins s σ H D I hw =>
 wpAny_mono (h pins s σ H D (I.wish _) hw) (fun _ _ q=>q.unwish) fun _ _ z=>False.elim z
end
section
variable {X:Cx} {st:Stmt} {rest:List Stmt} {t u:TS} {e:Expr} {te:TE} {pos:Pos}
noncomputable def Uq:TS:=fun D σ H=>D.nx σ H
noncomputable def WT (t u:TS):TS:=fun D σ H=>t { D with nx:=u D } σ H
theorem Ls:PSs X [] Uq:=fun _ _ σ H _ I h=>wpAny_execs_nil ⟨σ,H,I,h⟩
theorem H_ (h1:PS X st t) (h2:PSs X rest u):PSs X (st :: rest) (WT t u):=by
 intro pins s σ H D I h
 refine wpAny_execs_cons (thn (h1 pins s σ H { D with nx:=u D } I h) fun f s1 q=>?_)
 cases f with
 | next =>
  obtain ⟨σ',H',I',q⟩:=q
  exact h2 pins s1 σ' H' D I' q
 | ret v=>exact q
 | brk=>exact q
 | cont=>exact q
theorem Lw (h1:PS X st t):PSs X [st] t:=by
 intro pins s σ H D I h
 refine wpAny_execs_cons (thn (h1 pins s σ H D I h) fun f s1 q=>?_)
 cases f with
 | next=>exact wpAny_execs_nil q
 | ret v=>exact q
 | brk=>exact q
 | cont=>exact q
theorem Inv.quiet {pins:List (Addr × Obj)} {σ:St} {H:Hp} {s:Shared} (I:Inv X pins σ H s):interactive X.env=false:=by simp [interactive,I.ok.kind]
noncomputable def Ur (te:TE):TS:=fun D σ H=>te σ H fun _ H1=>D.nx σ H1
theorem tK (he:PE X e te) (hs:swapsWith e none pos.line X.env=pure false:=by rfl):PS X (.Expr e pos) (Ur te):=by
 intro pins s σ H D I h
 exact wpAny_Expr_any (thn (he pins s σ H _ I h) fun v s1 ⟨x,H1,I1,r1,q1⟩=>⟨σ,H1,I1,q1⟩) I.quiet hs
noncomputable def WW (te:TE):TS:=fun D σ H=>te σ H D.rt
theorem Ia (he:PE X e te):PS X (.Return (some e) pos) (WW te):=by
 intro pins s σ H D I h
 exact wpAny_Return_some (thn (he pins s σ H _ I h) fun v s1 ⟨x,H1,I1,r1,q1⟩=>⟨x,σ,H1,I1,r1,q1⟩)
noncomputable def WX (c:TT) (t u:TS):TS:=fun D σ H=>c σ H fun b H1=>if b=true then t D σ H1 else u D σ H1
theorem Us {c:Expr} {a b:List Stmt} {tc:TT} (hc:PT X c tc) (ha:PSs X a t) (hb:PSs X b u):PS X (.If c a b pos) (WX tc t u):=by
 intro pins s σ H D I h
 refine wpAny_If (thn (hc pins s σ H _ I h) fun d s1 ⟨H1,I1,q1⟩=>?_)
 cases d with
 | true=>exact ha pins s1 σ H1 D I1 q1
 | false=>exact hb pins s1 σ H1 D I1 q1
noncomputable def Qz:TS:=fun _ _ _=>False
theorem Ie:PS X st Qz:=fun _ _ _ _ _ _ h=>h.elim
end
noncomputable abbrev TG:=V→St→Hp→(St→Hp→Prop)→Prop
noncomputable abbrev TGs:=List V→St→Hp→(St→Hp→Prop)→Prop
noncomputable def PG (X:Cx) (target:Expr) (t:TG):Prop :=
 ∀ (pins:List (Addr × Obj)) (s:Shared) (σ:St) (H:Hp) (v:V) (u:Value) (Q:St→Hp→Prop),Inv X pins σ H s→RelV v u→t v σ H Q →
  wpAny (model X.prog X.w) X.A (assign target X.env u) (fun _ s'=>∃ σ' H',Inv X pins σ' H' s'∧Q σ' H') X.xe s
noncomputable def PGs (X:Cx) (ts:List Expr) (t:TGs):Prop :=
 ∀ (pins:List (Addr × Obj)) (s:Shared) (σ:St) (H:Hp) (vs:List V) (us:List Value) (Q:St→Hp→Prop),Inv X pins σ H s→Vals vs us→t vs σ H Q →
  wpAny (model X.prog X.w) X.A (assignInOrder ((assignEach ts X.env).map (·.2)) us) (fun _ s'=>∃ σ' H',Inv X pins σ' H' s'∧Q σ' H') X.xe s
noncomputable abbrev QB:=V→V→V→Hp→(Hp→Prop)→Prop
noncomputable def QC (X:Cx) (t:QB):Prop :=
 ∀ (pins:List (Addr × Obj)) (s:Shared) (σ:St) (H:Hp) (o i v:V) (ov iv u:Value) (Q:Hp→Prop),Inv X pins σ H s→RelV o ov→RelV i iv→RelV v u→t o i v H Q →
  wpAny (model X.prog X.w) X.A (setItem ov iv u) (fun _ s'=>∃ H',Inv X pins σ H' s'∧Q H') X.xe s
section
variable {X:Cx} {pos:Pos}
noncomputable def Ig (i:Nat):TG:=fun v σ H Q=>Q (σ.set i (some v)) H
theorem Lx {i:Nat} {x:Str} (hN:X.N.Nodup) (hi:X.N[i]? = some x) (hx:Loc X.env.scope x) (hf:X.fn x=true∨X.env.scope.names.lookup x=some .local:=by first | exact .inl rfl | exact .inr rfl | assumption):PG X (.Name x pos) (Ig i):=by
 intro pins s σ H v u Q I r h
 exact wpAny_assign_Name (Af I hN hi hx r (fun s' I'=>⟨_,H,I',h⟩) hf)
noncomputable def WY:TGs:=fun vs σ H Q=>vs=[]∧Q σ H
noncomputable def Ut (t:TG) (u:TGs):TGs:=fun vs σ H Q=>∃ v r,vs=v :: r∧t v σ H fun σ' H'=>u r σ' H' Q
theorem Ly:PGs X [] WY:=by
 intro pins s σ H vs us Q I r h
 obtain ⟨e,h⟩:=h
 subst e
 cases r
 exact assignInOrder_nil ⟨σ,H,I,h⟩
theorem Ih {e:Expr} {es:List Expr} {t:TG} {u:TGs} (h1:PG X e t) (h2:PGs X es u)
 (hs:(assignEach (e :: es) X.env).map (·.2)=assign e X.env :: (assignEach es X.env).map (·.2):=by rfl):PGs X (e :: es) (Ut t u):=by
 intro pins s σ H vs us Q I r h
 obtain ⟨v,vr,e1,h⟩:=h
 subst e1
 cases r with
 | cons r rr =>
  rw [hs]
  refine assignInOrder_cons (thn (h1 pins s σ H _ _ _ I r h) fun _ s1 ⟨σ1,H1,I1,q1⟩=>?_)
  exact h2 pins s1 σ1 H1 _ _ Q I1 rr q1
noncomputable def W6 (K:PySem.W.Frag) (n:Nat) (t:TGs):TG:=fun v σ H Q=>∃ a xs,v = .ref a∧SqT K H a xs∧xs.length=n∧t xs σ H Q
theorem QD {es:List Expr} {k:Nat} {t:TGs} {n:Nat} (hc:X.calm=true) (h:PGs X es t)
 (hn:(assignEach es X.env).length=n:=by rfl) (hst:(assignEach es X.env).findIdx? (·.1)=none:=by rfl):PG X (.Tuple es k pos) (W6 X.K n t):=by
 intro pins s σ H v u Q I r hw
 obtain ⟨a,xs,e1,hq,hl,hw⟩:=hw
 subst e1
 cases r
 obtain ⟨its,rv,ht,hz⟩:=I.tuple hq
 refine assign_Tuple_tuple (I.ok.hd hc) ht (by simp [hn,← hl,rv.length]) hst fun h' hx=>?_
 have I1:Inv X pins σ H { s with heap:=h' }:=I.kept (t':=s.toks) fun b o e=>hx b o (bN (Heap.lt_size e)) e
 exact h pins _ σ H xs _ Q I1 (by simpa using rv) hw
noncomputable def yH (to ti:TE) (t:QB):TG:=fun v σ H Q=>to σ H fun o H1=>ti σ H1 fun i H2=>t o i v H2 fun H3=>Q σ H3
theorem Ii {o i:Expr} {to ti:TE} {t:QB} (ho:PE X o to) (hi:PE X i ti) (hs:QC X t)
 (ha:∀ v,assign (.Subscript o i pos) X.env v=(do
  let ov ← holding [v] (eval o X.env)
  let iv ← holding [v,ov] (eval i X.env)
  standAt pos
  holding [v,ov,iv] (setItem ov iv v)
  release [v,ov,iv] []):=by intro _;rfl):PG X (.Subscript o i pos) (yH to ti t):=by
 intro pins s σ H v u Q I r h
 rw [ha]
 refine wpAny_bind (wpAny_holding (thn (ho pins s σ H _ I h) fun ov s1 ⟨x,H1,I1,r1,q1⟩=>?_))
 refine wpAny_bind (wpAny_holding (thn (hi pins s1 σ H1 _ I1 q1) fun iv s2 ⟨y,H2,I2,r2,q2⟩=>?_))
 refine wpAny_bind (wpAny_standAt (wpAny_bind (wpAny_holding (thn (hs pins s2 σ H2 x y v ov iv u _ I2 r1 r2 r q2) fun _ s3 ⟨H3,I3,q3⟩=>?_))))
 exact wpAny_release ⟨σ,H3,I3,q3⟩
noncomputable def QF (te:TE) (g:TG):TS:=fun D σ H=>te σ H fun x H1=>g x σ H1 D.nx
theorem Cd {tg e:Expr} {te:TE} {g:TG} (he:PE X e te) (hg:PG X tg g) (hs:swapsWithSole [tg] e pos.line X.env=pure false:=by rfl) (hw:swappedStores [tg] e X.env=pure none:=by rfl)
 (h1:(assignEach [tg] X.env).map (·.2)=[assign tg X.env]:=by rfl):PS X (.Assign [tg] e pos) (QF te g):=by
 intro pins s σ H D I h
 refine wpAny_Assign_stores (thn (he pins s σ H _ I h) fun v s1 ⟨x,H1,I1,r1,q1⟩=>?_) hs hw
 rw [h1]
 exact thn (hg pins s1 σ H1 x v _ I1 r1 q1) fun _ s2 q=>q
theorem Ce {i:Nat} {x:Str} {e:Expr} {te:TE} {pos':Pos} (hN:X.N.Nodup) (hi:X.N[i]? = some x) (hx:Loc X.env.scope x) (he:PE X e te) (hs:swapsWith e (some (.Name x pos')) pos.line X.env=pure false:=by rfl) (hf:X.fn x=true∨X.env.scope.names.lookup x=some .local:=by first | exact .inl rfl | exact .inr rfl | assumption) :
 PS X (.Assign [.Name x pos'] e pos) (QF te (Ig i)):=by
 intro pins s σ H D I h
 refine wpAny_Assign_Name (thn (he pins s σ H _ I h) fun v s1 ⟨y,H1,I1,r1,q1⟩=>?_) hs
 exact Af I1 hN hi hx r1 (fun s2 I2=>⟨_,H1,I2,q1⟩) hf
end
section
variable {X:Cx} {pos:Pos}
end
structure It where
 go:Nat→Hp→Prop
 yld:Nat→Hp→V→Hp→Prop
 stop:Nat→Hp→Prop
noncomputable def uz (X:Cx) (pins:List (Addr × Obj)) (H:Hp) (b:Addr):Prop :=
 H b=none∧b ≠ X.env.locals∧b ∉ X.fs∧(b ∈ X.ex∨X.s₀.heap.objs.size ≤ b)∧(∀ x c,X.env.cells.lookup x=some c→c ≠ b)∧∀ p ∈ X.pn++pins,p.1 ≠ b
theorem Inv.fpOk {X:Cx} {pins:List (Addr × Obj)} {σ:St} {H H':Hp} {s:Shared} {b:Addr} (I:Inv X pins σ H s) (hb:s.heap.objs.size ≤ b) (hn:H' b=none):uz X pins H' b:=by
 refine ⟨hn,Nat.ne_of_gt (bY I.lt hb),I.nofs hb,.inr (bV I.sz hb),fun x c e z=>?_,fun p hp z=>?_⟩
 ·obtain ⟨v,q⟩:=I.cell x c e
  exact absurd (bY q.lt (by rw [z];exact hb)) (iU _)
 ·exact absurd (bY (Heap.lt_size (I.pin p hp).1) (by rw [z];exact hb)) (iU _)
structure Turn (P:Program) (w:World) (K:PySem.W.Frag) (tg:Expr) (J:It) (fp:List Addr) (it:Addr) (tn:Nat→Heap→Prop):Prop where
 mem:it ∈ fp
 obj:∀ i h,tn i h→∀ b ∈ fp,∃ o,h.get? b=some o∧∀ v,o.data ≠ .cell v
 keep:∀ i h h',tn i h→(∀ b ∈ fp,∀ o,h.get? b=some o→h'.get? b=some o)→tn i h'
 item:∀ (X:Cx),X.prog=P→X.w=w→X.K=K→X.calm=true→∀ (i:Nat) (pins:List (Addr × Obj)) (s:Shared) (σ:St) (H:Hp) (E:Value→Shared→Prop),Inv X pins σ H s→(∀ b ∈ fp,uz X pins H b)→tn i s.heap→J.go i H →
  wpAny (model P w) X.A (pyNext (.ref it)) (fun r s1=>∃ u,r=some u ∧
   wpAny (model P w) X.A (letOwnedTupleGo tg (.ref it) u) (fun _ s2=>∃ x H',Inv X pins σ H' s2∧RelV x u∧J.yld i H x H'∧tn (i + 1) s2.heap∧∀ b ∈ fp,H' b=none) E s1) E s
 done:∀ (X:Cx),X.prog=P→X.w=w→X.K=K→X.calm=true→∀ (i:Nat) (pins:List (Addr × Obj)) (s:Shared) (σ:St) (H:Hp) (E:Value→Shared→Prop),Inv X pins σ H s→(∀ b ∈ fp,uz X pins H b)→tn i s.heap→J.stop i H →
  wpAny (model P w) X.A (pyNext (.ref it)) (fun r s1=>r=none∧Inv X pins σ H s1) E s
 self:∀ (A:Around) (i:Nat) (s:Shared) (Q:Value→Shared→Prop) (E:Value→Shared→Prop),tn i s.heap→Q (.ref it) s→wpAny (model P w) A (pyIter (.ref it)) Q E s
noncomputable abbrev TI:=St→Hp→(It→Hp→Prop)→Prop
noncomputable def PIE (X:Cx) (pins:List (Addr × Obj)) (σ:St) (tg:Expr) (R:It→Hp→Prop) (itv:Value) (s2:Shared):Prop :=
 ∃ (it:Addr) (fp:List Addr) (tn:Nat→Heap→Prop) (J:It) (H':Hp),itv = .ref it∧Inv X pins σ H' s2∧Turn X.prog X.w X.K tg J fp it tn∧tn 0 s2.heap∧(∀ b ∈ fp,uz X pins H' b)∧R J H'
noncomputable def PI (X:Cx) (tg iter:Expr) (wi:TI):Prop :=
 ∀ (pins:List (Addr × Obj)) (s:Shared) (σ:St) (H:Hp) (R:It→Hp→Prop),Inv X pins σ H s→wi σ H R →
  wpAny (model X.prog X.w) X.A (eval iter X.env) (fun v s1=>wpAny (model X.prog X.w) X.A (pyIter v) (PIE X pins σ tg R) X.xe s1) X.xe s
theorem Ij {M:Model} {A:Around} {E:Value→Shared→Prop} {s:Shared} {tg:Expr} {it:Addr} {u:Value} {o:Obj} {n:String} {vs:Array Value} {Q:Unit→Shared→Prop} (ho:s.heap.get? it=some o) (hc:o.cls = .type n) (hd:o.data = .fields vs)
 (hn:["enumerate", "zip", "dict_itemiterator", "dict_reverseitemiterator", "odict_iterator", "itertools.zip_longest", "itertools.pairwise"].contains n=false) (hQ:Q () s):wpAny M A (letOwnedTupleGo tg (.ref it) u) Q E s:=by
 unfold letOwnedTupleGo
 cases tg <;> first
  | exact wpAny_pure hQ
  | (cases u <;> first
   | exact wpAny_pure hQ
   | (refine wpAny_bind (wpAny_load ho ?_)
      rw [hc,hd]
      show wpAny M A (if (["enumerate", "zip", "dict_itemiterator", "dict_reverseitemiterator", "odict_iterator", "itertools.zip_longest", "itertools.pairwise"].contains n && vs[0]? == some (rawInt _))=true then _ else _) Q E s
      rw [if_neg (by intro h;rw [hn,iw] at h;cases h)]
      exact wpAny_pure hQ))
noncomputable def Itl (K:PySem.W.Frag) (a:Addr):It :=
 ⟨fun i H=>∃ xs x,SqL K H a xs∧xs[i]? = some x,fun i H x H'=>H'=H∧∀ xs,SqL K H a xs→xs[i]? = some x,fun i H=>∃ xs,SqL K H a xs∧xs.length ≤ i⟩
noncomputable def Itt (K:PySem.W.Frag) (a:Addr):It :=
 ⟨fun i H=>∃ xs x,SqT K H a xs∧xs[i]? = some x,fun i H x H'=>H'=H∧∀ xs,SqT K H a xs→xs[i]? = some x,fun i H=>∃ xs,SqT K H a xs∧xs.length ≤ i⟩
noncomputable def Itr (lo:Int) (n:Nat):It:=⟨fun i _=>i < n,fun i H x H'=>H'=H∧x = .int (lo + i),fun i _=>n ≤ i⟩
theorem Gs {P:Program} {w:World} {K:PySem.W.Frag} {tg:Expr} (a it:Addr):Turn P w K tg (Itl K a) [it] it (fun i h=>h.IsListIter it a i) where
 mem:=by simp
 obj:=fun i h st b hb=>by
  have e:b=it:=by simpa using hb
  subst e
  obtain ⟨o,e,c,d⟩:=st
  exact ⟨o,e,fun v z=>by rw [d] at z;cases z⟩
 keep:=fun i h h' st k=>st.at fun o e=>k it (by simp) o e
 item:=by
  intro X hP hw hK hc i pins s σ H E I hf st hg
  subst hP hw hK
  obtain ⟨xs,x,hq,hx⟩:=hg
  obtain ⟨its,rv,p,hz⟩:=I.list hq
  obtain ⟨u,hu,ru⟩:=rv.get hx
  obtain ⟨f0,f1,f2,f3,f4,f5⟩:=hf it (by simp)
  refine wpAny_pyNext_list_item st p.isList (x:=u) (by simpa using hu) fun h' st' sb=>?_
  have I1:Inv X pins σ H { s with heap:=h' }:=I.turned (t':=s.toks) (fun b o hb e=>(sb.2 b hb).trans e) f0 f1 f3 f4 f5
  obtain ⟨o,e,c,d⟩:=id st'
  exact ⟨u,rfl,Ij (s:={ s with heap:=h' }) e c d (by decide) ⟨x,H,I1,ru,⟨rfl,fun ys hy=>by rw [I.list_inj hy hq];exact hx⟩,st',fun b hb=>(hf b hb).1⟩⟩
 done:=by
  intro X hP hw hK hc i pins s σ H E I hf st hg
  subst hP hw hK
  obtain ⟨xs,hq,hx⟩:=hg
  obtain ⟨its,rv,p,hz⟩:=I.list hq
  obtain ⟨f0,f1,f2,f3,f4,f5⟩:=hf it (by simp)
  have hl:=rv.length
  exact wpAny_pyNext_list_end (I.ok.hd hc) st p.isList (by simp;omega) fun h' eb=>⟨rfl,I.turned (t':=s.toks) (fun b o hb e=>eb b o hb e) f0 f1 f3 f4 f5⟩
 self:=fun _ _ _ _ _ st h=>wpAny_pyIter_listiter st h
theorem Cg {P:Program} {w:World} {K:PySem.W.Frag} {tg:Expr} (a it:Addr):Turn P w K tg (Itt K a) [it] it (fun i h=>h.IsTupleIter it a i) where
 mem:=by simp
 obj:=fun i h st b hb=>by
  have e:b=it:=by simpa using hb
  subst e
  obtain ⟨o,e,c,d⟩:=st
  exact ⟨o,e,fun v z=>by rw [d] at z;cases z⟩
 keep:=fun i h h' st k=>st.at fun o e=>k it (by simp) o e
 item:=by
  intro X hP hw hK hc i pins s σ H E I hf st hg
  subst hP hw hK
  obtain ⟨xs,x,hq,hx⟩:=hg
  obtain ⟨its,rv,p,hz⟩:=I.tuple hq
  obtain ⟨u,hu,ru⟩:=rv.get hx
  obtain ⟨f0,f1,f2,f3,f4,f5⟩:=hf it (by simp)
  refine wpAny_pyNext_tuple_item st (show s.heap.IsTuple a its.toArray from p) (x:=u) (by simpa using hu) fun h' st' sb=>?_
  have I1:Inv X pins σ H { s with heap:=h' }:=I.turned (t':=s.toks) (fun b o hb e=>(sb.2 b hb).trans e) f0 f1 f3 f4 f5
  obtain ⟨o,e,c,d⟩:=id st'
  exact ⟨u,rfl,Ij (s:={ s with heap:=h' }) e c d (by decide) ⟨x,H,I1,ru,⟨rfl,fun ys hy=>by rw [I.tuple_inj hy hq];exact hx⟩,st',fun b hb=>(hf b hb).1⟩⟩
 done:=by
  intro X hP hw hK hc i pins s σ H E I hf st hg
  subst hP hw hK
  obtain ⟨xs,hq,hx⟩:=hg
  obtain ⟨its,rv,p,hz⟩:=I.tuple hq
  obtain ⟨f0,f1,f2,f3,f4,f5⟩:=hf it (by simp)
  have hl:=rv.length
  exact wpAny_pyNext_tuple_end (I.ok.hd hc) st (show s.heap.IsTuple a its.toArray from p) (by simp;omega) fun h' eb=>⟨rfl,I.turned (t':=s.toks) (fun b o hb e=>eb b o hb e) f0 f1 f3 f4 f5⟩
 self:=fun _ _ _ _ _ st h=>wpAny_pyIter_tupleiter st h
theorem Ci {P:Program} {w:World} {K:PySem.W.Frag} {tg:Expr} (it:Addr) (lo:Int) (n:Nat):Turn P w K tg (Itr lo n) [it] it (fun i h=>IsRangeIter h it (lo + (i:Nat) * 1) ((n:Int) - (i:Nat)) 1) where
 mem:=by simp
 obj:=fun i h st b hb=>by
  have e:b=it:=by simpa using hb
  subst e
  exact ⟨_,st,fun v z=>by
   have z':Data.fields _=Data.cell v:=z
   cases z'⟩
 keep:=fun i h h' st k=>k it (by simp) _ st
 item:=by
  intro X hP hw hK hc i pins s σ H E I hf st hg
  subst hP hw hK
  obtain ⟨f0,f1,f2,f3,f4,f5⟩:=hf it (by simp)
  have W:=Walks.range (prog:=X.prog) (w:=X.w) (I.ok.hd hc) it lo 1 n
  refine W.item i s _ _ hg st fun v h' tk hv st' kk=>?_
  obtain ⟨t,rfl⟩:=hv
  have I1:Inv X pins σ H { s with heap:=h',toks:=tk }:=I.turned (fun b o hb e=>kk b o (by simpa using hb) e) f0 f1 f3 f4 f5
  refine ⟨_,rfl,Ij (s:={ s with heap:=h',toks:=tk }) (n := "range_iterator") st' rfl rfl (by decide) ⟨.int (lo + i),H,I1,⟨t,?_⟩,⟨rfl,rfl⟩,st',fun b hb=>(hf b hb).1⟩⟩
  rw [Int.mul_one]
 done:=by
  intro X hP hw hK hc i pins s σ H E I hf st hg
  subst hP hw hK
  obtain ⟨f0,f1,f2,f3,f4,f5⟩:=hf it (by simp)
  exact wpAny_pyNext_range_end (I.ok.hd hc) st (by have:n ≤ i:=hg;omega) fun h' eb=>⟨rfl,I.turned (t':=s.toks) (fun b o hb e=>eb b o hb e) f0 f1 f3 f4 f5⟩
 self:=fun _ _ _ _ _ st h=>wpAny_pyIter_rangeiter st h
end L2
namespace L2
open PySem PySem.Spec PyProof.Rows
section
variable {X:Cx} {tg:Expr}
noncomputable def Uu (K:PySem.W.Frag) (tl:TE):TI:=fun σ H R=>tl σ H fun x H1=>∃ a,x = .ref a∧(∃ xs,SqL K H1 a xs)∧R (Itl K a) H1
noncomputable def W7 (K:PySem.W.Frag) (tl:TE):TI:=fun σ H R=>tl σ H fun x H1=>∃ a,x = .ref a∧(∃ xs,SqT K H1 a xs)∧R (Itt K a) H1
theorem D_ {l:Expr} {tl:TE} (hl:PE X l tl):PI X tg l (Uu X.K tl):=by
 intro pins s σ H R I h
 refine thn (hl pins s σ H _ I h) fun v s1 ⟨x,H1,I1,r1,q1⟩=>?_
 obtain ⟨a,e,⟨xs,hq⟩,q⟩:=q1
 subst e
 cases r1
 obtain ⟨its,rv,p,hz⟩:=I1.list hq
 refine wpAny_pyIter_list p.isList ?_
 refine ⟨s1.heap.objs.size,[s1.heap.objs.size],_,_,H1,rfl,I1.kept (t':=s1.toks) fun b o e=>Heap.get?_push_of_some _ e,Gs a _,⟨_,Heap.get?_push_size _ rfl,rfl,rfl⟩,fun b hb=>?_,q⟩
 have e:b=s1.heap.objs.size:=by simpa using hb
 subst e
 exact I1.fpOk (aQ _) (I1.hok.fresh (aQ _))
theorem QG {l:Expr} {tl:TE} (hl:PE X l tl):PI X tg l (W7 X.K tl):=by
 intro pins s σ H R I h
 refine thn (hl pins s σ H _ I h) fun v s1 ⟨x,H1,I1,r1,q1⟩=>?_
 obtain ⟨a,e,⟨xs,hq⟩,q⟩:=q1
 subst e
 cases r1
 obtain ⟨its,rv,p,hz⟩:=I1.tuple hq
 refine wpAny_pyIter_tuple (show s1.heap.IsTuple a its.toArray from p) ?_
 refine ⟨s1.heap.objs.size,[s1.heap.objs.size],_,_,H1,rfl,I1.kept (t':=s1.toks) fun b o e=>Heap.get?_push_of_some _ e,Cg a _,⟨_,Heap.get?_push_size _ rfl,rfl,rfl⟩,fun b hb=>?_,q⟩
 have e:b=s1.heap.objs.size:=by simpa using hb
 subst e
 exact I1.fpOk (aQ _) (I1.hok.fresh (aQ _))
theorem Ik {pins:List (Addr × Obj)} {σ:St} {H:Hp} {s:Shared} {R:It→Hp→Prop} {E:Value→Shared→Prop} {lo hi:Int} {t u v:Tok} {tk:Nat} (I:Inv X pins σ H s) (h1 : -(2 ^ 62) ≤ lo) (h2:lo < 2 ^ 62) (h3 : -(2 ^ 62) ≤ hi) (h4:hi < 2 ^ 62)
 (q:R (Itr lo (hi - lo).toNat) H):wpAny (model X.prog X.w) X.A (pyIter (.ref s.heap.objs.size)) (PIE X pins σ tg R) E { s with heap:=s.heap.push { cls:=.type "range", data:=.fields #[.int lo t,.int hi u,.int 1 v] },toks:=tk }:=by
 refine wpAny_pyIter_range (IsRange.new ..) (small_one h1 h2 h3 h4) ?_
 have I1:Inv X pins σ H { s with heap:=s.heap.push { cls:=.type "range", data:=.fields #[.int lo t,.int hi u,.int 1 v] },toks:=tk }:=I.kept fun b o e=>Heap.get?_push_of_some _ e
 refine ⟨(s.heap.push { cls:=.type "range", data:=.fields #[.int lo t,.int hi u,.int 1 v] }).objs.size,[(s.heap.push { cls:=.type "range", data:=.fields #[.int lo t,.int hi u,.int 1 v] }).objs.size],_,_,H,rfl,
  I1.kept (t':=tk) fun b o e=>Heap.get?_push_of_some _ e,Ci _ lo (hi - lo).toNat,?_,fun b hb=>?_,q⟩
 ·have e1:lo + ((0:Nat):Int) * 1=lo:=by simp
  have e2:(((hi - lo).toNat:Nat):Int) - ((0:Nat):Int)=Builtin.Range.rangeSize lo hi 1:=by rw [rangeSize_one];split <;> omega
  show IsRangeIter _ _ (lo + ((0:Nat):Int) * 1) ((((hi - lo).toNat:Nat):Int) - ((0:Nat):Int)) 1
  rw [e1,e2]
  exact Heap.get?_push_size _ rfl
 ·have e:b=(s.heap.push { cls:=.type "range", data:=.fields #[.int lo t,.int hi u,.int 1 v] }).objs.size:=by simpa using hb
  subst e
  exact I1.fpOk (aQ _) (I1.hok.fresh (aQ _))
noncomputable def Uv (ta:TA):TI:=fun σ H R=>ta σ H fun vs H1=>∃ j:Int,vs=[.int j]∧-(2 ^ 62) ≤ j∧j < 2 ^ 62∧R (Itr 0 j.toNat) H1
theorem Gu {a:Expr} {ta:TA} {p pos:Pos} (hg:Gl X "range") (hm:X.mg "range" = none) (ha:PA X [a] ta) (hs:starEach [a] X.env=[(false,eval a X.env)]:=by rfl):PI X tg (.Call (.Name "range" p) [a] [] pos) (Uv ta):=by
 intro pins s σ H R I h
 refine Call_ (qb I hg hm boot_range (PyProof.Rows.callWith_type1 (thn (ha pos pins s σ H _ I h) fun us s1 ⟨vs,H1,I1,r1,q1⟩=>?_) hs rfl))
 obtain ⟨j,e,q1,q2,q⟩:=q1
 subst e
 cases r1 with
 | cons r rr =>
  cases rr
  obtain ⟨t,rfl⟩:=r
  exact call_range_1 (Ik I1 (by omega) (by omega) q1 q2 (by simpa using q))
noncomputable def W8 (wi:TI) (g:TG) (tb:TS):TS:=fun D σ H=>wi σ H fun J H1=>∃ W:Nat→Nat→St→Hp→Prop,(∃ m,W 0 m σ H1)∧∀ i m σ H,W i m σ H →
 (J.stop i H∧D.nx σ H)∨(J.go i H∧∃ N:St→Hp→Prop,(∀ σ' H',N σ' H'→∃ m',m' < m∧W (i + 1) m' σ' H')∧∀ x H',J.yld i H x H'→g x σ H' fun σ2 H2=>tb { D with nx:=N,ct:=N,bk:=D.nx } σ2 H2)
noncomputable def vC (fp:List Addr) (h:Heap):List (Addr × Obj):=fp.filterMap fun b=>(h.get? b).map fun o=>(b,o)
theorem o_ {fp:List Addr} {h:Heap} {b:Addr} {o:Obj} (hb:b ∈ fp) (e:h.get? b=some o):(b,o) ∈ vC fp h:=fj.mpr ⟨b,hb,by rw [e];rfl⟩
theorem Gv {fp:List Addr} {h:Heap} {p:Addr × Obj} (hp:p ∈ vC fp h):p.1 ∈ fp∧h.get? p.1=some p.2:=by
 obtain ⟨b,hb,e⟩:=fj.mp hp
 cases q:h.get? b with
 | none=>rw [q] at e;cases e
 | some o =>
  rw [q] at e
  have e':(b,o)=p:=fO.inj e
  subst e'
  exact ⟨hb,q⟩
theorem Inv.pinned {pins:List (Addr × Obj)} {σ:St} {H:Hp} {s:Shared} {fp:List Addr} (I:Inv X pins σ H s) (hf:∀ b ∈ fp,uz X pins H b) (ho:∀ b ∈ fp,∃ o,s.heap.get? b=some o∧∀ v,o.data ≠ .cell v):Inv X (pins++vC fp s.heap) σ H s :=
 I.pins_of fun p hp=>(bW.mp hp).elim (fun z=>I.pin p (bL _ z)) fun z=>by
  obtain ⟨hb,e⟩:=Gv z
  obtain ⟨f0,f1,f2,_⟩:=hf p.1 hb
  obtain ⟨o,e',d⟩:=ho p.1 hb
  rw [e] at e';cases e'
  exact ⟨e,f0,f1,f2,d⟩
theorem Inv.unpinned {pins pl:List (Addr × Obj)} {σ:St} {H:Hp} {s:Shared} (I:Inv X (pins++pl) σ H s):Inv X pins σ H s:=I.pins_of fun p hp=>I.pin p (bL _ (cV _ hp))
theorem QH {iter:Expr} {body:List Stmt} {wi:TI} {g:TG} {tb:TS} {pos:Pos} (hp:PassesOwn (model X.prog X.w) X.A X.env X.xe) (hc:X.calm=true) (hi:PI X tg iter wi) (hg:PG X tg g) (hb:PSs X body tb)
 (hs:∀ x,foldedSetIterable iter X.env x=pure x:=by intro _;rfl):PS X (.For tg iter body [] pos) (W8 wi g tb):=by
 intro pins s σ H D I h
 refine wpAny_For (thn (hi pins s σ H _ I h) fun v s1 h1=>thn h1 fun itv s2 h2=>?_) hs
 obtain ⟨it,fp,tn,J,H2,e,I2,T,st2,f2,W,⟨m0,w0⟩,turn⟩:=h2
 subst e
 have stat:∀ {H':Hp},(∀ b ∈ fp,H' b=none)→∀ b ∈ fp,uz X pins H' b:=fun hn b hb=>⟨hn b hb,(f2 b hb).2⟩
 refine codeAny_forLoop_any (fun n s'=>∃ i σ' H',Inv X pins σ' H' s'∧tn i s'.heap∧(∀ b ∈ fp,H' b=none)∧W i n σ' H') ?_ m0 ⟨0,σ,H2,I2,st2,fun b hb=>(f2 b hb).1,w0⟩
 rintro n s3 ⟨i,σ3,H3,I3,st3,fr3,w3⟩
 rcases turn i n σ3 H3 w3 with ⟨stop,qn⟩ | ⟨go,N,hN,step⟩
 ·refine wpAny_passesOwn hp (thn (T.done X rfl rfl rfl hc i pins s3 σ3 H3 X.xe I3 (stat fr3) st3 stop) fun r s4 ⟨hr,I4⟩=>?_)
  subst hr
  exact wpAny_execs_nil ⟨σ3,H3,I4,qn⟩
 ·refine wpAny_passesOwn hp (thn (T.item X rfl rfl rfl hc i pins s3 σ3 H3 X.xe I3 (stat fr3) st3 go) fun r s4 ⟨u,hr,h4⟩=>?_)
  subst hr
  refine wpAny_passesOwn hp (thn h4 fun _ s5 ⟨x,H5,I5,r5,y5,st5,fr5⟩=>?_)
  have I5':=I5.pinned (stat fr5) (T.obj _ _ st5)
  refine wpAny_passesOwn hp (thn (hg _ s5 σ3 H5 x u _ I5' r5 (step x H5 y5)) fun _ s6 ⟨σ6,H6,I6,q6⟩=>?_)
  refine wpAny_passesOwn hp (thn (hb _ s6 σ6 H6 _ I6 q6) fun f s7 q7=>?_)
  have again:∀ {σ7:St} {H7:Hp},Inv X (pins++vC fp s5.heap) σ7 H7 s7→N σ7 H7→∃ m,m < n∧∃ i σ' H',Inv X pins σ' H' s7∧tn i s7.heap∧(∀ b ∈ fp,H' b=none)∧W i m σ' H':=fun {σ7 H7} I7 n7=>by
   obtain ⟨m',hm,w7⟩:=hN σ7 H7 n7
   refine ⟨m',hm,i + 1,σ7,H7,I7.unpinned,T.keep _ _ _ st5 fun b hb o e=>(I7.pin (b,o) (bL _ (bL _ (o_ hb e)))).1,fun b hb=>?_,w7⟩
   obtain ⟨o,e,d⟩:=T.obj _ _ st5 b hb
   exact (I7.pin (b,o) (bL _ (bL _ (o_ hb e)))).2.1
  cases f with
  | next=>obtain ⟨σ7,H7,I7,n7⟩:=q7;exact again I7 n7
  | cont=>obtain ⟨σ7,H7,I7,n7⟩:=q7;exact again I7 n7
  | brk=>obtain ⟨σ7,H7,I7,q7⟩:=q7;exact ⟨σ7,H7,I7.unpinned,q7⟩
  | ret v=>obtain ⟨x7,σ7,H7,I7,r7,q7⟩:=q7;exact ⟨x7,σ7,H7,I7.unpinned,r7,q7⟩
end
end L2
namespace L2
open PySem PySem.Spec PyProof.Rows
noncomputable abbrev R2:=V→V→Hp→VK→Prop
noncomputable def OpR (X:Cx) (f:Value→Value→Sem Value) (r:R2):Prop :=
 ∀ (pins:List (Addr × Obj)) (s:Shared) (σ:St) (H:Hp) (x y:V) (v u:Value) (Q:VK),Inv X pins σ H s→RelV x v→RelV y u→r x y H Q →
  wpAny (model X.prog X.w) X.A (f v u) (EP X pins σ Q) X.xe s
noncomputable def UnR (X:Cx) (f:Value→Sem Value) (r:V→Hp→VK→Prop):Prop :=
 ∀ (pins:List (Addr × Obj)) (s:Shared) (σ:St) (H:Hp) (x:V) (v:Value) (Q:VK),Inv X pins σ H s→RelV x v→r x H Q →
  wpAny (model X.prog X.w) X.A (f v) (EP X pins σ Q) X.xe s
noncomputable def nq (X:Cx) (f:Value) (r:List V→Hp→VK→Prop):Prop :=
 ∀ (pins:List (Addr × Obj)) (s:Shared) (σ:St) (H:Hp) (xs:List V) (us:List Value) (Q:VK),Inv X pins σ H s→Vals xs us→r xs H Q →
  wpAny (model X.prog X.w) X.A (call f us) (EP X pins σ Q) X.xe s
noncomputable def tOp (r:R2) (ta tb:TE):TE:=fun σ H Q=>ta σ H fun x H1=>tb σ H1 fun y H2=>r x y H2 Q
noncomputable def tUn (r:V→Hp→VK→Prop) (ta:TE):TE:=fun σ H Q=>ta σ H fun x H1=>r x H1 Q
noncomputable def rI (C:Int→Int→Prop) (g:Int→Int→V):R2:=fun x y H Q=>∃ i j,x = .int i∧y = .int j∧C i j∧Q (g i j) H
noncomputable def rI0 (g:Int→Int→V):R2:=fun x y H Q=>∃ i j,x = .int i∧y = .int j∧Q (g i j) H
noncomputable def rU (g:Int→V):V→Hp→VK→Prop:=fun x H Q=>∃ i,x = .int i∧Q (g i) H
section
variable {X:Cx} {a b c:Expr} {ta tb tc:TE} {pos:Pos}
theorem QJ (ha:PE X a ta) (hb:PE X b tb) {pins:List (Addr × Obj)} {s:Shared} {σ:St} {H:Hp} {R:V→V→Hp→Prop} (I:Inv X pins σ H s)
 (h:ta σ H fun x H1=>tb σ H1 fun y H2=>R x y H2) {Q:Value→Shared→Prop} {f:Value→Value→Sem Value}
 (hf:∀ v u s2 x y H2,Inv X pins σ H2 s2→RelV x v→RelV y u→R x y H2→wpAny (model X.prog X.w) X.A (f v u) Q X.xe s2) :
 wpAny (model X.prog X.w) X.A (eval a X.env) (fun v s₁=>wpAny (model X.prog X.w) X.A (eval b X.env) (fun u s₂=>wpAny (model X.prog X.w) X.A (f v u) Q X.xe s₂) X.xe s₁) X.xe s:=by
 refine thn (ha pins s σ H _ I h) fun v s1 ⟨x,H1,I1,r1,q1⟩=>?_
 refine thn (hb pins s1 σ H1 _ I1 q1) fun u s2 ⟨y,H2,I2,r2,q2⟩=>?_
 exact hf v u s2 x y H2 I2 r1 r2 q2
theorem Il {op:Operator} {r:R2} (ho:OpR X (binaryOp op) r) (ha:PE X a ta) (hb:PE X b tb):PE X (.BinOp a op b pos) (tOp r ta tb):=by
 intro pins s σ H Q I h
 exact wpAny_BinOp (QJ ha hb I h fun v u s2 x y H2 I2 rx ry q=>ho pins s2 σ H2 x y v u Q I2 rx ry q)
theorem Uw {op:UnaryOp} {r:V→Hp→VK→Prop} (ho:UnR X (unaryOp op) r) (ha:PE X a ta):PE X (.UnaryOp op a pos) (tUn r ta):=by
 intro pins s σ H Q I h
 exact UnaryOp_ (thn (ha pins s σ H _ I h) fun v s1 ⟨x,H1,I1,r1,q1⟩=>ho pins s1 σ H1 x v Q I1 r1 q1)
theorem opI {f:Value→Value→Sem Value} {C:Int→Int→Prop} {g:Int→Int→Int}
 (rule:∀ (i j:Int) (t u:Tok) (s:Shared) (Q:Value→Shared→Prop) (E:Value→Shared→Prop),C i j→Q (.int (g i j) s.toks) { s with toks:=s.toks + 1 }→wpAny (model X.prog X.w) X.A (f (.int i t) (.int j u)) Q E s) :
 OpR X f (rI C fun i j=>.int (g i j)):=by
 intro pins s σ H x y v u Q I rx ry h
 obtain ⟨i,j,rfl,rfl,hc,q⟩:=h
 obtain ⟨t,rfl⟩:=rx
 obtain ⟨t',rfl⟩:=ry
 exact rule i j t t' s _ _ hc ⟨.int (g i j),H,I.tok _,⟨_,rfl⟩,q⟩
theorem Ux {f:Value→Value→Sem Value} {g:Int→Int→Int}
 (rule:∀ (i j:Int) (t u:Tok) (s:Shared) (Q:Value→Shared→Prop) (E:Value→Shared→Prop),Q (.int (g i j) s.toks) { s with toks:=s.toks + 1 }→wpAny (model X.prog X.w) X.A (f (.int i t) (.int j u)) Q E s) :
 OpR X f (rI0 fun i j=>.int (g i j)):=by
 intro pins s σ H x y v u Q I rx ry h
 obtain ⟨i,j,rfl,rfl,q⟩:=h
 obtain ⟨t,rfl⟩:=rx
 obtain ⟨t',rfl⟩:=ry
 exact rule i j t t' s _ _ ⟨.int (g i j),H,I.tok _,⟨_,rfl⟩,q⟩
theorem Lz {f:Value→Value→Sem Value} {g:Int→Int→Bool}
 (rule:∀ (i j:Int) (t u:Tok) (s:Shared) (Q:Value→Shared→Prop) (E:Value→Shared→Prop),Q (.bool (g i j)) s→wpAny (model X.prog X.w) X.A (f (.int i t) (.int j u)) Q E s) :
 OpR X f (rI0 fun i j=>.bl (g i j)):=by
 intro pins s σ H x y v u Q I rx ry h
 obtain ⟨i,j,rfl,rfl,q⟩:=h
 obtain ⟨t,rfl⟩:=rx
 obtain ⟨t',rfl⟩:=ry
 exact rule i j t t' s _ _ ⟨.bl (g i j),H,I,rfl,q⟩
noncomputable def QK (i j:Int):Prop:=0 ≤ j∧j ≤ 1000000∧i.natAbs < 2 ^ 64
theorem gR:OpR X (binaryOp .Add) (rI0 fun i j=>.int (i + j)):=Ux fun _ _ _ _ _ _ _ q=>add_int q
theorem Cj:OpR X (binaryOp .Sub) (rI0 fun i j=>.int (i - j)):=Ux fun _ _ _ _ _ _ _ q=>sub_int q
theorem mV:OpR X (binaryOp .Mod) (rI (fun _ j=>j ≠ 0) fun i j=>.int (i.fmod j)):=opI fun _ _ _ _ _ _ _ hc q=>mod_int' hc q
theorem QL:OpR X (binaryOp .Pow) (rI QK fun i j=>.int (i ^ j.toNat)):=opI fun _ _ _ _ _ _ _ hc q=>pow_int_small hc.1 hc.2.1 hc.2.2 q
theorem unI {f:Value→Sem Value} {g:Int→Int}
 (rule:∀ (i:Int) (t:Tok) (s:Shared) (Q:Value→Shared→Prop) (E:Value→Shared→Prop),Q (.int (g i) s.toks) { s with toks:=s.toks + 1 }→wpAny (model X.prog X.w) X.A (f (.int i t)) Q E s) :
 UnR X f (rU fun i=>.int (g i)):=by
 intro pins s σ H x v Q I rx h
 obtain ⟨i,rfl,q⟩:=h
 obtain ⟨t,rfl⟩:=rx
 exact rule i t s _ _ ⟨.int (g i),H,I.tok _,⟨_,rfl⟩,q⟩
theorem QM:UnR X (unaryOp .USub) (rU fun i=>.int (-i)):=unI fun _ _ _ _ _ q=>neg_int q
end
section
variable {X:Cx} {a b c:Expr} {ta tb tc:TE} {pos:Pos}
theorem kO:OpR X (compareOp .Lt) (rI0 fun i j=>.bl (decide (i < j))):=Lz fun _ _ _ _ _ _ _ q=>lt_int q
theorem rW:OpR X (compareOp .LtE) (rI0 fun i j=>.bl (decide (i ≤ j))):=Lz fun _ _ _ _ _ _ _ q=>le_int q
theorem vD:OpR X (compareOp .Gt) (rI0 fun i j=>.bl (decide (j < i))):=Lz fun _ _ _ _ _ _ _ q=>gt_int q
theorem Im:OpR X (compareOp .GtE) (rI0 fun i j=>.bl (decide (j ≤ i))):=Lz fun _ _ _ _ _ _ _ q=>ge_int q
theorem cG (b:Expr) {op:CmpOp} (h:op ≠ .In:=by decide) (h2:op ≠ .NotIn:=by decide):behindInMarks op b=false:=by
 have e1:(op == CmpOp.In)=false:=by cases op <;> first | rfl | exact absurd rfl h
 have e2:(op == CmpOp.NotIn)=false:=by cases op <;> first | rfl | exact absurd rfl h2
 cases b <;> simp [behindInMarks,e1,e2]
theorem LC {op:CmpOp} {r:R2} (ho:OpR X (compareOp op) r) (ha:PE X a ta) (hb:PE X b tb) (hm:behindInMarks op b=false):PE X (.Compare a [op] [b] pos) (tOp r ta tb):=by
 intro pins s σ H Q I h
 exact wpAny_Compare1 (QJ ha hb I h fun v u s2 x y H2 I2 rx ry q=>ho pins s2 σ H2 x y v u Q I2 rx ry q) hm
noncomputable def Py (t:TE):TT:=fun σ H Q=>t σ H fun x H'=>∃ k,x = .bl k∧Q k H'
theorem LK {op:CmpOp} {r:R2} (ho:OpR X (compareOp op) r) (ha:PE X a ta) (hb:PE X b tb) (hm:behindInMarks op b=false):PT X (.Compare a [op] [b] pos) (Py (tOp r ta tb)):=by
 intro pins s σ H Q I h
 refine wpAny_isTrue_Compare1 (thn (ha pins s σ H _ I h) fun v s1 ⟨x,H1,I1,r1,q1⟩=>thn (hb pins s1 σ H1 _ I1 q1) fun u s2 ⟨y,H2,I2,r2,q2⟩ =>
  thn (ho pins s2 σ H2 x y v u _ I2 r1 r2 q2) fun c s3 ⟨z,H3,I3,r3,k,e,q3⟩=>?_) hm
 subst e
 cases r3
 exact wpAny_truthy_bool ⟨H3,I3,q3⟩
noncomputable def Io (r r':R2) (ta tb tc:TE):TE:=fun σ H Q=>ta σ H fun x H1=>tb σ H1 fun y H2=>r x y H2 fun z H3=>∃ k,z = .bl k ∧
 (if k=true then tc σ H3 fun w' H4=>r' y w' H4 Q else Q (.bl false) H3)
theorem Ip {op op':CmpOp} {r r':R2} (ho:OpR X (compareOp op) r) (ho':OpR X (compareOp op') r') (ha:PE X a ta) (hb:PE X b tb) (hc:PE X c tc)
 (hm:lastMarks [op,op'] [b,c]=false:=by with_unfolding_all rfl):PE X (.Compare a [op,op'] [b,c] pos) (Io r r' ta tb tc):=by
 intro pins s σ H Q I h
 refine Compare_chain (thn (ha pins s σ H _ I h) fun v s1 ⟨x,H1,I1,r1,q1⟩=>chain_link (thn (hb pins s1 σ H1 _ I1 q1) fun u s2 ⟨y,H2,I2,r2,q2⟩ =>
  thn (ho pins s2 σ H2 x y v u _ I2 r1 r2 q2) fun d s3 ⟨z,H3,I3,r3,k,e,q3⟩=>?_)) hm
 subst e
 cases r3
 refine wpAny_truthy_bool ?_
 cases k with
 | false=>exact ite_ff ⟨.bl false,H3,I3,rfl,q3⟩
 | true=>exact ite_tt (chain_last (thn (hc pins s3 σ H3 _ I3 q3) fun w' s4 ⟨z',H4,I4,r4,q4⟩=>ho' pins s4 σ H4 y z' u w' Q I4 r2 r4 q4))
theorem Ir {op op':CmpOp} {r r':R2} (ho:OpR X (compareOp op) r) (ho':OpR X (compareOp op') r') (ha:PE X a ta) (hb:PE X b tb) (hc:PE X c tc)
 (hm:lastMarks [op,op'] [b,c]=false:=by with_unfolding_all rfl):PT X (.Compare a [op,op'] [b,c] pos) (Py (Io r r' ta tb tc)):=by
 intro pins s σ H Q I h
 refine isTrue_chain (thn (ha pins s σ H _ I h) fun v s1 ⟨x,H1,I1,r1,q1⟩=>test_link (thn (hb pins s1 σ H1 _ I1 q1) fun u s2 ⟨y,H2,I2,r2,q2⟩ =>
  thn (ho pins s2 σ H2 x y v u _ I2 r1 r2 q2) fun d s3 ⟨z,H3,I3,r3,k,e,q3⟩=>?_)) hm
 subst e
 cases r3
 refine wpAny_truthy_bool ?_
 cases k with
 | false =>
  obtain ⟨k',e',q'⟩:=q3
  cases e'
  exact ite_ff ⟨H3,I3,q'⟩
 | true =>
  refine ite_tt (test_last (thn (hc pins s3 σ H3 _ I3 q3) fun w' s4 ⟨z',H4,I4,r4,q4⟩=>thn (ho' pins s4 σ H4 y z' u w' _ I4 r2 r4 q4) fun d' s5 ⟨z2,H5,I5,r5,k2,e2,q5⟩=>?_))
  subst e2
  cases r5
  exact wpAny_truthy_bool ⟨H5,I5,q5⟩
theorem vG:(sizeLine:Nat) < 2 ^ 63:=by rw [sizeLine_eq];decide
theorem vals1 {x:V} {us:List Value} (r:Vals [x] us):∃ u,us=[u]∧RelV x u:=by
 cases r with
 | cons r1 r2=>cases r2;exact ⟨_,rfl,r1⟩
theorem vals2 {x y:V} {us:List Value} (r:Vals [x,y] us):∃ u w',us=[u,w']∧RelV x u∧RelV y w':=by
 cases r with
 | cons r1 r2 =>
  cases r2 with
  | cons r3 r4=>cases r4;exact ⟨_,_,rfl,r1,r3⟩
theorem uD (hc:X.calm=true):nq X (.builtin "max") (fun xs H Q=>∃ i j,xs=[.int i,.int j]∧Q (.int (if j > i then j else i)) H):=by
 intro pins s σ H xs us Q I r h
 obtain ⟨i,j,rfl,q⟩:=h
 obtain ⟨u,w',rfl,⟨t,rfl⟩,⟨t',rfl⟩⟩:=vals2 r
 refine max_two_ints (I.ok.hd hc) fun h' tk k=>⟨_,H,I.kept k,?_,q⟩
 by_cases hj:j > i
 ·rw [if_pos hj,if_pos hj];exact ⟨_,rfl⟩
 ·rw [if_neg hj,if_neg hj];exact ⟨_,rfl⟩
theorem q_ (hc:X.calm=true):nq X (.builtin "min") (fun xs H Q=>∃ i j,xs=[.int i,.int j]∧Q (.int (if j < i then j else i)) H):=by
 intro pins s σ H xs us Q I r h
 obtain ⟨i,j,rfl,q⟩:=h
 obtain ⟨u,w',rfl,⟨t,rfl⟩,⟨t',rfl⟩⟩:=vals2 r
 refine min_two_ints (I.ok.hd hc) fun h' tk k=>⟨_,H,I.kept k,?_,q⟩
 by_cases hj:j < i
 ·rw [if_pos hj,if_pos hj];exact ⟨_,rfl⟩
 ·rw [if_neg hj,if_neg hj];exact ⟨_,rfl⟩
theorem Gw:nq X (.type "int") (fun xs H Q=>(∃ i,xs=[.int i]∧Q (.int i) H)∨∃ k,xs=[.bl k]∧Q (.int (if k then 1 else 0)) H):=by
 intro pins s σ H xs us Q I r h
 rcases h with ⟨i,rfl,q⟩ | ⟨k,rfl,q⟩
 ·obtain ⟨u,rfl,t,rfl⟩:=vals1 r
  exact call_int_int ⟨.int i,H,I,⟨_,rfl⟩,q⟩
 ·obtain ⟨u,rfl,r1⟩:=vals1 r
  cases r1
  exact call_int_bool ⟨.int (if k then 1 else 0),H,I.tok _,⟨_,rfl⟩,q⟩
end
end L2
namespace L2
open PySem PySem.Spec PyProof.Rows
structure ObjM (h:Heap) (x dx C:Addr) (mA:Str→Option Value):Prop where
 obj:h.get? x=some (PySem.W.instObj C dx)
 ns:h.Ns1 dx mA
 ne:dx ≠ x
theorem Gx {h:Heap} {dx:Addr} {mA:Str→Option Value} (n:h.Ns1 dx mA):∃ od,h.get? dx=some od∧∀ name,PySem.W.lookIn name od=some (mA name):=by
 obtain ⟨o,es,ep,ho,hd,hk,_,hm⟩:=n
 refine ⟨o,ho,fun name=>?_⟩
 have e:=hm name
 unfold nsFind findBy at e
 rw [← Array.find?_toList] at e
 unfold PySem.W.lookIn
 rw [hd]
 dsimp only
 split
 ·rename_i y q
  rw [q] at e
  exact congrArg some e
 ·rename_i q
  rw [q] at e
  have a:es.toList.any (·.refKey)=false:=by
   rw [List.any_eq_false]
   intro y hy
   obtain ⟨z,t,hkey⟩:=hk y (Array.mem_toList_iff.mp hy)
   simp [DictEntry.refKey,hkey]
  have a':¬ es.toList.any (·.refKey)=true:=by rw [a];exact aU
  rw [if_neg a']
  exact congrArg some e
theorem ObjM.look {h:Heap} {x dx C:Addr} {mA:Str→Option Value} (I:ObjM h x dx C mA):∃ od,PySem.W.InstAt h x (PySem.W.instObj C dx) C (some od)∧∀ name,PySem.W.lookIn name od=some (mA name) :=
 let ⟨od,ho,hl⟩:=Gx I.ns
 ⟨od,⟨I.obj,rfl,rfl,ho⟩,hl⟩
section
variable {prog:Program} {w:World} {A:Around} {E:Value→Shared→Prop} {s:Shared} {K:PySem.W.Frag} {x dx C f:Addr} {mA:Str→Option Value} {name:Str} {v:Value}
end
section
variable {P:Program} {w:World} {H H':Hp} {h h':Heap} {a C dx:Addr} {fs fs':List (Str × V)}
theorem LQ (hok:HOk P w H h) (e:H a=some (.ins C dx fs)):∃ mA,ObjM h a dx C mA∧(∀ f,yF (fs.lookup f) (mA f))∧PySem.Within mA (fs.map (·.1))∧fs.length ≤ 1000∧H dx=some (.own a):=by
 obtain ⟨d,z,ne,ob,mA,n,r,q⟩:=(show iI P w H h a (.ins C dx fs) from hok a _ e)
 exact ⟨mA,⟨ob,n,ne⟩,r,q,z,d⟩
end
structure Cls (K:PySem.W.Frag) (C:Addr):Prop where
 pg:PySem.W.plainGet K C Str.empty=true
 hd:PySem.W.hasDictIn K C=true
 po:PySem.W.plainOver K C=true
 sa:PySem.W.findIn K (.ref C) "__setattr__" = some (some (.builtin "object.__setattr__"))
theorem Cls.get {K:PySem.W.Frag} {C:Addr} (c:Cls K C) (f:Str):PySem.W.plainGet K C f=true:=c.pg
structure Con (K:PySem.W.Frag) (C:Addr) (f:Str) (v:V) (u:Value):Prop where
 at_:PySem.W.findIn K (.ref C) f=some (some u)
 rel:RelV v u
 get:PySem.W.specialIn K u "__get__" = some none
 cp:PySem.W.copiedNames.contains f=false
structure Meth (K:PySem.W.Frag) (C:Addr) (m:Str) (f:Addr):Prop where
 at_:PySem.W.findIn K (.ref C) m=some (some (.ref f))
 fn:PySem.W.isFn K (.ref f)=true
 kp:PySem.W.keepIn K (.ref f)=true
section
variable {X:Cx} {pins:List (Addr × Obj)} {σ:St} {H:Hp} {s:Shared} {a C dx:Addr} {fs:List (Str × V)} {f:Str} {v:V} {A:Around} {E:Value→Shared→Prop}
theorem Inv.made (I:Inv X pins σ H s):Inv X pins σ (upd (upd H s.heap.objs.size (.own (s.heap.objs.size + 1))) (s.heap.objs.size + 1) (.ins C s.heap.objs.size []))
 { s with heap:=(s.heap.push PySem.W.emptyDict).push (PySem.W.instObj C s.heap.objs.size) }:=by
 have e1:(s.heap.push PySem.W.emptyDict).get? s.heap.objs.size=some PySem.W.emptyDict:=Heap.get?_push_size s.heap rfl
 have e2:((s.heap.push PySem.W.emptyDict).push (PySem.W.instObj C s.heap.objs.size)).get? (s.heap.objs.size + 1)=some (PySem.W.instObj C s.heap.objs.size):=by
  have:=Heap.get?_push_size (s.heap.push PySem.W.emptyDict) (o:=PySem.W.instObj C s.heap.objs.size) rfl
  rwa [Heap.size_push] at this
 have e3:(s.heap.push PySem.W.emptyDict).Ns s.heap.objs.size (fun _=>none):=⟨PySem.W.emptyDict,#[],_,e1,rfl,(fun e he=>absurd he (by simp)),fun _=>rfl⟩
 have I1:=I.laid (a:=s.heap.objs.size) (o:=.own (s.heap.objs.size + 1)) (h':=s.heap.push PySem.W.emptyDict) (t':=s.toks) (fun b u q=>Heap.get?_push_of_some _ q) (aQ _) ⟨_,e1⟩
 refine I1.laid (a:=s.heap.objs.size + 1) (o:=.ins C s.heap.objs.size []) (t':=s.toks) (fun b u q=>Heap.get?_push_of_some _ q) (sV (Heap.size_push _ _)) ?_
 have ne:s.heap.objs.size ≠ s.heap.objs.size + 1:=bN (lF _)
 refine ⟨by rw [dU ne,fG],fu _,ne,e2,fun _=>none,(Heap.Ns1.of_empty e3).at fun o q=>Heap.get?_push_of_some _ q,fun _=>True.intro,fun y hy=>absurd rfl hy⟩
end
section
variable {X:Cx} {o e value:Expr} {f:Str} {pos pos' tpos:Pos} {ta tv:TE}
end
section
variable {X:Cx} {pins:List (Addr × Obj)} {σ:St} {H:Hp} {s:Shared} {A:Around} {E:Value→Shared→Prop} {Q:Value→Shared→Prop} {c:Value} {b:Bool}
inductive TyOf (K:PySem.W.Frag) (H:Hp):V→Value→Prop where
 | non:TyOf K H .non (.type "NoneType")
 | bl (x:Bool):TyOf K H (.bl x) (.type "bool")
 | int (i:Int):TyOf K H (.int i) (.type "int")
 | str (x:Str):TyOf K H (.str x) (.type "str")
 | flt (x:UInt64):TyOf K H (.flt x) (.type "float")
 | lst {a:Addr} {xs:List V} (e:H a=some (.lst xs)):TyOf K H (.ref a) (.type "list")
 | frz {a:Addr} {o:Obj} {xs:List V} (e:H a=some (.frz o (.lst xs))):TyOf K H (.ref a) (.type "list")
 | tup {a:Addr} {xs:List V} (e:H a=some (.tup xs)):TyOf K H (.ref a) (.type "tuple")
 | dK {a:Addr} {kvs:List (Key × V)} (e:H a=some (.dK kvs)):TyOf K H (.ref a) (.type "dict")
 | dT {a:Addr} {kvs:List (List Key × V)} (e:H a=some (.dT kvs)):TyOf K H (.ref a) (.type "dict")
 | ins {a C dx:Addr} {fs:List (Str × V)} (e:H a=some (.ins C dx fs)) (cl:Cls K C) (ha:PySem.W.findIn K (.ref C) "__class__" = some (some (.builtin "object.__class__")))
  (hn:PySem.W.specialIn K (.builtin "object.__class__") "__get__" = some (some (.builtin "getset_descriptor.__get__"))) (htk:PySem.W.takesIn K (.builtin "object.__class__")=some true)
  (hm:PySem.W.mroIn K C (.type "object")=some true):TyOf K H (.ref a) (.ref C)
theorem xM {x:V} {u t:Value} (I:Inv X pins σ H s) (rx:RelV x u) (ty:TyOf X.K H x t) (e:PySem.W.kitOne X.K t c=some b) (h:∀ tk,Q (.bool b) { s with toks:=tk }) :
 wpAny (model X.prog X.w) A (call (.builtin "isinstance") [u,c]) Q E s:=by
 cases ty with
 | non=>cases (show u=Value.none from rx);exact PySem.W.kia_one PySem.W.kitx_none I.kIn True.intro e (fun z=>nomatch z) h
 | bl y=>cases (show u=Value.bool y from rx);exact PySem.W.kia_one PySem.W.kitx_bool I.kIn True.intro e (fun z=>nomatch z) h
 | int i=>obtain ⟨t,q⟩:=(show ∃ t,u=Value.int i t from rx);cases q;exact PySem.W.kia_one PySem.W.kitx_int I.kIn True.intro e (fun z=>nomatch z) h
 | str y=>obtain ⟨t,q⟩:=(show ∃ t,u=Value.str y t from rx);cases q;exact PySem.W.kia_one PySem.W.kitx_str I.kIn True.intro e (fun z=>nomatch z) h
 | flt y=>obtain ⟨t,q⟩:=(show ∃ t,u=Value.float y t from rx);cases q;exact PySem.W.kia_one PySem.W.kitx_float I.kIn True.intro e (fun z=>nomatch z) h
 | @lst a xs ea =>
  cases (show u=Value.ref a from rx)
  obtain ⟨_,_,n,_,h1⟩:=(show iI X.prog X.w H s.heap a (.lst xs) from I.hok a _ ea)
  exact PySem.W.kia_one PySem.W.kitx_list I.kIn ⟨_,h1,rfl⟩ e (fun z=>nomatch z) h
 | @frz a ob xs ea =>
  cases (show u=Value.ref a from rx)
  obtain ⟨_,_,_,n,_,h1⟩:=(show iI X.prog X.w H s.heap a (.frz ob (.lst xs)) from I.hok a _ ea)
  exact PySem.W.kia_one PySem.W.kitx_list I.kIn ⟨_,h1,rfl⟩ e (fun z=>nomatch z) h
 | @tup a xs ea =>
  cases (show u=Value.ref a from rx)
  obtain ⟨_,_,_,p⟩:=(show iI X.prog X.w H s.heap a (.tup xs) from I.hok a _ ea)
  obtain ⟨o,h1,h2,_⟩:=p
  exact PySem.W.kia_one PySem.W.kitx_tuple I.kIn ⟨o,h1,h2⟩ e (fun z=>nomatch z) h
 | @dK a kvs ea =>
  cases (show u=Value.ref a from rx)
  obtain ⟨_,_,vs,_,p⟩:=(show iI X.prog X.w H s.heap a (.dK kvs) from I.hok a _ ea)
  obtain ⟨o,es,ep,h1,h2,_⟩:=p
  exact PySem.W.kia_one PySem.W.kitx_dict I.kIn ⟨o,h1,h2.1⟩ e (fun z=>nomatch z) h
 | @dT a kvs ea =>
  cases (show u=Value.ref a from rx)
  obtain ⟨_,_,xs,_,o,es,ep,h1,h2,_⟩:=(show iI X.prog X.w H s.heap a (.dT kvs) from I.hok a _ ea)
  exact PySem.W.kia_one PySem.W.kitx_dict I.kIn ⟨o,h1,h2.1⟩ e (fun z=>nomatch z) h
 | @ins a C dx fs ea cl ha hn htk hm =>
  cases (show u=Value.ref a from rx)
  obtain ⟨mA,O,_⟩:=LQ I.hok ea
  obtain ⟨od,J,_⟩:=O.look
  exact PySem.W.kia_one (PySem.W.kitx_own (cl.get _) cl.hd ha hn htk hm) I.kIn J e (fun z=>nomatch z) h
end
end L2
namespace L2
open PySem PySem.Spec PyProof.Rows
structure Room (k:Nat) (A:Around):Prop where
 hd:A.handled=none
 dp:A.depth + 3 * k + 5 < recursionLimit
 un:A.units + 16 * k + 200 < cLine
theorem Room.mono {j k:Nat} {A:Around} (r:Room k A) (h:j ≤ k):Room j A:=⟨r.hd,by have:=r.dp;omega,by have:=r.un;omega⟩
theorem Room.deeper {k:Nat} {A:Around} (r:Room (k + 1) A) (env:Env):Room k (A.deeper env) :=
 ⟨r.hd,by have:=r.dp;show A.depth + 1 + 3 * k + 5 < _;omega,by have:=r.un;show A.units + 3 + 16 * k + 200 < _;omega⟩
theorem Room.depth {k:Nat} {A:Around} (r:Room k A):A.depth < recursionLimit:=by have:=r.dp;omega
theorem Room.units {k:Nat} {A:Around} (r:Room k A):A.units + 64 < cLine:=by have:=r.un;omega
noncomputable def W9:TA:=fun _ H Q=>Q [] H
noncomputable def Uy (ta:TE) (tr:TA):TA:=fun σ H Q=>ta σ H fun x H1=>tr σ H1 fun xs H2=>Q (x :: xs) H2
section
variable {X:Cx} {e:Expr} {es:List Expr} {te:TE} {t:TA} {pos:Pos}
theorem pq:PA X [] W9:=fun _ _ _ _ H Q I h=>Calls.spliced_nil ⟨[],H,I,.nil,h⟩
theorem jW (ha:PE X e te) (hr:PA X es t) (hs:starEach (e :: es) X.env=(false,eval e X.env) :: starEach es X.env:=by rfl):PA X (e :: es) (Uy te t):=by
 intro pos pins s σ H Q I h
 rw [hs]
 show wpAny _ _ (spliced ((false,eval e X.env) :: backTo pos (starEach es X.env))) _ _ s
 refine Calls.spliced_cons (thn (ha pins s σ H _ I h) fun u s1 ⟨x,H1,I1,r1,q1⟩=>?_)
 exact thn (hr pos pins s1 σ H1 _ I1 q1) fun us s2 ⟨xs,H2,I2,r2,q2⟩=>⟨x :: xs,H2,I2,.cons r1 r2,q2⟩
noncomputable def W_ (t:TA):TE:=fun σ H Q=>t σ H fun xs H1=>xs.length ≤ sizeLine∧∀ p,H1 p=none→Q (.ref p) (upd H1 p (.tup xs))
noncomputable def Xa (t:TA):TE:=fun σ H Q=>t σ H fun xs H1=>xs.length ≤ sizeLine∧∀ p,H1 p=none→Q (.ref p) (upd H1 p (.lst xs))
theorem QS {x1} (h:PA X es t):PE X (.Tuple es x1 pos) (W_ t):=by
 intro pins s σ H Q I hq
 refine wpAny_Tuple_spliced (thn (h pos pins s σ H _ I hq) fun us s1 ⟨xs,H1,I1,r,z,q⟩=>⟨by rw [← r.length];exact z,?_⟩)
 have hf:H1 s1.heap.objs.size=none:=I1.hok.fresh (aQ _)
 refine ⟨.ref s1.heap.objs.size,upd H1 s1.heap.objs.size (.tup xs),I1.laid (t':=s1.toks) (fun b u e=>Heap.get?_push_of_some _ e) (aQ _) ?_,rfl,q _ hf⟩
 exact ⟨z,us,r,⟨_,Heap.get?_push_size _ rfl,rfl,_,rfl⟩⟩
theorem Iu (h:PA X es t):PE X (.List es pos) (Xa t):=by
 intro pins s σ H Q I hq
 refine wpAny_List_spliced (thn (h pos pins s σ H _ I hq) fun us s1 ⟨xs,H1,I1,r,z,q⟩=>⟨by rw [← r.length];exact z,?_⟩)
 have hf:H1 s1.heap.objs.size=none:=I1.hok.fresh (aQ _)
 refine ⟨.ref s1.heap.objs.size,upd H1 s1.heap.objs.size (.lst xs),I1.laid (t':=s1.toks) (fun b u e=>Heap.get?_push_of_some _ e) (aQ _) ?_,rfl,q _ hf⟩
 exact ⟨z,us,0,r,Heap.get?_push_size _ rfl⟩
end
noncomputable abbrev Sp:=List V→Hp→VK→XK→Prop
noncomputable abbrev CXT:=List Env→Hp→Shared→XK→Value→Shared→Prop
structure Env0 (P:Program) (w:World) (K:PySem.W.Frag) (mg:Str→Option Value) (base:Heap) (A:Around) (outer:List Env) (s:Shared) (H:Hp):Prop where
 frames:A.frames=some outer
 mod:Mod K mg base
 bs:∀ b o,base.get? b=some o→s.heap.get? b=some o∧H b=none
 bsz:base.objs.size ≤ s.heap.objs.size
 funs:s.heap.FunFrames base outer
 frf:∀ b ∈ frs outer,H b=none
 hok:HOk P w H s.heap
 bare:AllBare s.gens
noncomputable def CE (outer:List Env) (P:Program) (w:World) (H:Hp) (s:Shared) (Q:VK) (u:Value) (s':Shared):Prop :=
 ∃ v H',s'.os=s.os∧AllBare s'.gens∧Un (frs outer) [] H H' s.heap s'.heap∧HOk P w H' s'.heap∧RelV v u∧Q v H'
noncomputable def CR (CX:CXT) (outer:List Env) (P:Program) (w:World) (H:Hp) (s:Shared) (Q:VK) (E:XK) (r:Result) (s':Shared):Prop :=
 match r with
 | .ok (.ret u)=>CE outer P w H s Q u s'
 | .ok _=>False
 | .error e=>CX outer H s E e s'
structure FnOk (P:Program) (w:World) (K:PySem.W.Frag) (mg:Str→Option Value) (base:Heap) (CX:CXT) (k:Nat) (f:Addr) (fd:FuncData) (ps:List Str) (sp:Sp):Prop where
 len:∀ vs H Q E,sp vs H Q E→vs.length=ps.length
 run:∀ (A:Around) (outer:List Env) (s:Shared) (H:Hp) (args:Args) (us:List Value) (vs:List V) (Q:VK) (E:XK),Room k A→Env0 P w K mg base A outer s H→BindsTo s fd args (ps.zip us)→Vals vs us→sp vs H Q E →
  codeAny (model P w) A (.call (.ref f) args) (CR CX outer P w H s Q E) s
theorem FnOk.mono {P:Program} {w:World} {K:PySem.W.Frag} {mg:Str→Option Value} {base:Heap} {CX:CXT} {j k:Nat} {f:Addr} {fd:FuncData} {ps:List Str} {sp:Sp} (F:FnOk P w K mg base CX j f fd ps sp) (h:j ≤ k) :
 FnOk P w K mg base CX k f fd ps sp:=⟨F.len,fun A outer s H args us vs Q E hr=>F.run A outer s H args us vs Q E (hr.mono h)⟩
theorem FnOk.imp {P:Program} {w:World} {K:PySem.W.Frag} {mg:Str→Option Value} {base:Heap} {CX:CXT} {k:Nat} {f:Addr} {fd:FuncData} {ps:List Str} {sp sp':Sp} (F:FnOk P w K mg base CX k f fd ps sp)
 (h:∀ vs H Q E,sp' vs H Q E→sp vs H Q E):FnOk P w K mg base CX k f fd ps sp' :=
 ⟨fun vs H Q E q=>F.len vs H Q E (h _ _ _ _ q),fun A outer s H args us vs Q E hr he hb hv hs=>F.run A outer s H args us vs Q E hr he hb hv (h _ _ _ _ hs)⟩
section
variable {X:Cx} {pins:List (Addr × Obj)} {σ:St} {H:Hp} {s s':Shared}
theorem Inv.env0 (I:Inv X pins σ H s):Env0 X.prog X.w X.K X.mg X.base X.A X.stack s H :=
 ⟨I.ok.frames,I.ok.mod,I.bs,bV I.ok.bsz I.sz,I.stack,I.stkFree,I.hok,I.bare⟩
theorem Inv.after {Q:VK} {u:Value} (I:Inv X pins σ H s) (h:CE X.stack X.prog X.w H s Q u s'):EP X pins σ Q u s':=by
 obtain ⟨v,H',os,bare,un,hok,r,q⟩:=h
 obtain ⟨hh,g,d,t,os'⟩:=s'
 obtain rfl:os'=s.os:=os
 exact ⟨v,H',I.call (h':=hh) (g':=g) (d':=d) (t':=t) (ch:=[]) un hok bare (fun b z=>absurd z (by simp)),r,q⟩
end
noncomputable def Pz (sp:Sp) (dvs:List V) (E:XK) (t:TA):TE:=fun σ H Q=>t σ H fun vs H1=>sp (vs++dvs) H1 Q E
noncomputable def Binds (K:PySem.W.Frag) (fd:FuncData) (ps:List Str) (ds:List Value):Prop :=
 ∀ (s:Shared) (us:List Value),K.In s.heap→(us++ds).length=ps.length→BindsTo s fd ⟨us,[]⟩ (ps.zip (us++ds))
theorem Binds.all {K:PySem.W.Frag} {fd:FuncData} {ps:List Str} (h:∀ us:List Value,us.length=ps.length→bindArgs fd ⟨us,[]⟩=pure (ps.zip us)):Binds K fd ps []:=fun s us _ hl=>by
 rw [cR] at hl ⊢
 exact .of_eq (h us hl)
noncomputable def Passes (CX:CXT) (X:Cx) (E:XK):Prop:=∀ (pins:List (Addr × Obj)) (σ:St) (H:Hp) (s:Shared) (e:Value) (s':Shared),Inv X pins σ H s→CX X.stack H s E e s'→X.xe e s'
section
variable {X:Cx} {CX:CXT} {k:Nat} {f C:Addr} {fd:FuncData} {ps:List Str} {sp:Sp} {dvs:List V} {ds:List Value} {E:XK} {x m:Str} {p pos apos:Pos} {e o:Expr} {es:List Expr} {ta:TE} {t:TA}
theorem QT {pins:List (Addr × Obj)} {σ:St} {H:Hp} {s:Shared} {Q:VK} {us:List Value} {vs:List V} (F:FnOk X.prog X.w X.K X.mg X.base CX k f fd ps sp) (hr:Room k X.A) (hb:Binds X.K fd ps ds) (hd:Vals dvs ds) (hx:Passes CX X E)
 (I:Inv X pins σ H s) (r:Vals vs us) (h:sp (vs++dvs) H Q E):wpAny (model X.prog X.w) X.A (call (.ref f) us) (EP X pins σ Q) X.xe s:=by
 have r2:Vals (vs++dvs) (us++ds):=r.append hd
 have hl:(us++ds).length=ps.length:=by rw [← r2.length];exact F.len _ _ _ _ h
 refine wpAny_call (codeAny_mono (F.run X.A X.stack s H ⟨us,[]⟩ (us++ds) (vs++dvs) Q E hr I.env0 (hb s us I.kIn hl) r2 h) fun r s' hq=>?_)
 cases r with
 | error e=>exact hx pins σ H s e s' I hq
 | ok fl =>
  cases fl with
  | ret u=>exact I.after hq
  | next=>exact False.elim hq
  | brk=>exact False.elim hq
  | cont=>exact False.elim hq
theorem LR (F:FnOk X.prog X.w X.K X.mg X.base CX k f fd ps sp) (hr:Room k X.A) (hg:Gl X x) (hm:X.mg x=some (.ref f)) (hk:PySem.W.keepIn X.K (.ref f)=true) (hb:Binds X.K fd ps ds) (hd:Vals dvs ds) (hx:Passes CX X E)
 (ha:PA X (e :: es) t) (hdb:(x == ("__debug__" : Str))=false:=by decide) (he:starEach (e :: es) X.env=(false,eval e X.env) :: starEach es X.env:=by rfl) (hpl:(backTo pos (starEach es X.env)).any (·.1)=false:=by rfl) :
 PE X (.Call (.Name x p) (e :: es) [] pos) (Pz sp dvs E t):=by
 intro pins s σ H Q I h
 refine wpAny_Call_Name_kw (DY I hg hm ?_ hdb)
 refine PySem.W.callWith_K (h₀:=X.base) I.ok.mod.kin hk (thn (ha pos pins s σ H _ I h) fun us s1 ⟨vs,H1,I1,r,q⟩=>⟨I1.kIn,?_⟩) he hpl
 exact QT F hr hb hd hx I1 r q
structure Mk (K:PySem.W.Frag) (C f:Addr):Prop where
 makes:PySem.W.makesIn K C=true
 init:PySem.W.findIn K (.ref C) "__init__" = some (some (.ref f))
 fn:PySem.W.isFn K (.ref f)=true
 kp:PySem.W.keepIn K (.ref C)=true
end
section
variable {X:Cx} {CX:CXT} {k:Nat} {f C:Addr} {fd:FuncData} {ps ks:List Str} {sp:Sp} {E:XK} {x m:Str} {p pos apos kpos:Pos} {e o:Expr} {es:List Expr} {kws:List Keyword} {te ta:TE} {t tk:TA} {nm:Option Str}
structure KBinds (K:PySem.W.Frag) (fd:FuncData) (ps ks:List Str) (g:List Value→List Value→List Value) (gV:List V→List V→List V):Prop where
 to:∀ (s:Shared) (us ws:List Value),K.In s.heap→(g us ws).length=ps.length→BindsTo s fd ⟨us,ks.zip ws⟩ (ps.zip (g us ws))
 rel:∀ {vs:List V} {us:List Value} {zs:List V} {ws:List Value},Vals vs us→Vals zs ws→Vals (gV vs zs) (g us ws)
variable {g:List Value→List Value→List Value} {gV:List V→List V→List V}
end
structure FnScope (N P:List Str) (sc:Scope):Prop where
 kind:sc.kind = .function
 co:sc.isCoroutine=false
 gen:sc.isGenerator=false
 nd:N.Nodup
 pre:N.take P.length=P
 par:∀ x ∈ P,sc.names.lookup x=some .local∨sc.names.lookup x=some .cell
 nofree:∀ y ∈ sc.names,y.2 ≠ .free
theorem xO {kindOf:Str→Option NameKind} {x:Str}:∀ {binds:List (Str × Value)} {m:Str→Option Value},(∀ v,(x,v) ∉ binds)→bindL kindOf binds m x=m x
 | [],_,_=>rfl
 | (n,v) :: r,m,h=>by
  unfold bindL
  rw [xO fun w hw=>h w (aL _ hw)]
  split
  ·have:x ≠ n:=by rintro rfl;exact h v aP
   simp [this]
  ·rfl
theorem xP {kindOf:Str→Option NameKind} {x:Str}:∀ {binds:List (Str × Value)} {m:Str→Option Value},(∀ v,(x,v) ∉ binds)→bindC kindOf binds m x=m x
 | [],_,_=>rfl
 | (n,v) :: r,m,h=>by
  unfold bindC
  rw [xP fun w hw=>h w (aL _ hw)]
  split
  ·rfl
  ·have:x ≠ n:=by rintro rfl;exact h v aP
   simp [this]
theorem xQ {kindOf:Str→Option NameKind} {x:Str} {v:Value}:∀ {P:List Str} {vs:List Value} {i:Nat} {m:Str→Option Value},P.Nodup→P[i]? = some x→vs[i]? = some v→kindOf x=some .local →
 bindL kindOf (P.zip vs) m x=some v
 | [],_,_,_,_,h,_,_=>by simp at h
 | _ :: _,[],_,_,_,_,h,_=>by simp at h
 | p :: P,w :: vs,0,m,nd,h1,h2,hk=>by
  simp at h1 h2;subst h1;subst h2
  show bindL kindOf ((p,w) :: P.zip vs) m p=_
  unfold bindL
  rw [xO fun v hv=>(dF.mp nd).1 (pI hv).1,if_pos hk]
  simp
 | p :: P,w :: vs,i + 1,m,nd,h1,h2,hk=>by
  show bindL kindOf ((p,w) :: P.zip vs) m x=_
  unfold bindL
  exact xQ (i:=i) (dF.mp nd).2 (by simpa using h1) (by simpa using h2) hk
theorem xR {kindOf:Str→Option NameKind} {x:Str} {v:Value}:∀ {P:List Str} {vs:List Value} {i:Nat} {m:Str→Option Value},P.Nodup→P[i]? = some x→vs[i]? = some v→kindOf x ≠ some .local →
 bindC kindOf (P.zip vs) m x=some v
 | [],_,_,_,_,h,_,_=>by simp at h
 | _ :: _,[],_,_,_,_,h,_=>by simp at h
 | p :: P,w :: vs,0,m,nd,h1,h2,hk=>by
  simp at h1 h2;subst h1;subst h2
  show bindC kindOf ((p,w) :: P.zip vs) m p=_
  unfold bindC
  rw [xP fun v hv=>(dF.mp nd).1 (pI hv).1,if_neg hk]
  simp
 | p :: P,w :: vs,i + 1,m,nd,h1,h2,hk=>by
  show bindC kindOf ((p,w) :: P.zip vs) m x=_
  unfold bindC
  exact xR (i:=i) (dF.mp nd).2 (by simpa using h1) (by simpa using h2) hk
noncomputable def start (N:List Str) (vs:List V):St:=vs.map some++bD (N.length - vs.length) none
noncomputable def Ck (CX:CXT) (P:Program) (w:World) (K:PySem.W.Frag) (mg:Str→Option Value) (base:Heap) (N:List Str) (qual:Str) (scope:Scope) (f:Addr) (cd:Value) (A:Around) (outer:List Env) (s:Shared) (H:Hp) (E:XK):Cx where
 prog:=P
 w:=w
 K:=K
 mg:=mg
 base:=base
 A:=A.deeper (envOfC qual scope s.heap.objs.size f cd)
 N:=N
 s₀:=s
 H₀:=H
 env:=envOfC qual scope s.heap.objs.size f cd
 outer:=outer
 stack:=envOfC qual scope s.heap.objs.size f cd :: outer
 ex:=[]
 calm:=true
 fn:=fun _=>true
 pn:=[]
 xe:=fun e s'=>wpAny (model P w) (A.deeper (envOfC qual scope s.heap.objs.size f cd)) (leaving (envOfC qual scope s.heap.objs.size f cd) e) (fun _ s''=>CX outer H s E e s'') (fun e' s''=>CX outer H s E e' s'') s'
theorem Ah {sc:Scope} {n:Nat} {x:Str} (h:sc.names.lookup x=some .cell):∃ c,(cellsFrom n sc.names []).lookup x=some c:=by
 have q:=PySem.W.cellsFrom_some sc.names n [] (.inl h)
 exact jQ.mp q
theorem Gy {CX:CXT} {P:Program} {w:World} {K:PySem.W.Frag} {mg:Str→Option Value} {base:Heap} {N ps:List Str} {qual:Str} {scope:Scope} {f:Addr} {cd:Value} {A:Around} {outer:List Env} {s s1:Shared} {H:Hp} {E:XK} {us:List Value} {vs:List V}
 (S:FnScope N ps scope) (hd:A.handled=none) (e0:Env0 P w K mg base A outer s H) (hl:vs.length=ps.length) (r:Vals vs us)
 (x:InCallC s s.heap.objs.size (bindL (envOfC qual scope s.heap.objs.size f cd).kindOf (ps.zip us) fun _=>none) (cellsFrom (s.heap.objs.size + 1) scope.names []) (bindC (envOfC qual scope s.heap.objs.size f cd).kindOf (ps.zip us) fun _=>none) s1) :
 Inv (Ck CX P w K mg base N qual scope f cd A outer s H E) [] (start N vs) H s1:=by
 have hpl:ps.length ≤ N.length:=by have:=congrArg pQ S.pre;rw [fB] at this;omega
 obtain ⟨h1,tk,rfl,hk⟩:=x.done
 have noA:∀ b:Addr,b ∉ (Ck CX P w K mg base N qual scope f cd A outer s H E).ex:=fun b z=>absurd (show b ∈ ([]:List Addr) from z) (by simp)
 refine ⟨⟨e0.mod,S.kind,rfl,rfl,aQ _,fun y z c h1 h2=>?_,fun y hy=>?_,fun y c _ h=>?_,fun _=>hd,Around.frames_deeper e0.frames,.inr ⟨rfl,rfl⟩,fun b z=>absurd z (noA b),e0.bs,e0.bsz,fun b _ _=>noA b,fun b z=>absurd z (noA b),e0.funs,e0.frf⟩,
  rfl,e0.bare,Un.kept hk,⟨_,x.toInCall.ns,fun i y v h1 h2 h3=>?_⟩,fun y c h=>⟨_,x.cell y c h⟩,e0.hok.fresh (aQ _),fun y c h=>?_,fun p hp=>absurd (show p ∈ ([]:List (Addr × Obj)) from hp) (by simp),e0.hok.kept hk,?_⟩
 ·exact name_of_addr x.apart (PySem.mem_of_lookup h1) (PySem.mem_of_lookup h2)
 ·have hy:scope.names.lookup y=some .cell∨scope.names.lookup y=some .free:=hy
  rcases hy with hy | hy
  ·exact Ah hy
  ·exact absurd rfl (S.nofree _ (PySem.mem_of_lookup hy))
 ·exact eY (x.above y c (PySem.mem_of_lookup h))
 ·have hi:i < vs.length:=by
   unfold start at h2
   by_cases hi:i < vs.length
   ·exact hi
   ·rw [cN (by simpa using hi)] at h2
    rw [gM] at h2
    split at h2 <;> cases h2
  have ha:vs[i]? = some v:=by
   unfold start at h2
   rw [cQ (by simpa using hi),bf] at h2
   cases e:vs[i]? with
   | none=>rw [e] at h2;cases h2
   | some a=>rw [e] at h2;cases h2;rfl
  obtain ⟨u,hu,rv⟩:=r.get ha
  have hp:ps[i]? = some y:=by
   rw [← S.pre,n_ (by omega)];exact h1
  have ndP:ps.Nodup:=by rw [← S.pre];exact S.nd.sublist (sW _ _)
  refine ⟨u,rv,?_⟩
  rcases S.par y (cW hp) with k | k
  ·exact .inl ⟨k,xQ ndP hp hu k⟩
  ·obtain ⟨c,e⟩:=Ah (n:=s.heap.objs.size + 1) k
   refine .inr ⟨.inl k,c,e,?_⟩
   have q:=x.cell y c e
   rw [xR ndP hp hu (by show scope.names.lookup y ≠ _;rw [k];decide)] at q
   exact q
 ·exact e0.hok.fresh (eY (x.above y c (PySem.mem_of_lookup h)))
 ·unfold start
  show _=N.length
  rw [bB,aH,b_]
  omega
theorem Uz {CX:CXT} {P:Program} {w:World} {K:PySem.W.Frag} {mg:Str→Option Value} {base:Heap} {k:Nat} {f:Addr} {name qual:Str} {params:Arguments} {body:List Stmt} {scope:Scope} {dV kV doc pm cdv ct oc:Value} {an od:Option Addr}
 {osl:Array (Option Value)} {N ps:List Str} {sp:Sp} (lk:K.lookup f=some ⟨oc,od,.func (PySem.W.fnOf name qual params body scope dV kV doc pm an cdv ct),osl⟩) (hcd:PySem.W.codeIn K cdv qual=true) (S:FnScope N ps scope)
 (len:∀ vs H Q E,sp vs H Q E→vs.length=ps.length)
 (hbody:∀ (A:Around) (outer:List Env) (s:Shared) (H:Hp) (vs:List V) (Q:VK) (E:XK),Room k (A.deeper (envOfC qual scope s.heap.objs.size f cdv))→sp vs H Q E →
  ∃ t,PSs (Ck CX P w K mg base N qual scope f cdv A outer s H E) body t∧t { nx:=fun _ H'=>Q .non H',rt:=Q } (start N vs) H) :
 FnOk P w K mg base CX (k + 1) f (PySem.W.fnOf name qual params body scope dV kV doc pm an cdv ct) ps sp:=by
 refine ⟨len,fun A outer s H args us vs Q E hr e0 hb r hsp=>?_⟩
 have hl:=len _ _ _ _ hsp
 have KX:K.In s.heap:=e0.mod.kin.keeps fun b o e=>(e0.bs b o e).1
 have lim:s.heap.NoLimit:=e0.mod.nolimit.keeps fun b o e=>(e0.bs b o e).1
 have hkind:∀ y ∈ ps.zip us,scope.names.lookup y.1=some .local∨(scope.names.lookup y.1=some .cell∧((cellsFrom (s.heap.objs.size + 1) scope.names []).lookup y.1).isSome=true):=fun ⟨n,v⟩ hy=>by
  rcases S.par n (pI hy).1 with q | q
  ·exact .inl q
  ·exact .inr ⟨q,PySem.W.cellsFrom_some _ _ _ (.inl q)⟩
 refine codeAny_call_function hr.depth (KX _ _ lk) rfl S.co S.gen rfl (PySem.W.codeRec_of KX hcd) (hb _ _ _ _ ?_)
 refine wpAny_newFunctionEnv_cells S.kind hkind fun env he s1 x=>?_
 subst he
 refine ⟨lim.keeps x.toInCall.keep,codeAny_func ?_⟩
 obtain ⟨t,ht,hq⟩:=hbody A outer s H vs Q E (hr.deeper _) hsp
 have I:Inv (Ck CX P w K mg base N qual scope f cdv A outer s H E) [] (start N vs) H s1:=Gy S hr.hd e0 hl r x
 refine wpAny_mono (ht [] s1 (start N vs) H _ I hq) (fun fl s' hs=>?_) fun e s' hs=>hs
 have fin:∀ {σ':St} {H':Hp} {v:V} {u:Value},Inv (Ck CX P w K mg base N qual scope f cdv A outer s H E) [] σ' H' s'→RelV v u→Q v H'→CE outer P w H s Q u s' :=
  fun {σ' H' v u} J rv q=>⟨v,H',J.os,J.bare,J.base,J.hok,rv,q⟩
 cases fl with
 | ret u =>
  obtain ⟨v,σ',H',J,rv,q⟩:=hs
  exact fin J rv q
 | next =>
  obtain ⟨σ',H',J,q⟩:=hs
  exact fin (v:=V.non) (u:=Value.none) J rfl q
 | brk =>
  obtain ⟨_,_,_,q⟩:=hs
  exact False.elim q
 | cont =>
  obtain ⟨_,_,_,q⟩:=hs
  exact False.elim q
end L2
namespace L2
open PySem PySem.Spec PyProof.Rows
section
variable {X:Cx} {x:Str} {p pos:Pos} {e:Expr} {es:List Expr} {t:TA} {id T:String} {r:List V→Hp→VK→Prop}
noncomputable def tCB (r:List V→Hp→VK→Prop) (t:TA):TE:=fun σ H Q=>t σ H fun vs H1=>r vs H1 Q
theorem tL (hc:nq X (.builtin id) r) (hg:Gl X x) (hm:X.mg x=none) (hv:bootBuiltins x=some (.builtin id)) (ha:PA X (e :: es) t) (hn:x ≠ "__name__" := by decide) (hdb:(x == ("__debug__" : Str))=false:=by decide)
 (he:starEach (e :: es) X.env=(false,eval e X.env) :: starEach es X.env:=by rfl) (hpl:(backTo pos (starEach es X.env)).any (·.1)=false:=by rfl):PE X (.Call (.Name x p) (e :: es) [] pos) (tCB r t):=by
 intro pins s σ H Q I h
 refine wpAny_Call_Name_kw (qb I hg hm hv ?_ hn hdb)
 exact PyProof.Rows.callWith_builtin1 (thn (ha pos pins s σ H _ I h) fun us s1 ⟨vs,H1,I1,r1,q1⟩=>hc pins s1 σ H1 vs us Q I1 r1 q1) he hpl
theorem uE (hc:nq X (.type T) r) (hg:Gl X x) (hm:X.mg x=none) (hv:bootBuiltins x=some (.type T)) (ha:PA X (e :: es) t) (hn:x ≠ "__name__" := by decide) (hdb:(x == ("__debug__" : Str))=false:=by decide)
 (he:starEach (e :: es) X.env=(false,eval e X.env) :: starEach es X.env:=by rfl) (hpl:(backTo pos (starEach es X.env)).any (·.1)=false:=by rfl):PE X (.Call (.Name x p) (e :: es) [] pos) (tCB r t):=by
 intro pins s σ H Q I h
 refine wpAny_Call_Name_kw (qb I hg hm hv ?_ hn hdb)
 exact PyProof.Rows.callWith_type1 (thn (ha pos pins s σ H _ I h) fun us s1 ⟨vs,H1,I1,r1,q1⟩=>hc pins s1 σ H1 vs us Q I1 r1 q1) he hpl
end
end L2
namespace HT
open PySem PyProof.Rows
section
open PySem.SeqAt
open PySem.AutoSeq1 (wpAny_loadPart')
open PySem.MeetsSeq PySem.MeetsSeq2 PySem.MeetsSeq3
end
section
variable {prog:Program} {w:World} {A:Around} {E:Value→Shared→Prop} {s:Shared}
noncomputable def sIx (n d:Nat):Option Int→Nat
 | none=>d
 | some v=>if v < 0 then (v + (n:Int)).toNat else min v.toNat n
end
end HT
namespace L2
open PySem PySem.Spec PyProof.Rows
noncomputable abbrev TO:=St→Hp→(Option Int→Hp→Prop)→Prop
noncomputable def PO (X:Cx) (e:Option Expr) (t:TO):Prop :=
 ∀ (pins:List (Addr × Obj)) (s:Shared) (σ:St) (H:Hp) (Q:Option Int→Hp→Prop),Inv X pins σ H s→t σ H Q →
  wpAny (model X.prog X.w) X.A (evalPart e X.env) (fun u s'=>∃ o H',Inv X pins σ H' s'∧IsPart u o∧Q o H') X.xe s
noncomputable def L_:TO:=fun _ H Q=>Q none H
noncomputable def UG (t:TE):TO:=fun σ H Q=>t σ H fun x H1=>∃ i,x = .int i∧Q (some i) H1
section
variable {X:Cx} {e:Expr} {te:TE} {lo hi:Option Expr} {tl th:TO} {pos p2:Pos}
theorem Mf:PO X none L_:=by
 intro pins s σ H Q I h
 rw [evalPart_none]
 exact wpAny_pure ⟨none,H,I,.none,h⟩
theorem Mg (h:PE X e te):PO X (some e) (UG te):=by
 intro pins s σ H Q I hw
 rw [evalPart_some]
 refine thn (h pins s σ H _ I hw) fun u s1 ⟨x,H1,I1,r1,q1⟩=>?_
 obtain ⟨i,rfl,q⟩:=q1
 obtain ⟨t,rfl⟩:=r1
 exact ⟨some i,H1,I1,.int i t,q⟩
noncomputable def SlR (X:Cx) (r:V→Option Int→Option Int→Hp→VK→Prop):Prop :=
 ∀ (pins:List (Addr × Obj)) (s:Shared) (σ:St) (H:Hp) (x:V) (v vl vu:Value) (lo hi:Option Int) (sl:Addr) (Q:VK),Inv X pins σ H s→RelV x v→s.heap.IsSliceOf sl vl vu .none→IsPart vl lo→IsPart vu hi→r x lo hi H Q →
  ∃ T id,typeLookup (.type T) "__getitem__" = pure (some (.builtin id))∧s.TypeIs v T∧wpAny (model X.prog X.w) X.A (getItem v (.ref sl)) (EP X pins σ Q) X.xe s
noncomputable def tSl (r:V→Option Int→Option Int→Hp→VK→Prop) (te:TE) (tl th:TO):TE:=fun σ H Q=>te σ H fun x H1=>tl σ H1 fun l H2=>th σ H2 fun u H3=>r x l u H3 Q
theorem Iv {r:V→Option Int→Option Int→Hp→VK→Prop} (hr:SlR X r) (he:PE X e te) (hl:PO X lo tl) (hu:PO X hi th):PE X (.Subscript e (.Slice lo hi none p2) pos) (tSl r te tl th):=by
 intro pins s σ H Q I h
 refine Subscript_ (thn (he pins s σ H _ I h) fun v s1 ⟨x,H1,I1,r1,q1⟩=>?_)
 refine wpAny_Slice (thn (hl pins s1 σ H1 _ I1 q1) fun vl s2 ⟨l,H2,I2,pl,q2⟩=>thn (hu pins s2 σ H2 _ I2 q2) fun vu s3 ⟨u,H3,I3,pu,q3⟩=>?_)
 rw [evalPart_none]
 refine wpAny_pure ?_
 have I4:Inv X pins σ H3 { s3 with heap:=s3.heap.push { cls:=.type "slice", data:=.fields #[vl,vu,.none] } }:=I3.kept (t':=s3.toks) fun b ob q=>Heap.get?_push_of_some _ q
 obtain ⟨T,id,hT,ht,hg⟩:=hr pins { s3 with heap:=s3.heap.push { cls:=.type "slice", data:=.fields #[vl,vu,.none] } } σ H3 x v vl vu l u s3.heap.objs.size Q I4 r1 (Heap.IsSliceOf.new ..) pl pu q3
 show wpAny (model X.prog X.w) X.A (subscriptTail e (.Slice lo hi none p2) v (.ref s3.heap.objs.size)) (EP X pins σ Q) X.xe { s3 with heap:=s3.heap.push { cls:=.type "slice", data:=.fields #[vl,vu,.none] } }
 exact tail_any (ops:=[.ref s3.heap.objs.size,v]) ht hT hg (by with_unfolding_all rfl)
noncomputable def Gz (xs:List V) (lo hi:Option Int):List V:=(xs.drop (HT.sIx xs.length 0 lo)).take (HT.sIx xs.length xs.length hi - HT.sIx xs.length 0 lo)
theorem Ai (xs:List V) (lo hi:Option Int):(Gz xs lo hi).length ≤ xs.length:=by
 unfold Gz
 rw [fB,cL]
 omega
end
end L2
namespace L2
open PySem PySem.Spec PyProof.Rows
noncomputable def ixN (n:Nat) (i:Int):Option Nat:=if 0 ≤ i then (if i < n then some i.toNat else none) else if -(n:Int) ≤ i then some (i + n).toNat else none
noncomputable def atI {α:Type} (xs:List α) (i:Int):Option α:=(ixN xs.length i).bind fun j=>xs[j]?
theorem Ea {n:Nat} {i:Int} {j:Nat} (h:ixN n i=some j):seqIndex? i n=some j∧j < n∧-(n:Int) ≤ i∧i < n:=by
 unfold ixN at h
 by_cases h0:0 ≤ i
 ·rw [if_pos h0] at h
  by_cases h1:i < n
  ·rw [if_pos h1] at h
   have e:i.toNat=j:=fO.inj h
   exact ⟨by rw [seqIndex_of h0 h1,e],by omega,by omega,h1⟩
  ·rw [if_neg h1] at h;cases h
 ·rw [if_neg h0] at h
  by_cases h1 : -(n:Int) ≤ i
  ·rw [if_pos h1] at h
   have e:(i + n).toNat=j:=fO.inj h
   exact ⟨by rw [seqIndex_neg (by omega) h1,e],by omega,h1,by omega⟩
  ·rw [if_neg h1] at h;cases h
theorem yI {α:Type} {xs:List α} {i:Int} {v:α} (h:atI xs i=some v):∃ j,seqIndex? i xs.length=some j∧xs[j]? = some v∧j < xs.length∧-(xs.length:Int) ≤ i∧i < xs.length:=by
 unfold atI at h
 cases e:ixN xs.length i with
 | none=>rw [e] at h;cases h
 | some j =>
  rw [e] at h
  obtain ⟨h1,h2,h3,h4⟩:=Ea e
  exact ⟨j,h1,h,h2,h3,h4⟩
noncomputable def yJ (b:Expr):Prop:=∀ o i,subscripted b false o i=operate [o,i] (getItem o i)
noncomputable def IxR (X:Cx) (r:R2):Prop :=
 ∀ (value slice:Expr) (pins:List (Addr × Obj)) (s:Shared) (σ:St) (H:Hp) (x y:V) (v u:Value) (Q:VK),Inv X pins σ H s→RelV x v→RelV y u→r x y H Q →
  subscripted slice false v u=operate [v,u] (getItem v u)→wpAny (model X.prog X.w) X.A (subscriptTail value slice v u) (EP X pins σ Q) X.xe s
noncomputable def MtR (X:Cx) (id:String) (r:V→List V→Hp→VK→Prop):Prop :=
 ∀ (pins:List (Addr × Obj)) (s:Shared) (σ:St) (H:Hp) (x:V) (xs:List V) (v:Value) (us:List Value) (Q:VK),Inv X pins σ H s→RelV x v→Vals xs us→r x xs H Q →
  wpAny (model X.prog X.w) X.A (call (.builtin id) (v :: us)) (EP X pins σ Q) X.xe s
section
variable {X:Cx} {a b:Expr} {ta tb:TE} {pos:Pos}
theorem IxR.or {r r':R2} (h:IxR X r) (h':IxR X r'):IxR X (fun x y H Q=>r x y H Q∨r' x y H Q):=by
 intro value slice pins s σ H x y v u Q I rx ry q hs
 rcases q with q | q
 ·exact h value slice pins s σ H x y v u Q I rx ry q hs
 ·exact h' value slice pins s σ H x y v u Q I rx ry q hs
theorem UJ {r:R2} (hr:IxR X r) (ha:PE X a ta) (hb:PE X b tb) (hs:yJ b):PE X (.Subscript a b pos) (tOp r ta tb):=by
 intro pins s σ H Q I h
 exact Subscript_ (QJ ha hb I h fun v u s2 x y H2 I2 rx ry q=>hr a b pins s2 σ H2 x y v u Q I2 rx ry q (hs _ _))
noncomputable def UL (K:PySem.W.Frag):R2:=fun x y H Q=>∃ p xs i v,x = .ref p∧y = .int i∧SqL K H p xs∧atI xs i=some v∧Q v H
noncomputable def UW (K:PySem.W.Frag):R2:=fun x y H Q=>∃ p xs i v,x = .ref p∧y = .int i∧SqT K H p xs∧atI xs i=some v∧Q v H
noncomputable def U0:R2:=fun x y H Q=>∃ z i c,x = .str z∧y = .int i∧z.length ≤ sizeLine∧atI z.cps.toList i=some c∧Q (.str ⟨#[c]⟩) H
theorem Mh:IxR X (UL X.K):=by
 intro value slice pins s σ H x y v u Q I rx ry h hs
 obtain ⟨p,xs,i,z,rfl,rfl,hq,he,q⟩:=h
 cases rx
 obtain ⟨t,rfl⟩:=ry
 obtain ⟨its,r,pl,hz⟩:=I.list hq
 obtain ⟨j,h1,h2,h3,h4,h5⟩:=yI he
 obtain ⟨w,ew,rw'⟩:=r.get h2
 have hl:=r.length
 have hn:=vG
 have fin:EP X pins σ Q w s:=⟨z,H,I,rw',q⟩
 by_cases h0:0 ≤ i
 ·have hj:i.toNat=j:=by
   rw [seqIndex_of h0 h5] at h1
   exact fO.inj h1
  exact item_listR pl.isList h0 (by omega) (by rw [hj];simpa using ew) fin hs
 ·have hj:(i + (its.toArray.size:Int)).toNat=j:=by
   rw [seqIndex_neg (by omega) h4] at h1
   rw [bx,← hl]
   exact fO.inj h1
  exact subscriptTail_builtinR (x:=w) pl.isList.typeIs slot_list_getitem.lookup
   (wpAny_getItem_list_neg (Q:=fun r s'=>r=w∧EP X pins σ Q r s') pl.isList (by omega) (by rw [bx] <;> omega) (by omega) (by rw [hj];simpa using ew) ⟨rfl,fin⟩) hs
theorem QV:IxR X (UW X.K):=by
 intro value slice pins s σ H x y v u Q I rx ry h hs
 obtain ⟨p,xs,i,z,rfl,rfl,hq,he,q⟩:=h
 cases rx
 obtain ⟨t,rfl⟩:=ry
 obtain ⟨its,r,pl,hz⟩:=I.tuple hq
 obtain ⟨j,h1,h2,h3,h4,h5⟩:=yI he
 obtain ⟨w,ew,rw'⟩:=r.get h2
 have hl:=r.length
 have hn:=vG
 have fin:EP X pins σ Q w s:=⟨z,H,I,rw',q⟩
 exact subscriptTail_builtinR (x:=w) pl.typeIs slot_tuple_getitem.lookup
  (getItem_tuple (j:=j) (Q:=fun r s'=>r=w∧EP X pins σ Q r s') pl (by omega) (by omega) (by rw [bx,← hl];exact h1) (by simpa using ew) ⟨rfl,fin⟩) hs
theorem QW:IxR X U0:=by
 intro value slice pins s σ H x y v u Q I rx ry h hs
 obtain ⟨z,i,c,rfl,rfl,hz,he,q⟩:=h
 obtain ⟨t,rfl⟩:=rx
 obtain ⟨t',rfl⟩:=ry
 obtain ⟨j,h1,h2,h3,h4,h5⟩:=yI he
 have hl:z.cps.toList.length=z.length:=by simp [Str.length]
 rw [hl] at h1 h4 h5
 have hn:=vG
 exact tail_any (typeIs_str s z t) slot_str_getitem.lookup (getItem_str (c:=c) (by
  have e1:decide (i < -(2 ^ 63:Int))=false:=dFa (by omega)
  have e2:decide (i ≥ 2 ^ 63)=false:=dFa (by omega)
  rw [e1,e2,Bool.or_false]) (by rw [h1];simpa using h2) ⟨.str ⟨#[c]⟩,H,I.tok _,⟨_,rfl⟩,q⟩) hs
noncomputable def rIx (K:PySem.W.Frag):R2:=fun x y H Q=>UL K x y H Q∨UW K x y H Q∨U0 x y H Q
theorem QX:IxR X (rIx X.K):=Mh.or (QV.or QW)
theorem Cm (its:List Value) (n j:Nat) (u:Value):Obj.mapSeq (·.setIfInBounds j u) { cls:=.type "list", data:=.seq its.toArray n } = { cls:=.type "list", data:=.seq (its.set j u).toArray n }:=by
 simp [Obj.mapSeq]
theorem Inv.lst {pins:List (Addr × Obj)} {σ:St} {H:Hp} {s:Shared} {p:Addr} {xs:List V} (I:Inv X pins σ H s) (h:H p=some (.lst xs)) :
 ∃ (its:List Value) (n:Nat),Vals xs its∧s.heap.get? p=some { cls:=.type "list", data:=.seq its.toArray n }∧xs.length ≤ sizeLine:=by
 obtain ⟨z,its,n,r,e⟩:=I.hok p _ h
 exact ⟨its,n,r,e,z⟩
theorem Inv.lstUpd {pins:List (Addr × Obj)} {σ:St} {H:Hp} {s:Shared} {p:Addr} {xs ys:List V} {its its':List Value} {n n':Nat} {f:Obj→Obj} (I:Inv X pins σ H s) (h:H p=some (.lst xs))
 (ho:s.heap.get? p=some { cls:=.type "list", data:=.seq its.toArray n }) (hf:f { cls:=.type "list", data:=.seq its.toArray n } = { cls:=.type "list", data:=.seq its'.toArray n' }) (r:Vals ys its') (hz:ys.length ≤ sizeLine) (t:Nat) :
 Inv X pins σ (upd H p (.lst ys)) { s with heap:=s.heap.update p f,toks:=t }:=by
 have e:(s.heap.update p f).get? p=some { cls:=.type "list", data:=.seq its'.toArray n' }:=by
  rw [Heap.get?_update_self f ho (by rw [hf] <;> rfl),hf]
 refine I.write (x:=p) (e:=p) (by rw [h];trivial) (.inl rfl) (fun b u hb q=>(Heap.get?_update_other _ _ (Ne.symm hb)).trans q) ⟨_,e⟩ ?_
 exact ⟨hz,its',n',r,e⟩
noncomputable def U3:V→V→V→Hp→(Hp→Prop)→Prop:=fun o i v H Q=>∃ p xs k j,o = .ref p∧i = .int k∧H p=some (.lst xs)∧ixN xs.length k=some j∧Q (upd H p (.lst (xs.set j v)))
theorem set_list:QC X U3:=by
 intro pins s σ H o i v ov iv u Q I ro ri rv h
 obtain ⟨p,xs,k,j,rfl,rfl,hp,hj,q⟩:=h
 cases ro
 obtain ⟨t,rfl⟩:=ri
 obtain ⟨its,n,r,ho,hz⟩:=I.lst hp
 obtain ⟨h1,h2,h3,h4⟩:=Ea hj
 have hl:=r.length
 have hn:=vG
 have I':Inv X pins σ (upd H p (.lst (xs.set j v))) { s with heap:=s.heap.update p (Obj.mapSeq (·.setIfInBounds j u)) } :=
  I.lstUpd hp ho (Cm its n j u) (r.set rv j) (by rw [cT];exact hz) s.toks
 by_cases h0:0 ≤ k
 ·have hk:k.toNat=j:=by
   rw [seqIndex_of h0 h4] at h1
   exact fO.inj h1
  exact PySem.W.ki_setAt ho h0 (by omega) (by rw [bx,← hl];exact h4) (by rw [hk];exact ⟨_,I',q⟩)
 ·have hk:(k + (its.toArray.size:Int)).toNat=j:=by
   rw [seqIndex_neg (by omega) h3] at h1
   rw [bx,← hl]
   exact fO.inj h1
  exact PySem.W.ki_setBack ho (by omega) (by rw [bx,← hl];exact h3) (by omega) (by rw [hk];exact ⟨_,I',q⟩)
theorem yK (lo hi:Option Int) (n:Nat):(sliceBounds lo hi none n).1=((HT.sIx n 0 lo:Nat):Int)∧(sliceBounds lo hi none n).2.1=((HT.sIx n n hi:Nat):Int)∧(sliceBounds lo hi none n).2.2=1:=by
 refine ⟨?_,?_,rfl⟩
 ·cases lo with
  | none=>simp [sliceBounds,HT.sIx]
  | some i =>
   simp only [sliceBounds,HT.sIx,Option.getD_none,show (1:Int) > 0 by decide,if_true]
   by_cases h:i < 0
   ·simp only [h,if_true] <;> omega
   ·simp only [h,if_false] <;> omega
 ·cases hi with
  | none=>simp [sliceBounds,HT.sIx]
  | some i =>
   simp only [sliceBounds,HT.sIx,Option.getD_none,show (1:Int) > 0 by decide,if_true]
   by_cases h:i < 0
   ·simp only [h,if_true] <;> omega
   ·simp only [h,if_false] <;> omega
theorem wN (its:List Value) (lo hi:Option Int):slicePick its.toArray lo hi none=((its.drop (HT.sIx its.length 0 lo)).take (HT.sIx its.length its.length hi - HT.sIx its.length 0 lo)).toArray:=by
 obtain ⟨h1,h2,h3⟩:=yK lo hi its.toArray.size
 unfold slicePick
 rw [h1,h2,h3]
 simp only [sliceRange_one,pick_run,bx] <;> rfl
noncomputable def Xb (K:PySem.W.Frag):V→Option Int→Option Int→Hp→VK→Prop:=fun x lo hi H Q=>∃ a xs,x = .ref a∧SqL K H a xs∧∀ p,H p=none→Q (.ref p) (upd H p (.lst (Gz xs lo hi)))
theorem Mi:SlR X (Xb X.K):=by
 intro pins s σ H x v vl vu lo hi sl Q I rx hs pl pu h
 obtain ⟨a,xs,rfl,hx,q⟩:=h
 cases rx
 obtain ⟨its,r,ht,hz⟩:=I.list hx
 have hlen:=r.length
 refine ⟨"list", _,slot_list_getitem.lookup,ht.isList.typeIs,?_⟩
 refine wpAny_getItem_list_slice ht.isList hs pl pu .none (by simp) ?_ (by rw [bx] <;> omega)
 rw [wN,← hlen]
 refine ⟨.ref s.heap.objs.size,_,I.laid (t':=s.toks) (o:=.lst (Gz xs lo hi)) (fun b ob q=>Heap.get?_push_of_some _ q) (aQ _) ?_,rfl,q _ (I.hok.fresh (aQ _))⟩
 exact ⟨bV (Ai xs lo hi) hz,_,0,(r.drop (HT.sIx xs.length 0 lo)).take (HT.sIx xs.length xs.length hi - HT.sIx xs.length 0 lo),Heap.get?_push_size _ rfl⟩
theorem cI:nq X (.builtin "len") (fun xs H Q=>∃ p ys,xs=[.ref p]∧(SqL X.K H p ys∨SqT X.K H p ys)∧Q (.int ys.length) H):=by
 intro pins s σ H xs us Q I r h
 obtain ⟨p,ys,rfl,hq,q⟩:=h
 obtain ⟨u,rfl,rx⟩:=vals1 r
 cases rx
 have hn:=vG
 rcases hq with hq | hq
 ·obtain ⟨its,r',pl,hz⟩:=I.list hq
  have hlen:=r'.length
  exact Calls.call_len_list pl.isList (by simp only [bx] <;> omega) ⟨.int ys.length,H,I.tok _,⟨s.toks + 1,by rw [bx,hlen]⟩,q⟩
 ·obtain ⟨its,r',pl,hz⟩:=I.tuple hq
  have hlen:=r'.length
  exact len_tuple pl (by simp only [bx] <;> omega) ⟨.int ys.length,H,I.tok _,⟨s.toks + 1,by rw [bx,hlen]⟩,q⟩
theorem yL:nq X (.type "list") (fun xs H Q=>∃ p ys,xs=[.ref p]∧(SqL X.K H p ys∨SqT X.K H p ys)∧∀ l,H l=none→Q (.ref l) (upd H l (.lst ys))):=by
 intro pins s σ H xs us Q I r h
 obtain ⟨p,ys,rfl,hq,q⟩:=h
 obtain ⟨u,rfl,rx⟩:=vals1 r
 cases rx
 have fin:∀ (its:List Value),Vals ys its→ys.length ≤ sizeLine→∀ (h':Heap) (c':Nat),(∀ b o',s.heap.get? b=some o'→h'.get? b=some o') →
  h'.get? s.heap.objs.size=some { cls:=.type "list", dict:=none,data:=.seq its.toArray c',slots:=#[] }→EP X pins σ Q (.ref s.heap.objs.size) { s with heap:=h' }:=fun its r' hz h' c' kp e =>
  ⟨.ref s.heap.objs.size,_,I.laid (t':=s.toks) kp (aQ _) (show iI X.prog X.w _ h' _ (.lst ys) from ⟨hz,its,c',r',e⟩),rfl,q _ (I.hok.fresh (aQ _))⟩
 rcases hq with hq | hq
 ·obtain ⟨its,r',pl,hz⟩:=I.list hq
  have hlen:=r'.length
  obtain ⟨o,ho,hc,n,hd⟩:=pl.isList
  exact call_list_seq p (.inl rfl) ho hc hd (fun h' c' kp e=>fin its r' hz h' c' kp e) (by simp only [bx] <;> omega)
 ·obtain ⟨its,r',pl,hz⟩:=I.tuple hq
  have hlen:=r'.length
  obtain ⟨o,ho,hc,n,hd⟩:=pl
  exact call_list_seq p (.inr rfl) ho hc hd (fun h' c' kp e=>fin its r' hz h' c' kp e) (by simp only [bx] <;> omega)
theorem wO:nq X (.type "tuple") (fun xs H Q=>∃ p ys,xs=[.ref p]∧((SqL X.K H p ys∧∀ l,H l=none→Q (.ref l) (upd H l (.tup ys)))∨(SqT X.K H p ys∧Q (.ref p) H))):=by
 intro pins s σ H xs us Q I r h
 obtain ⟨p,ys,rfl,h⟩:=h
 obtain ⟨u,rfl,rx⟩:=vals1 r
 cases rx
 rcases h with ⟨hq,q⟩ | ⟨hq,q⟩
 ·obtain ⟨its,r',pl,hz⟩:=I.list hq
  have hlen:=r'.length
  refine call_tuple_list pl.isList (fun h' kp=>?_) (by simp only [bx] <;> omega)
  have I1:Inv X pins σ H { s with heap:=h' }:=I.kept (t':=s.toks) kp
  have I2:Inv X pins σ (upd H h'.objs.size (.tup ys)) { s with heap:=h'.push { cls:=.type "tuple", data:=.seq its.toArray } } :=
   I1.laid (t':=s.toks) (fun b o e=>Heap.get?_push_of_some _ e) (aQ _) (show iI X.prog X.w _ _ _ (.tup ys) from ⟨hz,its,r',IsTup.new _ _⟩)
  exact ⟨.ref h'.objs.size,_,I2,rfl,q _ (I1.hok.fresh (aQ _))⟩
 ·obtain ⟨its,r',pl,hz⟩:=I.tuple hq
  exact call_tuple_same pl ⟨.ref p,H,I,rfl,q⟩
noncomputable def tyV (K:PySem.W.Frag) (T:String) (x:V) (H:Hp):Prop:=match x with
 | .str _=>T = "str"
 | .int _=>T = "int"
 | .ref p=>(T = "list" ∧ ∃ xs,SqL K H p xs)∨(T = "tuple" ∧ ∃ o,K.lookup p=some o∧o.cls = .type "tuple" ∧ o.dict=none) ∨
  (T = "dict" ∧ ((∃ kvs,H p=some (.dK kvs))∨∃ kvs,H p=some (.dT kvs)))∨(T = "set" ∧ ∃ S n,H p=some (.set S n))
 | _=>False
theorem Iw {pins:List (Addr × Obj)} {σ:St} {H:Hp} {s:Shared} {T:String} {x:V} {v:Value} (I:Inv X pins σ H s) (r:RelV x v) (ty:tyV X.K T x H) :
 s.TypeIs v T∧∀ a,v = .ref a→∃ ob,s.heap.get? a=some ob∧ob.dict=none:=by
 cases x with
 | str z =>
  obtain ⟨t,rfl⟩:=r
  cases (show T = "str" from ty)
  exact ⟨typeIs_str s z t,fun _ e=>nomatch e⟩
 | int i =>
  obtain ⟨t,rfl⟩:=r
  cases (show T = "int" from ty)
  exact ⟨typeIs_int s i t,fun _ e=>nomatch e⟩
 | ref p =>
  cases r
  rcases ty with ⟨rfl,xs,hq⟩ | ⟨rfl,o,hk,hc,hd⟩ | ⟨rfl,hk⟩ | ⟨rfl,S,n,hk⟩
  ·obtain ⟨its,_,pl,_⟩:=I.list hq
   refine ⟨pl.isList.typeIs,fun a e=>?_⟩
   cases e
   obtain ⟨o,n,e,c,hd,_⟩:=pl
   exact ⟨o,e,hd⟩
  ·refine ⟨⟨o,I.kIn p o hk,hc⟩,fun a e=>?_⟩
   cases e
   exact ⟨o,I.kIn _ o hk,hd⟩
  ·have z:∃ o,s.heap.get? p=some o∧o.ExactDict:=by
    rcases hk with ⟨kvs,hk⟩ | ⟨kvs,hk⟩
    ·obtain ⟨_,_,_,_,o,_,_,e,ex,_⟩:=I.hok p _ hk
     exact ⟨o,e,ex⟩
    ·obtain ⟨_,_,_,_,o,_,_,e,ex,_⟩:=I.hok p _ hk
     exact ⟨o,e,ex⟩
   obtain ⟨o,e,ex⟩:=z
   refine ⟨⟨o,e,ex.1⟩,fun a e2=>?_⟩
   cases e2
   exact ⟨o,e,ex.2.1⟩
  ·obtain ⟨o,_,_,_,e,ex,_⟩:=I.hok p _ hk
   refine ⟨⟨o,e,ex.1⟩,fun a e2=>?_⟩
   cases e2
   exact ⟨o,e,ex.2.1⟩
 | _=>exact False.elim ty
noncomputable def Xc (K:PySem.W.Frag) (T:String) (r:V→List V→Hp→VK→Prop) (to:TE):TE:=fun σ H Q=>to σ H fun x H1=>tyV K T x H1∧r x [] H1 Q
noncomputable def tBM (K:PySem.W.Frag) (T:String) (r:V→List V→Hp→VK→Prop) (to:TE) (t:TA):TE:=fun σ H Q=>to σ H fun x H1=>tyV K T x H1∧t σ H1 fun xs H2=>r x xs H2 Q
variable {o e:Expr} {es:List Expr} {to:TE} {t:TA} {name:Str} {apos cpos:Pos} {T id:String} {r:V→List V→Hp→VK→Prop}
theorem QZ (pa:PlainAttrs T) (slot:Slot T name id) (hty:typeOf (.builtin id)=pure (.type "method_descriptor")) (hm:MtR X id r) (ho:PE X o to)
 (hbase:attributeBase o name X.env (eval o X.env)=eval o X.env:=by rfl) (hline:(apos.endLine == cpos.line)=true:=by rfl):PE X (.Call (.Attribute o name apos) [] [] cpos) (Xc X.K T r to):=by
 intro pins s σ H Q I h
 refine wpAny_Call_method0_late hbase hline (thn (ho pins s σ H _ I h) fun v s1 ⟨x,H1,I1,r1,ty,q1⟩=>?_)
 obtain ⟨h1,h2⟩:=Iw I1 r1 ty
 exact ⟨T,id,pa,slot,hty,h1,h2,Calls.callWith_builtin rfl (PySem.evalArgs_none (hm pins s1 σ H1 x [] v [] Q I1 r1 .nil q1))⟩
theorem Iz (pa:PlainAttrs T) (slot:Slot T name id) (hty:typeOf (.builtin id)=pure (.type "method_descriptor")) (hm:MtR X id r) (ho:PE X o to) (ha:PA X (e :: es) t)
 (hbase:attributeBase o name X.env (eval o X.env)=eval o X.env:=by rfl)
 (hfew:((backTo cpos (starEach (e :: es) X.env)).all (fun x=>!x.1) && (backToKw cpos (keywordEach [] X.env)).all (fun x=>x.1.isSome)
  && decide ((e :: es).length + ([]:List Keyword).length + (if ([]:List Keyword).isEmpty then 0 else 1) < 30))=true:=by rfl)
 (hline:(apos.endLine == cpos.line)=true:=by rfl) (hs:starEach (e :: es) X.env=(false,eval e X.env) :: starEach es X.env:=by rfl) (hplain:(backTo cpos (starEach es X.env)).any (·.1)=false:=by rfl) :
 PE X (.Call (.Attribute o name apos) (e :: es) [] cpos) (tBM X.K T r to t):=by
 intro pins s σ H Q I h
 refine wpAny_Call_method_late hbase hfew hline rfl (thn (ho pins s σ H _ I h) fun v s1 ⟨x,H1,I1,r1,ty,q1⟩=>?_)
 obtain ⟨h1,h2⟩:=Iw I1 r1 ty
 refine ⟨T,id,pa,slot,hty,h1,h2,?_⟩
 have hA:=ha cpos pins s1 σ H1 _ I1 q1
 rw [hs] at hA ⊢
 refine Calls.callWith_builtin (by show (false || (backTo cpos (starEach es X.env)).any (·.1))=false;rw [hplain] <;> rfl) (Calls.evalArgs_plain ?_)
 exact thn hA fun us s2 ⟨vs,H2,I2,r2,q2⟩=>hm pins s2 σ H2 x vs v us Q I2 r1 r2 q2
/- xs.append(e),list.index on a module's tuple .. are MtR facts of 06m -/
end
end L2
namespace L2
open PySem PySem.Spec PyProof.Rows
noncomputable def MtM (X:Cx) (id:String) (r:V→List V→Hp→VK→Prop):Prop :=
 ∀ (pins:List (Addr × Obj)) (s:Shared) (σ:St) (H:Hp) (x:V) (xs:List V) (v:Value) (us:List Value) (Q:VK),Inv X pins σ H s→RelV x v→Vals xs us→r x xs H Q →
  wpAny (model X.prog X.w) X.A (call (.builtin id) (v :: us)) (EP X pins σ Q) X.xe s
theorem Vals.one:∀ {x:V} {us:List Value},Vals [x] us→∃ u,us=[u]∧RelV x u
 | _,_,.cons r .nil=>⟨_,rfl,r⟩
theorem Vals.two:∀ {x y:V} {us:List Value},Vals [x,y] us→∃ u v,us=[u,v]∧RelV x u∧RelV y v
 | _,_,_,.cons r (.cons q .nil)=>⟨_,_,rfl,r,q⟩
theorem Vals.zero:∀ {us:List Value},Vals [] us→us=[]
 | _,.nil=>rfl
theorem Vals.eraseIdx:∀ {xs:List V} {us:List Value} (i:Nat),Vals xs us→Vals (xs.eraseIdx i) (us.eraseIdx i)
 | _,_,_,.nil=>.nil
 | _,_,0,.cons _ t=>t
 | _,_,i + 1,.cons r t=>.cons r (Vals.eraseIdx i t)
theorem Vals.reverse {xs:List V} {us:List Value} (h:Vals xs us):Vals xs.reverse us.reverse:=by
 induction h with
 | nil=>exact .nil
 | cons r t ih=>rw [kI,kI];exact Vals.append ih (.cons r .nil)
theorem Vals.rep {xs:List V} {us:List Value} (h:Vals xs us):∀ k:Nat,Vals (bD k xs).flatten (bD k us).flatten
 | 0=>.nil
 | k + 1=>by
  rw [dh,dh,gO,gO]
  exact Vals.append h (Vals.rep h k)
theorem xT {α:Type}:∀ (l:List α) (i:Nat),(l.eraseIdx i).length ≤ l.length
 | [],_=>aQ _
 | _ :: _,0=>pR _
 | _ :: r,i + 1=>Nat.succ_le_succ (xT r i)
theorem foldl_rep (its:List Value):∀ (k:Nat) (acc:List Value),
 vq (fun x1 x2=>x1++x2) acc.toArray (bD k its.toArray)=(acc++(bD k its).flatten).toArray
 | 0,acc=>by simp
 | k + 1,acc=>by
  have e:acc.toArray++its.toArray=(acc++its).toArray:=by simp
  have e2:(acc++its)++(bD k its).flatten=acc++(bD (k + 1) its).flatten:=by
   rw [dh,gO,aW]
  rw [← e2,← foldl_rep its k (acc++its),← e,dh,pJ]
section
variable {X:Cx} {pins:List (Addr × Obj)} {σ:St} {H:Hp} {s:Shared} {l b:Addr} {xs ys zs:List V}
theorem Inv.lset {its its':List Value} {n:Nat} {f:Array Value→Array Value} {t':Nat} (I:Inv X pins σ H s) (hH:H l=some (.lst xs))
 (e:s.heap.get? l=some { cls:=.type "list", data:=.seq its.toArray n }) (hf:f its.toArray=its'.toArray) (hv:Vals ys its') (hz:ys.length ≤ sizeLine) :
 Inv X pins σ (upd H l (.lst ys)) { s with heap:=s.heap.update l (Obj.mapSeq f),toks:=t' }:=by
 have q:=PySem.IsL.update e f
 rw [hf] at q
 refine I.write (x:=l) (e:=l) (by rw [hH];exact trivial) (.inl rfl) (fun b' u hb hu=>(Heap.get?_update_other s.heap (Obj.mapSeq f) (Ne.symm hb)).trans hu) ⟨_,q⟩ ?_
 exact ⟨hz,its',_,hv,q⟩
theorem Inv.lnew {its:List Value} {t':Nat} (I:Inv X pins σ H s) (hv:Vals ys its) (hz:ys.length ≤ sizeLine) :
 Inv X pins σ (upd H s.heap.objs.size (.lst ys)) { s with heap:=s.heap.push { cls:=.type "list", data:=.seq its.toArray },toks:=t' } :=
 I.laid (fun _ _ q=>Heap.get?_push_of_some _ q) (aQ _) ⟨hz,its,0,hv,Heap.get?_push_size _ rfl⟩
theorem Inv.fresh (I:Inv X pins σ H s):H s.heap.objs.size=none:=I.hok.fresh (aQ _)
theorem Inv.lstM (I:Inv X pins σ H s) (hH:H l=some (.lst xs)):xs.length ≤ sizeLine∧∃ (its:List Value) (n:Nat),Vals xs its∧xs.length=its.length∧s.heap.get? l=some { cls:=.type "list", data:=.seq its.toArray n }:=by
 obtain ⟨z,its,n,r,e⟩:=I.hok l _ hH
 exact ⟨z,its,n,r,r.length,e⟩
theorem IK {n:Nat} (h:n ≤ sizeLine):Builtin.List.listTooLong n=false:=by
 unfold Builtin.List.listTooLong
 exact dFa (by omega)
end
section
variable {X:Cx}
noncomputable def Mj:V→List V→Hp→VK→Prop:=fun x vs H Q=>∃ l xs y,x = .ref l∧vs=[y]∧H l=some (.lst xs)∧xs.length < sizeLine∧Q .non (upd H l (.lst (xs++[y])))
theorem xU:MtM X "list.append" Mj:=by
 intro pins s σ H x vs v us Q I rx rv h
 obtain ⟨l,xs,y,rfl,rfl,hH,hz,q⟩:=h
 cases rx
 obtain ⟨u,rfl,ru⟩:=rv.one
 obtain ⟨z,its,n,r,hl,e⟩:=I.lstM hH
 refine call_meets F.slot_list_append ⟨_,e,rfl⟩ F.entry_list_append (F.args_list_append_2 _ _) (PySem.list_append l its.toArray n u (by rw [bx];omega)) ⟨e,?_⟩
 refine ⟨.non,_,I.lset (its':=its++[u]) hH e (by simp) (r.append (.cons ru .nil)) ?_,rfl,q⟩
 rw [bB,pP]
 omega
noncomputable def Q0:V→List V→Hp→VK→Prop:=fun x vs H Q=>∃ l xs i k y,x = .ref l∧vs=[.int i]∧H l=some (.lst xs)∧-(2 ^ 63) ≤ i∧i < 2 ^ 63∧seqIndex? i xs.length=some k∧xs[k]? = some y∧Q y (upd H l (.lst (xs.eraseIdx k)))
theorem IV:MtM X "list.pop" Q0:=by
 intro pins s σ H x vs v us Q I rx rv h
 obtain ⟨l,xs,i,k,y,rfl,rfl,hH,h1,h2,hk,hy,q⟩:=h
 cases rx
 obtain ⟨u,rfl,ru⟩:=rv.one
 obtain ⟨t,rfl⟩:=ru
 obtain ⟨z,its,n,r,hl,e⟩:=I.lstM hH
 obtain ⟨w,hw,rw'⟩:=r.get hy
 refine call_meets F.slot_list_pop ⟨_,e,rfl⟩ F.entry_list_pop (F.args_list_pop_2 _ _)
  (MeetsSeq.list_pop_at l its.toArray n i t k w (fitsIndex_both h1 h2) (by rw [bx,← hl];exact hk) (by rw [← cD];exact hw) (by rw [bx];omega)) ⟨e,?_⟩
 refine ⟨y,_,I.lset (its':=its.eraseIdx k) hH e ?_ (r.eraseIdx k) ?_,rw',q⟩
 ·show its.toArray.eraseIdxIfInBounds k=(its.eraseIdx k).toArray
  rw [List.eraseIdxIfInBounds_toArray]
 ·have:=xT xs k
  omega
noncomputable def IW:V→List V→Hp→VK→Prop:=fun x vs H Q=>∃ l xs,x = .ref l∧vs=[]∧H l=some (.lst xs)∧Q .non (upd H l (.lst xs.reverse))
theorem Cp:MtM X "list.reverse" IW:=by
 intro pins s σ H x vs v us Q I rx rv h
 obtain ⟨l,xs,rfl,rfl,hH,q⟩:=h
 cases rx
 have hus:=rv.zero
 subst hus
 obtain ⟨z,its,n,r,hl,e⟩:=I.lstM hH
 refine call_meets F.slot_list_reverse ⟨_,e,rfl⟩ F.entry_list_reverse (F.args_list_reverse_1 _) (AutoSeq1.list_reverse_list_0 l its.toArray n (by rw [bx];omega)) ⟨e,?_⟩
 refine ⟨.non,_,I.lset (its':=its.reverse) hH e (by simp) r.reverse ?_,rfl,q⟩
 rw [rO]
 omega
noncomputable def Xd:R2:=fun x y H Q=>∃ l k xs,x = .ref l∧y = .int k∧H l=some (.lst xs)∧-(2 ^ 63) ≤ k∧k < 2 ^ 63∧xs.length * k.toNat ≤ sizeLine ∧
 ∀ p,H p=none→Q (.ref p) (upd H p (.lst (bD k.toNat xs).flatten))
theorem len_rep {α:Type} (xs:List α) (k:Nat):(bD k xs).flatten.length=k * xs.length:=by
 induction k with
 | zero=>simp
 | succ k ih=>rw [dh,gO,bB,ih,Nat.succ_mul,Nat.add_comm]
theorem Q5:OpR X (binaryOp .Mult) Xd:=by
 intro pins s σ H x y v u Q I rx ry h
 obtain ⟨l,k,xs,rfl,rfl,hH,h1,h2,hz,q⟩:=h
 cases rx
 obtain ⟨t,rfl⟩:=ry
 obtain ⟨z,its,n,r,hl,e⟩:=I.lstM hH
 have hlen:its.toArray.size * k.toNat ≤ sizeLine:=by rw [bx,← hl];exact hz
 have hcap:¬ its.toArray.size * k.toNat > (2 ^ 63 - 1) / 8:=by
  have:(sizeLine:Nat) ≤ (2 ^ 63 - 1) / 8:=by decide
  omega
 have hfit:¬ (!Builtin.List.listFitsIndex k)=true:=by
  rw [fitsIndex_both h1 h2]
  exact aU
 have hlong:¬ Builtin.List.listTooLong (its.toArray.size * k.toNat)=true:=by
  rw [IK hlen]
  exact aU
 have hnew:vq (fun x1 x2=>x1++x2) #[] (bD (if its.toArray.isEmpty=true then 0 else k.toNat) its.toArray)=(bD k.toNat its).flatten.toArray:=by
  have f0:∀ m:Nat,vq (fun x1 x2=>x1++x2) #[] (bD m its.toArray)=(bD m its).flatten.toArray:=fun m=>by
   have:=foldl_rep its m []
   rw [jq] at this
   exact this
  rw [f0]
  cases its with
  | nil=>simp
  | cons a r'=>rw [if_neg (by simp)]
 refine wpAny_binaryOp_repeat_ref (T := "list") (U := "int") (by decide) ⟨_,e,rfl⟩ (fun s'=>typeIs_int s' k t) noFill_list_mul F.fills_int_mul F.slot_int_rmul repeat_list F.slot_int_index.lookup
  (call_meets F.slot_int_rmul (typeIs_int s k t) F.entry_int_rmul (F.args_int_rmul_2 _ _) (int___rmul___int_list k t l its.toArray n)
   ⟨e,rfl,⟨_,e,rfl⟩,call_meets F.slot_list_mul ⟨_,e,rfl⟩ F.entry_list_mul (F.args_list_mul_2 _ _) (AutoListH.list___mul___list_int_3 l its.toArray n k t hfit hcap hlong) ⟨e,?_⟩⟩)
 rw [hnew]
 exact ⟨.ref _,_,I.lnew (t':=s.toks) (r.rep k.toNat) (by rw [len_rep,Nat.mul_comm];exact hz),rfl,q _ I.fresh⟩
end
section
variable {prog:Program} {w:World} {A:Around} {E:Value→Shared→Prop} {s:Shared}
set_option maxRecDepth 100000 in
end
section
variable {X:Cx}
end
end L2
namespace Att
open PySem PySem.W PySem.Calls PyProof.Rows
theorem uQ {P:Params} {h:Heap}:∀ (ns:List Int) (vs:List Value),WellAll P h vs (ns.map WData.int)→IntsAre vs ns:=by
 intro ns
 induction ns with
 | nil =>
  intro vs w
  rw [o7] at w
  cases w
  exact .nil
 | cons n ns ih =>
  intro vs w
  rw [bM] at w
  cases w with
  | cons a b =>
   cases a
   exact .cons _ _ (ih _ b)
theorem GC {l:OpenLaw} {n:Nat} (hn:l.most=some n) {P:Params} {h:Heap} {args:List WData} {vals:List Value}
 (hpre:l.row.toRowW.claim.pre args=true) (hwl:WellAll P h vals args) :
 ∃ a vs ns,vals=[Value.ref a]∧args=[WData.list (ns.map WData.int)]∧h.get? a=some { cls:=.type "list", data:=.seq vs.toArray }∧IntsAre vs ns∧ns.length ≤ n:=by
 have hsh:WShape.hasAll [] args [.list .int]=true:=(pre_splitW hpre).1
 have hc:l.pre.holds [] { args:=args }=true:=(pre_splitW hpre).2
 obtain ⟨d,r,rfl,h1,h2⟩:=hasAllW_cons hsh
 obtain rfl:=hasAllW_nil h2
 obtain ⟨xs,rfl,h3⟩:=hasW_list h1
 obtain ⟨ns,rfl⟩:=items_int h3
 have hlen:ns.length ≤ n:=by
  unfold OpenLaw.pre at hc
  have h4:(WTm.not (.lt (.lit (.int (n:Int))) (.len (.arg 0)))).holds [] { args:=[.list (ns.map .int)] }=true:=by
   have h4:=(holds_andW hc).1
   rw [hn] at h4
   exact h4
  have h5:=condW_of h4 (w_not (w_lt w_lit (w_len_list (w_arg rfl))))
  rw [aH] at h5
  refine Nat.le_of_not_lt fun q=>?_
  have q':(n:Int) < ((ns.length:Nat):Int):=by omega
  first
   | (rw [dTr q'] at h5;exact absurd h5 (by decide))
   | (simp at h5;omega)
 cases hwl with
 | cons w1 w2 =>
  cases w2
  cases w1 with
  | list ho hall=>exact ⟨_,_,ns,rfl,rfl,ho,uQ ns _ hall,hlen⟩
theorem GD (l:OpenLaw) (args:List WData):l.row.toRowW.claim.post args (.bool true) args=true :=
 postW_of (r:=l.row.toRowW) (X:=(true == true))
  (show WShape.has [] (.bool true) .bool=true by first | rfl | decide | simp [WShape.has,WShape.arms,WShape.armsAll])
  (show (WTm.eq .res (.lit (.bool true))).value [] { args:=args,res:=some (.bool true),after:=args }=some (.bool (true == true)) from w_eq_bool (w_res rfl) w_lit) rfl
theorem Aj {l:OpenLaw} {n:Nat} {q:Program} {loose:List Str} {XP:(Str→Option Value)→Heap→Prop} {YP:World→Heap→Prop} {d:DefRec}
 (hn:l.most=some n) (hdf:d.params.defaults=[])
 (call:∀ (w:World) (s₀ s₁:Shared) (mg mb:Str→Option Value) (fa:Addr) (o:Obj) (pm cd doc:Value) (a:Addr) (vs:List Value) (ns:List Int),
  Ground q loose [] XP w s₀ mg mb s₁.heap→YP w s₁.heap →
  s₁.heap.get? fa=some o→o.data = .func (docDef d.name d.params d.body d.scope pm cd doc)→s₁.heap.CodeRec cd d.name→mg d.name=some (.ref fa) →
  s₁.heap.get? a=some { cls:=.type "list", data:=.seq vs.toArray }→IntsAre vs ns→ns.length ≤ n→s₁.gens = #[] →
  codeAny (model l.prog w) callerA (.call (.ref fa) ⟨[.ref a],[]⟩) (fun r s'=>r = .ok (.ret (.bool true))∧OldK s₁.heap s'.heap∧s'.os=s₁.os∧AllBare s'.gens) s₁) :
 WalkO q loose XP YP l.row.toRowW d [] (fun f vs=>PySem.call f vs):=by
 intro w s₀ s₁ mg mb G Y fa o pm cd doc dV kV ho hd hcd hD hmg hg args vals as hpre hlay hrd hwl hlo
 obtain rfl:dV = .none:=Dflts.none hD hdf
 obtain rfl:kV = .none:=Dflts.noKw hD
 obtain ⟨a,vs,ns,rfl,rfl,hobj,hints,hlen⟩:=GC hn hpre hwl
 refine enter_call (codeAny_mono (call w s₀ s₁ mg mb fa o pm cd doc a vs ns G Y ho (fd_plain hd) hcd hmg hobj hints hlen hg) fun r s' hq=>?_)
 obtain ⟨rfl,h2,h3,h4⟩:=hq
 exact ⟨.inl ⟨.bool true,.bool true,[],rfl,fun _=>rfl,.bool true,GD l _,fun _=>⟨List.Pairwise.nil,fun _ hm=>(nomatch hm)⟩⟩,h2,h3,h4⟩
section
variable {prog:Program} {w:World} {A:Around} {E:Value→Shared→Prop} {s:Shared} {K:Frag}
end
end Att
namespace L2
open PySem PySem.Spec PyProof.Rows
theorem lH:∀ {vs:List Value} {ns:List Int},IntsAre vs ns→Vals (ns.map V.int) vs
 | _,_,.nil=>.nil
 | _,_,.cons n t h=>.cons ⟨t,rfl⟩ (lH h)
noncomputable def Only (H:Hp):Prop:=∀ b,H b=none∨∃ o xs,H b=some (.frz o (.lst xs))
noncomputable def vH (ts:List (Addr × Str × Pos)) (H:Hp):Hp:=fun b=>match ts.find? (fun t=>t.1 == b) with
 | some t=>some (.tbl t.2.1 t.2.2)
 | none=>H b
theorem I_ (ts:List (Addr × Str × Pos)) (H:Hp) (b:Addr):(vH ts H b=H b∧∀ t ∈ ts,t.1 ≠ b)∨∃ t ∈ ts,t.1=b∧vH ts H b=some (.tbl t.2.1 t.2.2):=by
 unfold vH
 cases e:ts.find? (fun t=>t.1 == b) with
 | none=>exact .inl ⟨rfl,fun t ht z=>by have:=m6.mp e t ht;simp [z] at this⟩
 | some t =>
  have h1:=nJ e
  have h2:=List.find?_some e
  exact .inr ⟨t,h1,by simpa using h2,rfl⟩
theorem Ja {P:Program} {w:World} {K:PySem.W.Frag} {mg mb:Str→Option Value} {CX:CXT} {k:Nat} {fa a:Addr} {fd:FuncData} {x:Str} {sp:Sp} {s₁:Shared} {vs:List Value} {ns:List Int}
 (KX:K.In s₁.heap) (hns:s₁.heap.Ns mainGlobals mg) (hb:s₁.heap.Ns builtinsNs mb) (hbb:∀ x:Str,x ≠ "__name__" → mb x=bootBuiltins x) (hlim:s₁.heap.NoLimit) (hbm:∃ bm ob,mg "__builtins__" = some (.ref bm)∧bm ≠ builtinsNs∧s₁.heap.get? bm=some ob∧ob.cls = .type "module" ∧ ob.dict=some builtinsNs∧ob.data = .plain) (hg:s₁.gens = #[])
 (ha:s₁.heap.get? a=some { cls:=.type "list", data:=.seq vs.toArray }) (hi:IntsAre vs ns) (hl:ns.length ≤ sizeLine) (hr:Room k callerA)
 (F:∀ base:Heap,K.In base→base.Ns mainGlobals mg→FnOk P w K mg base CX k fa fd [x] sp) (hbind:∀ (s:Shared) (u:Value),BindsTo s fd ⟨[u],[]⟩ [(x,u)])
 (ts:List (Addr × Str × Pos)) (hts:∀ t ∈ ts,s₁.heap.get? t.1=some { cls:=.none,data:=.fields #[] }) (hCT:∀ t ∈ ts,isCodeTable s₁.heap t.1) (hKt:∀ t ∈ ts,K.lookup t.1=none) (htu:∀ t ∈ ts,∀ t' ∈ ts,t.1=t'.1→t=t')
 (hsp:∀ H:Hp,(∀ t ∈ ts,H t.1=some (.tbl t.2.1 t.2.2))→SqL K H a (ns.map V.int)→sp [.ref a] H (fun v _=>v = .bl true) fun _ _ _=>False)
 (hCX:∀ H e s',CX [] H s₁ (fun _ _ _=>False) e s'→False) :
 codeAny (model P w) callerA (.call (.ref fa) ⟨[.ref a],[]⟩) (fun r s'=>r = .ok (.ret (.bool true))∧OldK s₁.heap s'.heap∧s'.os=s₁.os∧AllBare s'.gens) s₁:=by
 have rv:=lH hi
 have lenV:=hi.length
 have core:∀ H:Hp,(∀ b,H b=none∨(∃ o xs,H b=some (.frz o (.lst xs)))∨∃ t ∈ ts,t.1=b∧H b=some (.tbl t.2.1 t.2.2))→(∀ t ∈ ts,H t.1=some (.tbl t.2.1 t.2.2))→SqL K H a (ns.map V.int)→HOk P w H s₁.heap→(∀ b,H b ≠ none→b=a∨∃ t ∈ ts,t.1=b)→(H a ≠ none→K.lookup a=none) →
  codeAny (model P w) callerA (.call (.ref fa) ⟨[.ref a],[]⟩) (fun r s'=>r = .ok (.ret (.bool true))∧OldK s₁.heap s'.heap∧s'.os=s₁.os∧AllBare s'.gens) s₁:=by
  intro H hO hT hS hok hA hK
  have base_of:∀ {b:Addr} {o:Obj},s₁.heap.get? b=some o→H b=none→(yG s₁.heap H).get? b=some o:=fun e n=>HW e n
  have noA:∀ {b:Addr} {o:Obj} {es:Array DictEntry} {ep:Nat},s₁.heap.get? b=some o→o.data = .dict es ep→H b=none:=fun {b o es ep} e d=>by
   cases q:H b with
   | none=>rfl
   | some u =>
    rcases hA b (by rw [q];simp) with e' | ⟨t,ht,e'⟩
    case inr =>
     subst e'
     rw [hts t ht] at e;cases e
     have d':Data.fields #[]=Data.dict es ep:=d
     cases d'
    subst e'
    rw [ha] at e;cases e
    have d':Data.seq vs.toArray _=Data.dict es ep:=d
    cases d'
  have nsK:∀ {b:Addr} {m:Str→Option Value},s₁.heap.Ns b m→(yG s₁.heap H).Ns b m:=fun {b m} ⟨o,es,ep,e,d,r⟩=>⟨o,es,ep,base_of e (noA e d),d,r⟩
  have hKb:K.In (yG s₁.heap H):=fun b o e=>base_of (KX b o e) (by
   cases q:H b with
   | none=>rfl
   | some u =>
    rcases hA b (by rw [q];simp) with e' | ⟨t,ht,e'⟩
    ·subst e'
     rw [hK (by rw [q];simp)] at e;cases e
    ·subst e'
     rw [hKt t ht] at e;cases e)
  have hM:Mod K mg (yG s₁.heap H):=⟨hKb,nsK hns,⟨mb,nsK hb,hbb⟩,let ⟨mc,h1,h2⟩:=hlim;⟨mc,nsK h1,h2⟩,let ⟨bm,ob,g1,g2,g3,g4,g5,g6⟩:=hbm;⟨bm,ob,g1,g2,base_of g3 (by
   cases q:H bm with
   | none=>rfl
   | some u =>
    rcases hA bm (by rw [q];simp) with e' | ⟨t,ht,e'⟩
    ·rw [e',ha] at g3;cases g3
     have z:Value.type "list" = Value.type "module" := g4
     injection z with z
     exact absurd z (by decide)
    ·rw [← e',hts t ht] at g3;cases g3
     cases g4),g4,g5,g6⟩⟩
  have e0:Env0 P w K mg (yG s₁.heap H) callerA [] s₁ H:=⟨rfl,hM,fun b o e=>Lj e,sV (Gr _ _),trivial,fun b hb=>absurd (show b ∈ ([]:List Addr) from hb) (by simp),hok,.of_eq hg⟩
  refine codeAny_mono ((F _ hKb (nsK hns)).run callerA [] s₁ H ⟨[.ref a],[]⟩ [.ref a] [.ref a] _ _ hr e0 (hbind s₁ (.ref a)) (.cons rfl .nil) (hsp H hT hS)) fun r s' h=>?_
  cases r with
  | error e=>exact (hCX H e s' h).elim
  | ok fl =>
   cases fl with
   | next=>exact False.elim h
   | brk=>exact False.elim h
   | cont=>exact False.elim h
   | ret u =>
    obtain ⟨v,H',os,bare,un,hok',r',q⟩:=h
    have q':v = .bl true:=q
    subst q'
    obtain rfl:u=Value.bool true:=r'
    refine ⟨rfl,⟨fun b o e=>?_,fun b o e=>un.there b o e (by simp)⟩,os,bare⟩
    cases q:H b with
    | none=>exact .inl <| un.keep b o e q (by intro z;exact absurd (show b ∈ ([]:List Addr) from z) (by simp)) (by simp)
    | some u =>
     rcases hO b with z | ⟨ob,xs,z⟩ | ⟨t,ht,rfl,z⟩
     case inr.inr =>
      have z2:=un.tbls _ _ _ z
      obtain ⟨ps,e2,_⟩:=hok' _ _ z2
      rw [hts t ht] at e;cases e
      exact .inr (.inl ⟨hCT t ht,rfl,#[],ps,rfl,by rw [e2];simp⟩)
     ·rw [q] at z;cases z
     ·have z2:=un.frzs b ob _ z
      obtain ⟨e1,_⟩:=hok b _ z
      obtain ⟨e2,_⟩:=hok' b _ z2
      rw [e] at e1;cases e1
      exact .inl e2
 have core1:∀ H:Hp,Only H→SqL K H a (ns.map V.int)→HOk P w H s₁.heap→(∀ b,H b ≠ none→b=a)→(H a ≠ none→K.lookup a=none) →
  codeAny (model P w) callerA (.call (.ref fa) ⟨[.ref a],[]⟩) (fun r s'=>r = .ok (.ret (.bool true))∧OldK s₁.heap s'.heap∧s'.os=s₁.os∧AllBare s'.gens) s₁:=by
  intro H hO hS hok hA hK
  have na:∀ t ∈ ts,t.1 ≠ a:=fun t ht z=>by
   have z2:=hts t ht
   rw [z,ha] at z2
   cases z2
  have cs:∀ b,(vH ts H b=H b∧∀ t ∈ ts,t.1 ≠ b)∨∃ t ∈ ts,t.1=b∧vH ts H b=some (.tbl t.2.1 t.2.2):=I_ ts H
  have la:vH ts H a=H a:=by
   rcases cs a with z | ⟨t,ht,z,_⟩
   ·exact z.1
   ·exact absurd z (na t ht)
  have noown:∀ b x,H b ≠ some (.own x):=fun b x z=>by rcases hO b with y | ⟨_,_,y⟩ <;> (rw [y] at z;cases z)
  have notup:∀ b x,H b ≠ some (.tup x):=fun b x z=>by rcases hO b with y | ⟨_,_,y⟩ <;> (rw [y] at z;cases z)
  refine core (vH ts H) (fun b=>?_) (fun t ht=>?_) ?_ (fun b u z=>?_) (fun b z=>?_) (fun z=>hK (by rw [← la];exact z))
  ·rcases cs b with z | ⟨t,ht,z1,z2⟩
   ·rcases hO b with y | y
    ·exact .inl (z.1.trans y)
    ·obtain ⟨o,xs,y⟩:=y
     exact .inr (.inl ⟨o,xs,z.1.trans y⟩)
   ·exact .inr (.inr ⟨t,ht,z1,z2⟩)
  ·rcases cs t.1 with z | ⟨t',ht',z1,z2⟩
   ·exact absurd rfl (z.2 t ht)
   ·have:=htu t' ht' t ht z1
    subst this
    exact z2
  ·rcases hS with (z | ⟨o,z⟩) | z
   ·exact .inl (.inl (by rw [la];exact z))
   ·exact .inl (.inr ⟨o,by rw [la];exact z⟩)
   ·exact .inr z
  ·rcases cs b with y | ⟨t,ht,z1,z2⟩
   ·rw [y.1] at z
    exact (hok b u z).stay (fun _ _ _ q=>q) (fun c q=>absurd q (noown c b)) fun c xs q=>absurd q (notup c xs)
   ·rw [z2] at z
    cases z
    subst z1
    exact ⟨#[],hts t ht,.inl rfl⟩
  ·rcases cs b with y | ⟨t,ht,z1,z2⟩
   ·exact .inl (hA b (by rw [← y.1];exact z))
   ·exact .inr ⟨t,ht,z1⟩
 cases hk:K.lookup a with
 | some o =>
  have e:=KX a o hk
  rw [ha] at e
  cases e
  refine core1 (fun _=>none) (fun _=>.inl rfl) (.inr ⟨_,vs.toArray,_,hk,rfl,rfl,rfl,by rw [bx,lenV];exact hl,by simpa using rv⟩) (fun b u z=>by have z':(none:Option HO)=some u:=z;cases z') (fun b z=>absurd rfl z) fun z=>absurd rfl z
 | none =>
  refine core1 (fun b=>if b=a then some (.frz { cls:=.type "list", data:=.seq vs.toArray } (.lst (ns.map V.int))) else none) (fun b=>?_) (.inl (.inr ⟨{ cls:=.type "list", data:=.seq vs.toArray },if_pos rfl⟩)) (fun b u z=>?_) (fun b z=>?_) fun _=>hk
  ·by_cases hb:b=a
   ·exact .inr ⟨_,_,if_pos hb⟩
   ·exact .inl (if_neg hb)
  ·by_cases hb:b=a
   ·have z':=(if_pos hb).symm.trans z
    cases z'
    subst hb
    exact ⟨ha,by rw [aH];exact hl,vs,_,rv,ha⟩
   ·have z':=(if_neg hb).symm.trans z
    cases z'
  ·by_cases hb:b=a
   ·exact hb
   ·exact absurd (if_neg hb) z
end L2
namespace L2
open PySem PySem.Spec PyProof.Rows
noncomputable abbrev KOf {K:PySem.W.Frag} {h:Heap} (_:K.In h):PySem.W.Frag:=K
theorem Mp {l:PySem.W.OpenLaw} {n k:Nat} {q:Program} {loose:List Str} {XP:(Str→Option Value)→Heap→Prop} {YP:World→Heap→Prop} {d:DefRec} {K:Params→PySem.W.Frag} {CX:World→CXT} {sp:World→Sp} {x:Str}
 (hn:l.most=some n) (hn2:n ≤ sizeLine) (hdf:d.params.defaults=[]) (hr:Room k callerA)
 (hY:∀ (w:World) (h:Heap),YP w h→(K w.params).In h)
 (F:∀ (w:World) (mg:Str→Option Value) (fa:Addr) (h:Heap),(K w.params).In h→h.Ns mainGlobals mg→mg d.name=some (.ref fa) →
  ∃ fd:FuncData,(∀ (s:Shared) (u:Value),BindsTo s fd ⟨[u],[]⟩ [(x,u)]) ∧
   ∀ base:Heap,(K w.params).In base→base.Ns mainGlobals mg→FnOk l.prog w (K w.params) mg base (CX w) k fa fd [x] (sp w))
 (ts:List (Addr × Str × Pos)) (hts:∀ (w:World) (h:Heap),YP w h→(∀ t ∈ ts,h.get? t.1=some { cls:=.none,data:=.fields #[] })∧(∀ t ∈ ts,isCodeTable h t.1)∧∀ t ∈ ts,(K w.params).lookup t.1=none) (htu:∀ t ∈ ts,∀ t' ∈ ts,t.1=t'.1→t=t')
 (hsp:∀ (w:World) (H:Hp) (a:Addr) (ns:List Int),ns.length ≤ n→(∀ t ∈ ts,H t.1=some (.tbl t.2.1 t.2.2))→SqL (K w.params) H a (ns.map V.int)→sp w [.ref a] H (fun v _=>v = .bl true) fun _ _ _=>False)
 (hCX:∀ (w:World) (H:Hp) (s:Shared) (e:Value) (s':Shared),CX w [] H s (fun _ _ _=>False) e s'→False) :
 PySem.W.WalkO q loose XP YP l.row.toRowW d [] (fun f vs=>PySem.call f vs):=by
 refine Att.Aj hn hdf fun w s₀ s₁ mg mb fa o pm cd doc a vs ns G Y ho hd hcd hmg hobj hints hlen hg=>?_
 have KX:=hY w _ Y
 obtain ⟨fd,hb,hF⟩:=F w mg fa _ KX G.T.g hmg
 exact Ja KX G.T.g G.T.b G.T.builtins G.T.nolimit G.T.bmain hg hobj hints (bV hlen hn2) hr hF hb ts (hts w _ Y).1 (hts w _ Y).2.1 (hts w _ Y).2.2 htu (fun H hO hS=>hsp w H a ns hlen hO hS) fun H e s'=>hCX w H s₁ e s'
theorem Jb {l:PySem.W.OpenLaw} {n k:Nat} {q:Program} {loose:List Str} {XP:(Str→Option Value)→Heap→Prop} {YP:World→Heap→Prop} {d:DefRec} {K:Params→PySem.W.Frag} {CX:CXT} {sp:PySem.W.Frag→Sp} {x:Str}
 (hn:l.most=some n) (hn2:n ≤ sizeLine) (hdf:d.params.defaults=[]) (hr:Room k callerA)
 (hY:∀ (w:World) (h:Heap),YP w h→(K w.params).In h)
 (F:∀ (w:World) (mg:Str→Option Value) (fa:Addr) (h:Heap),(K w.params).In h→h.Ns mainGlobals mg→mg d.name=some (.ref fa) →
  ∃ fd:FuncData,(∀ (s:Shared) (u:Value),BindsTo s fd ⟨[u],[]⟩ [(x,u)]) ∧
   ∀ base:Heap,(K w.params).In base→base.Ns mainGlobals mg→FnOk l.prog w (K w.params) mg base CX k fa fd [x] (sp (K w.params)))
 (ts:List (Addr × Str × Pos)) (hts:∀ (w:World) (h:Heap),YP w h→(∀ t ∈ ts,h.get? t.1=some { cls:=.none,data:=.fields #[] })∧(∀ t ∈ ts,isCodeTable h t.1)∧∀ t ∈ ts,(K w.params).lookup t.1=none) (htu:∀ t ∈ ts,∀ t' ∈ ts,t.1=t'.1→t=t')
 (hsp:∀ (K:PySem.W.Frag) (H:Hp) (a:Addr) (ns:List Int),ns.length ≤ n→(∀ t ∈ ts,H t.1=some (.tbl t.2.1 t.2.2))→SqL K H a (ns.map V.int)→sp K [.ref a] H (fun v _=>v = .bl true) fun _ _ _=>False)
 (hCX:∀ (H:Hp) (s:Shared) (e:Value) (s':Shared),CX [] H s (fun _ _ _=>False) e s'→False) :
 PySem.W.WalkO q loose XP YP l.row.toRowW d [] (fun f vs=>PySem.call f vs) :=
 Mp (K:=K) (CX:=fun _=>CX) (sp:=fun w=>sp (K w.params)) hn hn2 hdf hr hY F ts hts htu (fun w H a ns h1 h2 h3=>hsp (K w.params) H a ns h1 h2 h3) fun _ H s e s'=>hCX H s e s'
end L2
/- THE LAST THEOREM (shape;LID,My.* are yours):
   My.Adr: a structure of the addresses that your layer names (classes,functions);My.Txt K t: a structure (Prop) of the equations over K;
   My.txt_mk:{K} {implicit addresses ..} (e1:nsIn K mainGlobals "law" = some (some (.ref f))) (e2:K.lookup f=some ⟨oc,od,.func (fnOf "law" "law" params body scope dV kV doc pm an cdv ct),sl⟩) (e3:codeIn K cdv "law" = true) .. : ∃ t,My.Txt K t
set_option maxRecDepth 100000 in
set_option maxHeartbeats 0 in
(the tactic k_is has no namespace: write k_is) -/
namespace L2
open PySem PySem.Spec PyProof.Rows
noncomputable def nQ (s:Stmt):Arguments:=match s with
 | .FunctionDef _ a _ _ _ _ _ _ _ _=>a
 | _=>{ posonlyargs:=[],args:=[],vararg:=none,kwonlyargs:=[],kw_defaults:=[],kwarg:=none,defaults:=[] }
noncomputable def jM (s:Stmt):List Stmt:=match s with
 | .FunctionDef _ _ b _ _ _ _ _ _ _=>b
 | _=>[]
noncomputable def bG (s:Stmt):Scope:=match s with
 | .FunctionDef _ _ _ _ _ _ sc _ _ _=>sc
 | _=>{ kind:=.function,names:=[],isGenerator:=false,isCoroutine:=false }
noncomputable abbrev CX0:CXT:=fun _ _ _ _ _ _=>False
noncomputable abbrev E0:XK:=fun _ _ _=>False
theorem U4 {X:Cx}:Passes CX0 X E0:=fun _ _ _ _ _ _ _ h=>h.elim
structure Fun (K:PySem.W.Frag) (x qual:Str) (st:Stmt) (f:Addr) (fd:FuncData):Prop where
 ex:∃ (oc:Value) (od:Option Addr) (kV doc pm:Value) (an:Option Addr) (cdv ct:Value) (osl:Array (Option Value)),
  fd=PySem.W.fnOf x qual (nQ st) (jM st) (bG st) .none kV doc pm an cdv ct∧K.lookup f=some ⟨oc,od,.func fd,osl⟩∧PySem.W.codeIn K cdv qual=true
 kp:PySem.W.keepIn K (.ref f)=true
section
variable {P:Program} {w:World} {K:PySem.W.Frag} {mg:Str→Option Value} {base:Heap}
end
section
variable {X:Cx}
end
theorem Ak {A B:Prop} (h:B):if false=true then A else B:=by
 rw [if_neg aU]
 exact h
theorem Al {A B:Prop} (h:A):if true=true then A else B:=by
 rw [if_pos rfl]
 exact h
noncomputable def Same (H H':Hp):Prop:=∀ b o,H b=some o→H' b=some o
theorem Same.refl (H:Hp):Same H H:=fun _ _ h=>h
theorem Same.trans {H H1 H2:Hp} (a:Same H H1) (b:Same H1 H2):Same H H2:=fun c o h=>b c o (a c o h)
theorem Same.free {H H':Hp} (e:Same H H') {l:Addr} (h:H' l=Option.none):H l=Option.none:=by
 cases q:H l with
 | none=>rfl
 | some o =>
  rw [e l o q] at h
  cases h
theorem Same.seq {K:PySem.W.Frag} {H H':Hp} {a:Addr} {xs:List V} (e:Same H H') (h:SqL K H a xs):SqL K H' a xs:=by
 rcases h with (h | ⟨o,h⟩) | h
 ·exact .inl (.inl (e _ _ h))
 ·exact .inl (.inr ⟨o,e _ _ h⟩)
 ·exact .inr h
end L2
namespace My
open PySem PySem.Spec PyProof.Rows L2
noncomputable abbrev St:=L2.St
theorem fX {H:Hp} {p:Addr} (h:H p=none) (o:HO):Same H (upd H p o):=fun b u q=>by rw [dU (lG q h)];exact q
structure Df (K:PySem.W.Frag) (mg:Str→Option Value) (x:Str) (st:Stmt) (ps:List Str):Prop where
 ex:∃ (f:Addr) (fd:FuncData),Fun K x x st f fd∧Binds K fd ps []∧mg x=some (.ref f)
structure Has (P:Program) (w:World) (K:PySem.W.Frag) (mg:Str→Option Value) (base:Heap) (n:Nat) (x:Str) (ps:List Str) (sp:Sp):Prop where
 ex:∃ (f:Addr) (fd:FuncData),FnOk P w K mg base CX0 n f fd ps sp∧Binds K fd ps []∧PySem.W.keepIn K (.ref f)=true∧mg x=some (.ref f)
section
variable {P:Program} {w:World} {K:PySem.W.Frag} {mg:Str→Option Value} {base:Heap} {x:Str} {ps N:List Str} {sp:Sp} {st:Stmt} {k n:Nat}
theorem Has.mono (h:Has P w K mg base k x ps sp) (l:k ≤ n):Has P w K mg base n x ps sp:=by
 obtain ⟨f,fd,F,b,kp,m⟩:=h.ex
 exact ⟨f,fd,F.mono l,b,kp,m⟩
end
section
variable {X:Cx} {x:Str} {ps:List Str} {sp:Sp} {n:Nat} {p pos:Pos} {e:Expr} {es:List Expr} {t:TA}
theorem Am (h:Has X.prog X.w X.K X.mg X.base n x ps sp) (hr:Room n X.A) (ha:PA X (e :: es) t) (hg:Gl X x:=by rfl) (hdb:(x == ("__debug__" : Str))=false:=by decide)
 (he:starEach (e :: es) X.env=(false,eval e X.env) :: starEach es X.env:=by rfl) (hpl:(backTo pos (starEach es X.env)).any (·.1)=false:=by rfl) :
 PE X (.Call (.Name x p) (e :: es) [] pos) (Pz sp [] E0 t):=by
 obtain ⟨f,fd,F,b,kp,m⟩:=h.ex
 exact LR F hr hg m kp b .nil U4 ha hdb he hpl
end
mutual
inductive RdV (K:PySem.W.Frag) (H:Hp):V→PyData→Prop
 | non:RdV K H .non .none
 | bl (b:Bool):RdV K H (.bl b) (.bool b)
 | int (i:Int):RdV K H (.int i) (.int i)
 | str (x:Str):RdV K H (.str x) (.str x)
 | lst {a:Addr} {xs:List V} {ds:List PyData}:SqL K H a xs→RdVs K H xs ds→RdV K H (.ref a) (.list ds)
 | tup {a:Addr} {xs:List V} {ds:List PyData}:SqT K H a xs→RdVs K H xs ds→RdV K H (.ref a) (.tuple ds)
inductive RdVs (K:PySem.W.Frag) (H:Hp):List V→List PyData→Prop
 | nil:RdVs K H [] []
 | cons {v:V} {d:PyData} {vs:List V} {ds:List PyData}:RdV K H v d→RdVs K H vs ds→RdVs K H (v :: vs) (d :: ds)
end
section
variable {X:Cx} {pins:List (Addr × Obj)} {σ:St} {H:Hp} {s:Shared}
mutual
theorem RdV.reads (I:Inv X pins σ H s):∀ {v:V} {d:PyData},RdV X.K H v d→∀ {u:Value},RelV v u→∃ as,Reads s.heap u d as
 | _,_,.non,_,r=>by cases r;exact ⟨_,.none⟩
 | _,_,.bl b,_,r=>by cases r;exact ⟨_,.bool b⟩
 | _,_,.int i,_,r=>by obtain ⟨t,rfl⟩:=r;exact ⟨_,.int i t⟩
 | _,_,.str x,_,r=>by obtain ⟨t,rfl⟩:=r;exact ⟨_,.str x t⟩
 | _,_,.lst h q,_,r=>by
  cases r
  obtain ⟨its,rv,⟨o,n,e,c,_,d⟩,_⟩:=I.list h
  obtain ⟨as,z⟩:=RdVs.reads I q rv
  exact ⟨_,.list e c d (by simpa using z)⟩
 | _,_,.tup h q,_,r=>by
  cases r
  obtain ⟨its,rv,⟨o,e,c,n,d⟩,_⟩:=I.tuple h
  obtain ⟨as,z⟩:=RdVs.reads I q rv
  exact ⟨_,.tuple e c d (by simpa using z)⟩
theorem RdVs.reads (I:Inv X pins σ H s):∀ {vs:List V} {ds:List PyData},RdVs X.K H vs ds→∀ {us:List Value},Vals vs us→∃ as,ReadsAll s.heap us ds as
 | _,_,.nil,_,r=>by cases r;exact ⟨_,.nil⟩
 | _,_,.cons h q,_,r=>by
  cases r with
  | cons r1 r2 =>
   obtain ⟨as,z⟩:=RdV.reads I h r1
   obtain ⟨bs,y⟩:=RdVs.reads I q r2
   exact ⟨_,.cons z y⟩
end
end
section
variable {X:Cx}
noncomputable def Q6 (K:PySem.W.Frag):R2:=fun x y H Q=>∃ da db,RdV K H x da∧RdV K H y db∧SeqAt.shaped da=true∧SeqAt.shaped db=true∧Q (.bl (PyData.eqv da db)) H
noncomputable def U5 (K:PySem.W.Frag):R2:=fun x y H Q=>∃ da db,RdV K H x da∧RdV K H y db∧SeqAt.shaped da=true∧SeqAt.shaped db=true∧Q (.bl (!PyData.eqv da db)) H
theorem jA (hu:X.A.units + 64 < cLine):OpR X (compareOp .Eq) (Q6 X.K):=by
 intro pins s σ H x y v u Q I rx ry h
 obtain ⟨da,db,ha,hb,sa,sb,q⟩:=h
 obtain ⟨as,za⟩:=ha.reads I rx
 obtain ⟨bs,zb⟩:=hb.reads I ry
 exact SeqAt.compareEq_shaped za zb sa sb hu ⟨.bl _,H,I,rfl,q⟩
theorem Cq (hu:X.A.units + 64 < cLine):OpR X (compareOp .NotEq) (U5 X.K):=by
 intro pins s σ H x y v u Q I rx ry h
 obtain ⟨da,db,ha,hb,sa,sb,q⟩:=h
 obtain ⟨as,za⟩:=ha.reads I rx
 obtain ⟨bs,zb⟩:=hb.reads I ry
 exact SeqAt.compareNe_shaped za zb sa sb hu ⟨.bl _,H,I,rfl,q⟩
end
noncomputable def isT (c T:String):Bool:=T == c || (T == "bool" && c == "int")
section
variable {K:PySem.W.Frag}
theorem Q7 (h:c = "int" ∨ c = "bool" ∨ c = "tuple" ∨ c = "list" ∨ c = "str") (g:T = "NoneType" ∨ T = "bool" ∨ T = "int" ∨ T = "str" ∨ T = "list" ∨ T = "tuple" ∨ T = "dict") :
 PySem.W.kitOne K (.type T) (.type c)=some (isT c T):=by
 rcases h with rfl | rfl | rfl | rfl | rfl <;> rcases g with rfl | rfl | rfl | rfl | rfl | rfl | rfl <;> kernel_rfl
end
section
variable {X:Cx}
end
theorem big {X:Cx} {pins:List (Addr × Obj)} {σ:St} {H:Hp} {s:Shared} (I:Inv X pins σ H s):sysModules < s.heap.objs.size:=by
 have h:mainGlobals < s.heap.objs.size:=(I.mod.glob.keeps I.bk).lt
 exact mQ (by decide) h
theorem Jc {P:Program} {w:World} {H:Hp} (h:Heap) (hb:sysModules < h.objs.size):iI P w H (h.push { cls:=.type "dict", data:=.dict #[] }) h.objs.size (.dK []) :=
 ⟨fu _,beq_eq_false_iff_ne.mpr (Ne.symm (bN hb)),[],.nil,Heap.DictOf.new h⟩
noncomputable def Q8:TE:=fun _ H Q=>∀ p,H p=none→Q (.ref p) (upd H p (.dK []))
theorem Jd {X:Cx} {pos:Pos}:PE X (.Dict [] [] pos) Q8:=fun pins s σ H Q I h =>
 wpAny_Dict_empty ⟨.ref s.heap.objs.size,_,I.laid (a:=s.heap.objs.size) (o:=.dK []) (t':=s.toks) (fun _ _ q=>Heap.get?_push_of_some _ q) (aQ _) (Jc s.heap (big I)),rfl,h _ (I.hok.fresh (aQ _))⟩
end My
namespace My
open PySem PySem.Spec PyProof.Rows L2
section
variable {X:Cx} {a b c d:Expr} {ta tb tc td:TE} {pos:Pos}
noncomputable def Mq (r r' r'':R2) (ta tb tc td:TE):TE:=fun σ H Q=>ta σ H fun x H1=>tb σ H1 fun y H2=>r x y H2 fun z H3=>∃ k,z = .bl k ∧
 (if k=true then tc σ H3 fun w' H4=>r' y w' H4 fun z' H5=>∃ k',z' = .bl k'∧(if k'=true then td σ H5 fun v' H6=>r'' w' v' H6 Q else Q (.bl false) H5) else Q (.bl false) H3)
theorem GF {op op' op'':CmpOp} {r r' r'':R2} (ho:OpR X (compareOp op) r) (ho':OpR X (compareOp op') r') (ho'':OpR X (compareOp op'') r'') (ha:PE X a ta) (hb:PE X b tb) (hc:PE X c tc) (hd:PE X d td)
 (hm:lastMarks [op,op',op''] [b,c,d]=false:=by with_unfolding_all rfl):PE X (.Compare a [op,op',op''] [b,c,d] pos) (Mq r r' r'' ta tb tc td):=by
 intro pins s σ H Q I h
 refine Compare_chain (thn (ha pins s σ H _ I h) fun v s1 ⟨x,H1,I1,r1,q1⟩=>chain_link (thn (hb pins s1 σ H1 _ I1 q1) fun u s2 ⟨y,H2,I2,r2,q2⟩ =>
  thn (ho pins s2 σ H2 x y v u _ I2 r1 r2 q2) fun d s3 ⟨z,H3,I3,r3,k,e,q3⟩=>?_)) hm
 subst e
 cases r3
 refine wpAny_truthy_bool ?_
 cases k with
 | false=>exact ite_ff ⟨.bl false,H3,I3,rfl,q3⟩
 | true =>
  refine ite_tt (chain_link (thn (hc pins s3 σ H3 _ I3 q3) fun w' s4 ⟨z',H4,I4,r4,q4⟩=>thn (ho' pins s4 σ H4 y z' u w' _ I4 r2 r4 q4) fun d' s5 ⟨z2,H5,I5,r5,k2,e2,q5⟩=>?_))
  subst e2
  cases r5
  refine wpAny_truthy_bool ?_
  cases k2 with
  | false=>exact ite_ff ⟨.bl false,H5,I5,rfl,q5⟩
  | true=>exact ite_tt (chain_last (thn (hd pins s5 σ H5 _ I5 q5) fun w3 s6 ⟨z3,H6,I6,r6,q6⟩=>ho'' pins s6 σ H6 z' z3 w' w3 Q I6 r4 r6 q6))
end
structure Blt (mg:Str→Option Value):Prop where
 len_:mg "len" = none
 range_:mg "range" = none
 abs_:mg "abs" = none
 isinstance_:mg "isinstance" = none
 int_:mg "int" = none
 bool_:mg "bool" = none
 tuple_:mg "tuple" = none
 max_:mg "max" = none
 min_:mg "min" = none
end My
namespace My
open PySem PySem.Spec PyProof.Rows L2
noncomputable abbrev cx (P:Program) (w:World) (K:PySem.W.Frag) (mg:Str→Option Value) (base:Heap) (N:List Str) (x:Str) (st:Stmt) (f:Addr) (cdv:Value) (A:Around) (outer:List Env) (s:Shared) (H:Hp) (E:XK):Cx :=
 (Ck CX0 P w K mg base N x (bG st) f cdv A outer s H E).nox
end My
namespace My
open PySem PySem.Spec PyProof.Rows L2
noncomputable def pA (env:Env):List (Str × NameKind)→List (Str × Addr)→List (Str × Addr)
 | [],cs=>cs
 | (n,k) :: r,cs=>if (k == NameKind.free)=true then pA env r ((n,(env.cells.lookup n).getD 0) :: cs) else pA env r cs
theorem sE {env:Env}:∀ (l:List (Str × NameKind)) (cs:List (Str × Addr)),(∀ x ∈ l,x.2 = .free→∃ c,env.cells.lookup x.1=some c) →
 (forIn l cs fun (x:Str × NameKind) (r:List (Str × Addr))=>(if (x.2 == NameKind.free)=true then (do let c ← cellOf env x.1;pure (ForInStep.yield ((x.1,c) :: r))) else pure (ForInStep.yield r):Sem (ForInStep (List (Str × Addr)))))=pure (pA env l cs)
 | [],_,_=>rfl
 | (n,k) :: r,cs,h=>by
  rw [List.forIn_cons]
  by_cases hk:(k == NameKind.free)=true
  ·obtain ⟨c,hc⟩:=h (n,k) aP (beq_iff_eq.mp hk)
   have hc':cellOf env n=pure c:=by
    unfold cellOf
    rw [show env.cells.lookup n=some c from hc]
   show (do let x ← (if (k == NameKind.free)=true then (do let c ← cellOf env n;pure (ForInStep.yield ((n,c) :: cs))) else pure (ForInStep.yield cs):Sem (ForInStep (List (Str × Addr))));_)=_
   rw [if_pos hk,hc']
   have ih:=sE r ((n,c) :: cs) fun x hx=>h x (aL _ hx)
   rw [pA,if_pos hk,show env.cells.lookup n=some c from hc]
   exact ih
  ·show (do let x ← (if (k == NameKind.free)=true then (do let c ← cellOf env n;pure (ForInStep.yield ((n,c) :: cs))) else pure (ForInStep.yield cs):Sem (ForInStep (List (Str × Addr))));_)=_
   rw [if_neg hk]
   have ih:=sE r cs fun x hx=>h x (aL _ hx)
   rw [pA,if_neg hk]
   exact ih
theorem Cr {env:Env} {scope:Scope} (h:∀ x ∈ scope.names,x.2 = .free→∃ c,env.cells.lookup x.1=some c):closureFor scope env=pure (pA env scope.names []):=by
 have z:=sE (env:=env) scope.names [] h
 show (forIn scope.names [] fun (x:Str × NameKind) (r:List (Str × Addr))=>(if (x.2 == NameKind.free)=true then (do let c ← cellOf env x.1;pure (ForInStep.yield ((x.1,c) :: r))) else pure (ForInStep.yield r):Sem (ForInStep (List (Str × Addr))))) >>= (fun cs=>pure cs)=_
 rw [z]
 rfl
theorem vI {env:Env}:∀ (l:List (Str × NameKind)) (cs:List (Str × Addr)),(∀ x ∈ l,x.2 = .free→∃ c,env.cells.lookup x.1=some c)→(∀ x c,cs.lookup x=some c→env.cells.lookup x=some c) →
 ∀ x c,(pA env l cs).lookup x=some c→env.cells.lookup x=some c
 | [],_,_,hc,x,c,e=>hc x c e
 | (n,k) :: r,cs,h,hc,x,c,e=>by
  rw [pA] at e
  by_cases hk:(k == NameKind.free)=true
  ·rw [if_pos hk] at e
   obtain ⟨d,hd⟩:=h (n,k) aP (beq_iff_eq.mp hk)
   refine vI r _ (fun x hx=>h x (aL _ hx)) (fun y c' e'=>?_) x c e
   rw [dI] at e'
   cases hy:y == n with
   | true =>
    rw [hy] at e'
    have:y=n:=beq_iff_eq.mp hy
    subst this
    rw [show env.cells.lookup y=some d from hd] at e' ⊢
    exact e'
   | false =>
    rw [hy] at e'
    exact hc y c' e'
  ·rw [if_neg hk] at e
   exact vI r cs (fun x hx=>h x (aL _ hx)) hc x c e
theorem qd {env:Env}:∀ (l:List (Str × NameKind)) (cs:List (Str × Addr)) (x:Str),((x,NameKind.free) ∈ l∨∃ c,cs.lookup x=some c)→∃ c,(pA env l cs).lookup x=some c
 | [],_,x,h=>by
  rcases h with h | h
  ·exact absurd h (by simp)
  ·exact h
 | (n,k) :: r,cs,x,h=>by
  rw [pA]
  by_cases hk:(k == NameKind.free)=true
  ·rw [if_pos hk]
   refine qd r _ x ?_
   by_cases e:x=n
   ·subst e
    exact .inr ⟨_,by rw [dI,beq_self_eq_true]⟩
   ·rcases h with h | ⟨c,h⟩
    ·rcases aR.mp h with h | h
     ·exact absurd (congrArg Prod.fst h) e
     ·exact .inl h
    ·exact .inr ⟨c,by rw [dI,beq_eq_false_iff_ne.mpr e];exact h⟩
  ·rw [if_neg hk]
   refine qd r cs x ?_
   rcases h with h | h
   ·rcases aR.mp h with h | h
    ·have:k = .free:=(congrArg Prod.snd h).symm
     subst this
     exact absurd rfl hk
    ·exact .inl h
   ·exact .inr h
noncomputable abbrev blk (X:Cx) (N':List Str) (scope:Scope) (cl:List (Str × Addr)) (C:Addr) (s3:Shared) (H3:Hp) (fp:List Addr):Cx :=
 { X with N:=N',s₀:=s3,H₀:=H3,env:=compEnvC scope cl C X.env,outer:=X.stack,ex:=fp,fn:=fun _=>false,xe:=fun _ _=>False }
noncomputable def uR (N:List Str) (kinds sn:List (Str × NameKind)):List Str→List Nat→Bool
 | [],[]=>true
 | x :: V,j :: ix=>(N[j]? == some x) && ((kinds.lookup x == some NameKind.cell) && ((sn.lookup x == some NameKind.free) && uR N kinds sn V ix))
 | _,_=>false
noncomputable def wQ (t:Nat) (ix:List Nat) (σ:St):St:=bD t none++ix.map fun j=>(σ[j]?).getD none
theorem vJ {N:List Str} {kinds sn:List (Str × NameKind)}:∀ {V:List Str} {ix:List Nat},uR N kinds sn V ix=true→ix.length=V.length∧∀ (k:Nat) (x:Str),V[k]? = some x→∃ j,ix[k]? = some j∧N[j]? = some x∧kinds.lookup x=some .cell∧sn.lookup x=some .free
 | [],[],_=>⟨rfl,fun k x h=>by simp at h⟩
 | x :: V,j :: ix,h=>by
  rw [uR,aO,aO,aO] at h
  obtain ⟨h1,h2,h3,h4⟩:=h
  obtain ⟨l,r⟩:=vJ h4
  refine ⟨by simp [l],fun k y hy=>?_⟩
  cases k with
  | zero =>
   simp at hy
   subst hy
   exact ⟨j,rfl,beq_iff_eq.mp h1,beq_iff_eq.mp h2,beq_iff_eq.mp h3⟩
  | succ k=>exact r k y (by simpa using hy)
 | [],_ :: _,h=>by simp [uR] at h
 | _ :: _,[],h=>by simp [uR] at h
theorem tM {env:Env} (hf:env.scope.kind = .function):∀ {names:List (Str × NameKind)} {x:Str},names.lookup x=some .free→env.kindOf x=some .cell →
 (names.map fun (n,k)=>if (k == NameKind.free && env.scope.kind == .function && env.kindOf n == some .cell) then (n,NameKind.cell) else (n,k)).lookup x=some .cell
 | [],_,h,_=>by simp at h
 | (n,k) :: r,x,h,hc=>by
  have ih:=@tM env hf r x
  show List.lookup x ((if (k == NameKind.free && env.scope.kind == .function && env.kindOf n == some .cell)=true then (n,NameKind.cell) else (n,k)) :: _)=_
  cases hx:x == n with
  | true =>
   have e:x=n:=beq_iff_eq.mp hx
   subst e
   simp only [dI,hx] at h
   cases h
   rw [if_pos (by rw [hf,hc];rfl)]
   simp [dI]
  | false =>
   simp only [dI,hx] at h
   by_cases hq:(k == NameKind.free && env.scope.kind == .function && env.kindOf n == some .cell)=true
   ·rw [if_pos hq];simp only [dI,hx];exact ih h hc
   ·rw [if_neg hq];simp only [dI,hx];exact ih h hc
theorem pB {env:Env}:∀ {names:List (Str × NameKind)} {x:Str} {k:NameKind},(∀ y ∈ names,y.2 ≠ .cell)→(k = .cell∨k = .free) →
 (names.map fun (n,k)=>if (k == NameKind.free && env.scope.kind == .function && env.kindOf n == some .cell) then (n,NameKind.cell) else (n,k)).lookup x=some k→(x,NameKind.free) ∈ names
 | [],_,_,_,_,h=>by simp at h
 | (n,k') :: r,x,k,hc,hk,h=>by
  have ih:=@pB env r x k (fun y hy=>hc y (aL _ hy)) hk
  have h':List.lookup x ((if (k' == NameKind.free && env.scope.kind == .function && env.kindOf n == some .cell)=true then (n,NameKind.cell) else (n,k')) :: (r.map fun (n,k)=>if (k == NameKind.free && env.scope.kind == .function && env.kindOf n == some .cell) then (n,NameKind.cell) else (n,k)))=some k:=h
  by_cases hq:(k' == NameKind.free && env.scope.kind == .function && env.kindOf n == some .cell)=true
  ·rw [if_pos hq] at h'
   have kf:k' = .free:=by
    rw [aO,aO] at hq
    exact beq_iff_eq.mp hq.1.1
   cases hx:x == n with
   | true =>
    have e:x=n:=beq_iff_eq.mp hx
    subst e
    subst kf
    exact aP
   | false =>
    simp only [dI,hx] at h'
    exact aL _ (ih h')
  ·rw [if_neg hq] at h'
   cases hx:x == n with
   | true =>
    have e:x=n:=beq_iff_eq.mp hx
    subst e
    simp only [dI,hx] at h'
    cases h'
    rcases hk with hk | hk
    ·exact absurd hk (hc _ aP)
    ·subst hk
     exact aP
   | false =>
    simp only [dI,hx] at h'
    exact aL _ (ih h')
section
variable {X:Cx} {pins:List (Addr × Obj)} {σ:St} {H:Hp} {s:Shared}
theorem Inv.forget {σ':St} (I:Inv X pins σ H s) (hl:σ'.length=X.N.length) (h:∀ (i:Nat) (v:V),σ'[i]? = some (some v)→σ[i]? = some (some v)):Inv X pins σ' H s:=by
 obtain ⟨m,hn,hx⟩:=I.loc
 exact ⟨I.ok,I.os,I.bare,I.base,⟨m,hn,fun i x v e1 e2 e3=>hx i x v e1 (h i v e2) e3⟩,I.cell,I.free,I.freeC,I.pin,I.hok,hl⟩
end
end My
namespace My
open PySem PySem.Spec PyProof.Rows L2
theorem Ao {prog:Program} {w:World} {A:Around} {R:Result→Shared→Prop} {elt target iter:Expr} {ifs:List Expr} {scope:Scope} {pos:Pos} {it acc:Value} {env:Env} {s:Shared} (I:Nat→Shared→Prop)
 (turn:∀ n s,I n s→wpAny (model prog w) A (pyNext it) (fun r s₁=>match r with
  | none=>R (.ok .next) s₁
  | some v=>wpAny (model prog w) A (letOwnedTupleGo target it v) (fun _ s₁'=>wpAny (model prog w) A (assign target env v) (fun _ s₂ =>
   wpAny (model prog w) A (forIn ifs true fun c r=>if r=true then do let ok ← isTrue c env (eval c env);pure (ForInStep.yield ok) else pure (ForInStep.yield r)) (fun ok s₃ =>
    if ok=true then wpAny (model prog w) A (eval elt env) (fun x s₄ =>
     wpAny (model prog w) A (call (.builtin "list.append") [acc,x]) (fun _ s₅=>∃ m,m < n∧I m s₅) (fun _ _=>False) s₄) (fun _ _=>False) s₃
    else ∃ m,m < n∧I m s₃) (fun _ _=>False) s₂) (fun _ _=>False) s₁') (fun _ _=>False) s₁) (fun _ _=>False) s)
 (n:Nat) (h:I n s) :
 codeAny (model prog w) A (.compLoop (.ListComp elt [⟨target,iter,ifs,0⟩] scope pos) 0 it acc env) R s:=by
 refine codeAny_loop rfl I (fun n s hI=>?_) n h
 show wpAny _ A ((compTurn (.ListComp elt [⟨target,iter,ifs,0⟩] scope pos) 0 it acc env).onRaise (fun x=>do noteFrame x env;theTreesLotGoes x)) _ _ s
 refine wpAny_noted ?_
 rw [compTurn_list]
 refine wpAny_bind (wpAny_standAt (wpAny_bind (wpAny_mono (turn n s hI) (fun r s₁ h₁=>?_) fun _ _ h'=>h'.elim)))
 cases r with
 | none=>exact wpAny_pure h₁
 | some v =>
  refine wpAny_bind (wpAny_mono h₁ (fun _ s₁' h₁'=>?_) fun _ _ h'=>h'.elim)
  refine wpAny_bind (wpAny_mono h₁' (fun _ s₂ h₂=>wpAny_bind (wpAny_mono h₂ (fun ok s₃ h₃=>?_) fun _ _ h'=>h'.elim)) fun _ _ h'=>h'.elim)
  cases ok with
  | false=>exact wpAny_pure ⟨rfl,h₃⟩
  | true =>
   exact wpAny_bind (wpAny_bind (wpAny_mono h₃ (fun x s₄ h₄=>wpAny_bind (wpAny_mono h₄ (fun _ s₅ h₅=>wpAny_pure (wpAny_pure ⟨rfl,h₅⟩)) fun _ _ h'=>h'.elim)) fun _ _ h'=>h'.elim))
section
variable {X:Cx} {pins:List (Addr × Obj)} {σ:St} {H:Hp}
theorem GJ {T V:List Str} {ix:List Nat} {scope:Scope} {s3:Shared} {fp:List Addr} {h₁:Heap} {tk:Nat} {m:Str→Option Value}
 (I:Inv X pins σ H s3) (hf:∀ b ∈ fp,uz X pins H b) (ho:∀ b ∈ fp,∃ o,s3.heap.get? b=some o)
 (hk:scope.kind = .function) (hcell:∀ y ∈ scope.names,y.2 ≠ .cell) (hfr:∀ x ∈ scope.names,x.2 = .free→x.1 ∈ V) (hB:uR X.N X.env.scope.names scope.names V ix=true)
 (hns:h₁.Ns s3.heap.objs.size m) (keep:∀ b o,s3.heap.get? b=some o→h₁.get? b=some o) :
 Inv (blk X (T++V) scope (pA X.env scope.names []) s3.heap.objs.size s3 H fp) pins (wQ T.length ix σ) H { s3 with heap:=h₁,toks:=tk }:=by
 obtain ⟨lV,capV⟩:=vJ hB
 have hcl:∀ x ∈ scope.names,x.2 = .free→∃ c,X.env.cells.lookup x.1=some c:=fun x hx e=>by
  obtain ⟨k,ek⟩:=pU (hfr x hx e)
  obtain ⟨j,_,_,hc,_⟩:=capV k _ ek
  exact I.ok.has _ (.inl hc)
 have sub:=vI (env:=X.env) scope.names [] hcl (fun x c e=>by simp at e)
 have stkSub:∀ b,b ∈ frs X.stack→b=X.env.locals∨b ∈ X.fs:=fun b z=>aR.mp (I.stkSub b z)
 have lt:∀ b o,s3.heap.get? b=some o→b ≠ s3.heap.objs.size:=fun b o e=>bN (Heap.lt_size e)
 have cellK:∀ c v,s3.heap.IsCell c v→h₁.IsCell c v:=fun c v ⟨o,e,d⟩=>⟨o,keep c o e,d⟩
 refine ⟨⟨I.ok.mod,hk,I.ok.glob,I.ok.blt,aQ _,fun x y c e1 e2=>I.ok.inj x y c (sub x c e1) (sub y c e2),fun x hx=>?_,fun x c hx=>?_,I.ok.hd,I.ok.frames,.inl rfl,fun b hb=>⟨?_,fun x c e=>?_⟩,I.bs,bV I.ok.bsz I.sz,fun b o e hb=>?_,fun b hb z=>?_,I.stack,I.stkFree⟩,
  rfl,I.bare,Un.kept keep,⟨m,hns,fun i x v e1 e2 e3=>?_⟩,fun x c e=>?_,I.hok.fresh (aQ _),fun x c e=>I.freeC x c (sub x c e),fun p hp=>?_,I.hok.kept keep,?_⟩
 ·rcases hx with hx | hx
  ·exact qd _ _ x (.inl (pB hcell (.inl rfl) hx))
  ·exact qd _ _ x (.inl (pB hcell (.inr rfl) hx))
 ·exact absurd hx (by simp)
 ·obtain ⟨o,e⟩:=ho b hb
  exact lt b o e
 ·exact (hf b hb).2.2.2.2.1 x c (sub x c e)
 ·rcases (hf b hb).2.2.2.1 with z | z
  ·exact I.ok.noex b o e z
  ·exact absurd (bY (Heap.lt_size e) (bV I.ok.bsz z)) (iU _)
 ·rcases stkSub b z with z | z
  ·exact (hf b hb).2.1 z
  ·exact (hf b hb).2.2.1 z
 ·by_cases hi:i < T.length
  ·have e2':(bD T.length none++ix.map fun j=>(σ[j]?).getD none)[i]? = some (some v):=e2
   rw [cQ (by rw [b_];exact hi),gM,if_pos hi] at e2'
   exact absurd e2' (by simp)
  ·have e1':(T++V)[i]? = some x:=e1
   rw [cN (by omega)] at e1'
   obtain ⟨j,hj,hN,hc,hfree⟩:=capV _ x e1'
   have e2':(bD T.length none++ix.map fun j=>(σ[j]?).getD none)[i]? = some (some v):=e2
   rw [cN (by rw [b_];omega),b_,bf,hj] at e2'
   have e2'':(σ[j]?).getD none=some v:=by simpa using e2'
   have e3':σ[j]? = some (some v):=by
    cases q:σ[j]? with
    | none=>rw [q] at e2'';exact absurd e2'' (by simp)
    | some o=>rw [q] at e2'';simp at e2'';rw [e2'']
   obtain ⟨m0,hn0,hl⟩:=I.loc
   obtain ⟨u,r,l⟩:=hl j x v hN e3' (.inr (.inl hc))
   rcases l with ⟨z,_⟩ | ⟨_,c,ec,hcell'⟩
   ·have z':X.env.scope.names.lookup x=some .local:=z
    rw [hc] at z'
    exact absurd z' (by simp)
   ·obtain ⟨c',ec'⟩:=qd (env:=X.env) scope.names [] x (.inl (PySem.mem_of_lookup hfree))
    have:c'=c:=by
     have q:=sub x c' ec'
     rw [ec] at q
     exact (fO.inj q).symm
    subst this
    exact ⟨u,r,.inr ⟨.inl (tM I.ok.kind hfree hc),c',ec',cellK _ _ hcell'⟩⟩
 ·obtain ⟨v,z⟩:=I.cell x c (sub x c e)
  exact ⟨v,cellK c v z⟩
 ·obtain ⟨e,n,ne,nf,d⟩:=I.pin p hp
  refine ⟨keep _ _ e,n,lt _ _ e,fun z=>?_,d⟩
  rcases stkSub p.1 z with z | z
  ·exact ne z
  ·exact nf z
 ·show (bD T.length none++ix.map fun j=>(σ[j]?).getD none).length=(T++V).length
  rw [bB,b_,aH,bB,lV]
theorem Je {N':List Str} {scope:Scope} {cl:List (Str × Addr)} {pins':List (Addr × Obj)} {σ':St} {H3 H':Hp} {s3 s':Shared} {fp:List Addr} (I3:Inv X pins σ H3 s3) (hf:∀ b ∈ fp,uz X pins H3 b)
 (I':Inv (blk X N' scope cl s3.heap.objs.size s3 H3 fp) pins' σ' H' s'):Inv X pins σ H' s'∧uz X pins H' s3.heap.objs.size:=by
 have fr:H' s3.heap.objs.size=none:=I'.free
 refine ⟨?_,I3.fpOk (aQ _) fr⟩
 have os:s'.os=s3.os:=I'.os
 have u:Un (frs X.stack) fp H3 H' s3.heap s'.heap:=I'.base
 have ho:=I'.hok
 have hb:=I'.bare
 obtain ⟨hh,g,d,t,os'⟩:=s'
 obtain rfl:os'=s3.os:=os
 exact I3.call (h':=hh) (g':=g) (d':=d) (t':=t) (ch:=fp) u ho hb fun b hb'=>⟨(hf b hb').2.2.2.1,(hf b hb').2.1,(hf b hb').2.2.2.2.1,(hf b hb').2.2.2.2.2⟩
end
noncomputable def PTs (X:Cx) (ifs:List Expr) (t:TT):Prop :=
 ∀ (pins:List (Addr × Obj)) (s:Shared) (σ:St) (H:Hp) (Q:Bool→Hp→Prop),Inv X pins σ H s→t σ H Q →
  wpAny (model X.prog X.w) X.A (forIn ifs true fun c r=>if r=true then do let ok ← isTrue c X.env (eval c X.env);pure (ForInStep.yield ok) else pure (ForInStep.yield r)) (TP X pins σ Q) X.xe s
noncomputable def kW:TT:=fun _ H Q=>Q true H
theorem Mr {X:Cx}:PTs X [] kW:=fun _ _ _ H _ I h=>wpAny_tests_nil ⟨H,I,h⟩
theorem nR {X:Cx} {c:Expr} {t:TT} (h:PT X c t):PTs X [c] t:=fun pins s σ H Q I q=>wpAny_tests_one (h pins s σ H Q I q)
noncomputable def Eb (wi:TI) (g:TG) (tt:TT) (te:TE) (t:Nat) (cap:St→St):TE:=fun σ H Q=>wi σ H fun J H1=>∀ D,H1 D=none→∃ W:Nat→Nat→List V→Hp→Prop,(∃ m,W 0 m [] (upd H1 D (.lst []))) ∧
 ∀ i m xs H2,W i m xs H2→H2 D=some (.lst xs)∧((J.stop i H2∧Q (.ref D) H2)∨(J.go i H2∧xs.length < sizeLine∧∀ x H3,J.yld i H2 x H3→g x (cap σ) H3 fun σ4 H4=>σ4.drop t=(cap σ).drop t ∧
  tt σ4 H4 fun b H5=>if b=true then te σ4 H5 fun v H6=>H6 D=some (.lst xs)∧∃ m',m' < m∧W (i + 1) m' (xs++[v]) (upd H6 D (.lst (xs++[v]))) else ∃ m',m' < m∧W (i + 1) m' xs H5))
section
variable {X:Cx} {elt tg iter:Expr} {ifs:List Expr} {scope:Scope} {pos:Pos} {T V:List Str} {ix:List Nat} {wi:TI} {g:TG} {tt:TT} {te:TE}
theorem xV (hc:X.calm=true) (hi:PI X tg iter wi)
 (hg:∀ cl C s3 H3 fp,PG (blk X (T++V) scope cl C s3 H3 fp) tg g) (ht:∀ cl C s3 H3 fp,PTs (blk X (T++V) scope cl C s3 H3 fp) ifs tt) (he:∀ cl C s3 H3 fp,PE (blk X (T++V) scope cl C s3 H3 fp) elt te)
 (hB:uR X.N X.env.scope.names scope.names V ix=true) (hk:scope.kind = .function) (hcell:∀ y ∈ scope.names,y.2 ≠ .cell) (hnames:∀ x ∈ scope.names,x.2 = .local→scope.names.lookup x.1=some .local)
 (hfr:∀ x ∈ scope.names,x.2 = .free→x.1 ∈ V) (hs:∀ x,foldedSetIterable iter X.env x=pure x) {p:Pos}
 {pins:List (Addr × Obj)} {s:Shared} {σ:St} {H:Hp} (I:Inv X pins σ H s) {use:Option (Value→Sem Unit)} {Qp:Value→Shared→Prop} {Qv:VK} (h:Eb wi g tt te T.length (wQ T.length ix) σ H Qv)
 (fin:∀ (D C:Addr) (H':Hp) (s':Shared) (m:Str→Option Value),Inv X pins σ H' s'→uz X pins H' C→s'.heap.Ns C m→Qv (.ref D) H'→compPost (model X.prog X.w) X.A X.xe use Qp (.ref D) C (.ok .next) s') :
 wpAny (model X.prog X.w) X.A (comprehension (.ListComp elt [⟨tg,iter,ifs,0⟩] scope pos) scope X.env p (newList []) false (eval iter X.env) use) Qp X.xe s:=by
 obtain ⟨lV,capV⟩:=vJ hB
 have hcl:∀ x ∈ scope.names,x.2 = .free→∃ c,X.env.cells.lookup x.1=some c:=fun x hx e=>by
  obtain ⟨k,ek⟩:=pU (hfr x hx e)
  obtain ⟨j,_,_,hc',_⟩:=capV k _ ek
  exact I.ok.has _ (.inl hc')
 refine wpAny_comprehension_free rfl hs (Cr hcl) hk hnames ?_
 refine thn (hi pins s σ H _ I h) fun v s1 h1=>thn h1 fun itv s2 h2=>?_
 obtain ⟨it,fp,tn,J,H2,e,I2,Tn,st2,f2,R⟩:=h2
 subst e
 refine wpAny_newObj_type (hd:=by size_fits) ?_
 have hD:H2 s2.heap.objs.size=none:=I2.hok.fresh (aQ _)
 have I3:Inv X pins σ (upd H2 s2.heap.objs.size (.lst [])) { s2 with heap:=s2.heap.push { cls:=.type "list", dict:=none,data:=.seq ([]:List Value).toArray } } :=
  I2.laid (t':=s2.toks) (fun b o e=>Heap.get?_push_of_some _ e) (aQ _) ⟨fu _,[],0,.nil,Heap.get?_push_size _ rfl⟩
 obtain ⟨W,⟨m0,w0⟩,turn⟩:=R s2.heap.objs.size hD
 generalize hs3:({ s2 with heap:=s2.heap.push { cls:=.type "list", dict:=none,data:=.seq ([]:List Value).toArray } }:Shared)=s3 at I3 ⊢
 have st3:tn 0 s3.heap:=by
  rw [← hs3]
  exact Tn.keep 0 s2.heap _ st2 fun b hb o e=>Heap.get?_push_of_some _ e
 have f3:∀ b ∈ fp,uz X pins (upd H2 s2.heap.objs.size (.lst [])) b:=fun b hb=>by
  obtain ⟨z0,z1⟩:=f2 b hb
  refine ⟨?_,z1⟩
  obtain ⟨o,eo,_⟩:=Tn.obj 0 _ st2 b hb
  rw [dU (bN (Heap.lt_size eo))]
  exact z0
 generalize hH3:upd H2 s2.heap.objs.size (.lst [])=H3 at I3 f3 w0
 generalize hDn:s2.heap.objs.size=D at turn
 refine wpAny_newFunctionEnv hcell (by intro y hy;simp at hy) (fun h₁ hns₁ hsb₁=>?_) hk
 have keep:∀ b o,s3.heap.get? b=some o→h₁.get? b=some o:=fun b o e=>hsb₁.extBut b o (bN (Heap.lt_size e)) (Heap.get?_push_of_some _ e)
 have I4:=GJ (T:=T) (tk:=s3.toks + ([]:List (Str × Value)).length) I3 f3 (fun b hb=>let ⟨o,eo,_⟩:=Tn.obj 0 _ st3 b hb;⟨o,eo⟩) hk hcell hfr hB hns₁ keep
 have st4:tn 0 h₁:=Tn.keep 0 _ _ st3 fun b hb o e=>keep b o e
 have loop:codeAny (model X.prog X.w) X.A (.compLoop (.ListComp elt [⟨tg,iter,ifs,0⟩] scope pos) 0 (.ref it) (.ref D) (compEnvC scope (pA X.env scope.names []) s3.heap.objs.size X.env))
  (compPost (model X.prog X.w) X.A X.xe use Qp (.ref D) s3.heap.objs.size) { s3 with heap:=h₁,toks:=s3.toks + ([]:List (Str × Value)).length }:=by
  refine Ao (fun n s'=>∃ i xs H',Inv (blk X (T++V) scope (pA X.env scope.names []) s3.heap.objs.size s3 H3 fp) pins (wQ T.length ix σ) H' s'∧tn i s'.heap∧(∀ b ∈ fp,H' b=none)∧W i n xs H') ?_ m0
   ⟨0,[],H3,I4,st4,fun b hb=>(f3 b hb).1,w0⟩
  rintro n s5 ⟨i,xs,H5,I5,st5,fr5,w5⟩
  have stat:∀ {H':Hp} {pins':List (Addr × Obj)} {σ':St} {s':Shared},Inv (blk X (T++V) scope (pA X.env scope.names []) s3.heap.objs.size s3 H3 fp) pins σ' H' s'→(∀ b ∈ fp,H' b=none)→∀ b ∈ fp,uz (blk X (T++V) scope (pA X.env scope.names []) s3.heap.objs.size s3 H3 fp) pins H' b:=fun I' hn b hb=>by
   obtain ⟨x1,x2⟩:=I'.ok.exf b hb
   refine ⟨hn b hb,x1,I'.ok.exfs b hb,.inl hb,x2,fun q hq=>?_⟩
   exact (f3 b hb).2.2.2.2.2 q hq
  obtain ⟨hD5,r5⟩:=turn i n xs H5 w5
  rcases r5 with ⟨stop,q⟩ | ⟨go,hz,step⟩
  ·refine thn (Tn.done (blk X (T++V) scope (pA X.env scope.names []) s3.heap.objs.size s3 H3 fp) rfl rfl rfl hc i pins s5 _ H5 _ I5 (stat (pins':=pins) I5 fr5) st5 stop) fun r s6 ⟨hr,I6⟩=>?_
   subst hr
   obtain ⟨Ib,fC⟩:=Je I3 f3 I6
   obtain ⟨m,hn,_⟩:=I6.loc
   exact fin D _ H5 s6 m Ib fC hn q
  ·refine thn (Tn.item (blk X (T++V) scope (pA X.env scope.names []) s3.heap.objs.size s3 H3 fp) rfl rfl rfl hc i pins s5 _ H5 _ I5 (stat (pins':=pins) I5 fr5) st5 go) fun r s6 ⟨u,hr,h6⟩=>?_
   subst hr
   refine thn h6 fun _ s7 ⟨x,H7,I7,rx,y7,st7,fr7⟩=>?_
   have I7':=I7.pinned (stat (pins':=pins) I7 fr7) (Tn.obj _ _ st7)
   refine thn (hg _ _ _ _ _ _ s7 _ H7 x u _ I7' rx (step x H7 y7)) fun _ s8 ⟨σ8,H8,I8,k8,q8⟩=>?_
   have again:∀ {H9:Hp} {s9:Shared},Inv (blk X (T++V) scope (pA X.env scope.names []) s3.heap.objs.size s3 H3 fp) (pins++vC fp s7.heap) σ8 H9 s9 →
    Inv (blk X (T++V) scope (pA X.env scope.names []) s3.heap.objs.size s3 H3 fp) pins (wQ T.length ix σ) H9 s9∧tn (i + 1) s9.heap∧∀ b ∈ fp,H9 b=none:=fun {H9 s9} I9=>by
    refine ⟨Inv.forget I9.unpinned I4.len fun j v e=>?_,Tn.keep _ _ _ st7 fun b hb o e=>(I9.pin (b,o) (bL _ (bL _ (o_ hb e)))).1,fun b hb=>?_⟩
    ·by_cases hj:j < T.length
     ·have e':(bD T.length none++ix.map fun j=>(σ[j]?).getD none)[j]? = some (some v):=e
      rw [cQ (by rw [b_];exact hj),gM,if_pos hj] at e'
      exact absurd e' (by simp)
     ·have ej:j=T.length + (j - T.length):=by omega
      rw [ej,← jX] at e ⊢
      rw [k8]
      exact e
    ·obtain ⟨o,e,d⟩:=Tn.obj _ _ st7 b hb
     exact (I9.pin (b,o) (bL _ (bL _ (o_ hb e)))).2.1
   refine thn (ht _ _ _ _ _ _ s8 σ8 H8 _ I8 q8) fun ok s9 ⟨H9,I9,q9⟩=>?_
   cases ok with
   | false =>
    obtain ⟨m',lm,w9⟩:=q9
    obtain ⟨a1,a2,a3⟩:=again I9
    exact ⟨m',lm,i + 1,xs,H9,a1,a2,a3,w9⟩
   | true =>
    refine thn (he _ _ _ _ _ _ s9 σ8 H9 _ I9 q9) fun y s10 ⟨v,H10,I10,ry,hD10,m',lm,w10⟩=>?_
    refine thn (xU _ s10 σ8 H10 (.ref D) [v] (.ref D) [y] (fun _ Hn=>Hn=upd H10 D (.lst (xs++[v]))) I10 rfl (.cons ry .nil) ⟨D,xs,v,rfl,rfl,hD10,hz,rfl⟩) fun _ s11 ⟨_,H11,I11,_,e11⟩=>?_
    subst e11
    obtain ⟨a1,a2,a3⟩:=again I11
    exact ⟨m',lm,i + 1,_,_,a1,a2,a3,w10⟩
 exact codeAny_compStart_list loop (Tn.self _ 0 _ _ _ st4 loop)
theorem Ms (hc:X.calm=true) (T V:List Str) (ix:List Nat) (hi:PI X tg iter wi)
 (hg:∀ cl C s3 H3 fp,PG (blk X (T++V) scope cl C s3 H3 fp) tg g) (ht:∀ cl C s3 H3 fp,PTs (blk X (T++V) scope cl C s3 H3 fp) ifs tt) (he:∀ cl C s3 H3 fp,PE (blk X (T++V) scope cl C s3 H3 fp) elt te)
 (hB:uR X.N X.env.scope.names scope.names V ix=true:=by rfl) (hk:scope.kind = .function:=by rfl) (hcell:∀ y ∈ scope.names,y.2 ≠ .cell:=by decide +kernel)
 (hnames:∀ x ∈ scope.names,x.2 = .local→scope.names.lookup x.1=some .local:=by decide +kernel)
 (hfr:∀ x ∈ scope.names,x.2 = .free→x.1 ∈ V:=by decide +kernel) (hs:∀ x,foldedSetIterable iter X.env x=pure x:=by intro _;rfl) :
 PE X (.ListComp elt [⟨tg,iter,ifs,0⟩] scope pos) (Eb wi g tt te T.length (wQ T.length ix)):=by
 intro pins s σ H Q I h
 rw [eval_ListComp]
 refine xV (use:=none) hc hi hg ht he hB hk hcell hnames hfr hs I h fun D C H' s' m I' fC hn q=>⟨m,hn,fun h' sb=>⟨.ref D,H',?_,rfl,q⟩⟩
 obtain ⟨z0,z1,z2,z3,z4,z5⟩:=fC
 exact I'.turned (t':=s'.toks) (fun b o hb e=>sb.extBut b o hb e) z0 z1 z3 z4 z5
theorem Ec {i:Nat} {x:Str} {pos' spos:Pos} (hN:X.N.Nodup) (hi':X.N[i]? = some x) (hx:X.env.scope.names.lookup x=some .local) (hc:X.calm=true) (T V:List Str) (ix:List Nat) (hi:PI X tg iter wi)
 (hg:∀ cl C s3 H3 fp,PG (blk X (T++V) scope cl C s3 H3 fp) tg g) (ht:∀ cl C s3 H3 fp,PTs (blk X (T++V) scope cl C s3 H3 fp) ifs tt) (he:∀ cl C s3 H3 fp,PE (blk X (T++V) scope cl C s3 H3 fp) elt te)
 (hsw:swapsWith (.ListComp elt [⟨tg,iter,ifs,0⟩] scope pos) (some (.Name x pos')) spos.line X.env=pure true:=by rfl)
 (hB:uR X.N X.env.scope.names scope.names V ix=true:=by rfl) (hk:scope.kind = .function:=by rfl) (hcell:∀ y ∈ scope.names,y.2 ≠ .cell:=by decide +kernel)
 (hnames:∀ x ∈ scope.names,x.2 = .local→scope.names.lookup x.1=some .local:=by decide +kernel)
 (hfr:∀ x ∈ scope.names,x.2 = .free→x.1 ∈ V:=by decide +kernel) (hs:∀ x,foldedSetIterable iter X.env x=pure x:=by intro _;rfl) :
 PS X (.Assign [.Name x pos'] (.ListComp elt [⟨tg,iter,ifs,0⟩] scope pos) spos) (QF (Eb wi g tt te T.length (wQ T.length ix)) (Ig i)):=by
 intro pins s σ H D I h
 rw [exec_Assign_Name_used _ _ _ _ hsw]
 refine wpAny_bind (wpAny_standAt (wpAny_bind ?_))
 show wpAny _ X.A (do let _ ← comprehension (.ListComp elt [⟨tg,iter,ifs,0⟩] scope pos) scope X.env _ (newList []) false (eval iter X.env) (some (assign (.Name x pos') X.env))) _ _ s
 refine wpAny_bind (wpAny_mono (xV (use:=some (assign (.Name x pos') X.env)) (Qp:=fun _ s'=>SP X pins D .next s') hc hi hg ht he hB hk hcell hnames hfr hs I h fun A' C H' s' m I' fC hn q=>?_) (fun _ s' hq=>wpAny_pure (wpAny_pure hq)) fun _ _ e=>e)
 obtain ⟨z0,z1,z2,z3,z4,z5⟩:=fC
 refine wpAny_assign_Name (xK I' hN hi' (.inl hx) (v:=.ref A') rfl (fun s'' I'' ⟨a,sb,ha⟩=>⟨m,hn.sameBut sb ?_,fun h' sb'=>⟨_,H',?_,q⟩⟩) (.inr hx))
 ·rcases ha with ha | ha
  ·rw [ha];exact z1
  ·exact Ne.symm (z4 x a ha)
 ·exact I''.turned (t':=s''.toks) (fun b o hb e=>sb'.extBut b o hb e) z0 z1 z3 z4 z5
end
section
variable {X:Cx} {K:PySem.W.Frag}
end
end My
namespace D3
open PySem
noncomputable abbrev D:=PyData
inductive U where
 | d (x:D)
 | x (c f:Str) (v:D)
noncomputable abbrev DS:=List (Option U)
inductive Oc where
 | nx (δ:DS)
 | rt (d:D)
 | bk (δ:DS)
 | ct (δ:DS)
 | ex (c f:Str) (v:D)
noncomputable abbrev FE:=DS→Option D
noncomputable abbrev FA:=DS→Option (List D)
noncomputable abbrev FT:=DS→Option Bool
noncomputable abbrev FS:=DS→Option Oc
noncomputable abbrev FG:=D→DS→Option DS
mutual
noncomputable def flat:D→Bool
 | .none=>true
 | .bool _=>true
 | .int _=>true
 | .str _=>true
 | .list _=>false
 | .tuple xs=>flats xs
 | .dict _=>false
noncomputable def flats:List D→Bool
 | []=>true
 | x :: r=>flat x && flats r
end
mutual
noncomputable def nl:D→Nat
 | .none=>0
 | .bool _=>0
 | .int _=>0
 | .str _=>0
 | .list xs=>nls xs + 1
 | .tuple xs=>nls xs
 | .dict _=>1
noncomputable def nls:List D→Nat
 | []=>0
 | x :: r=>nl x + nls r
end
noncomputable def fl1:D→Bool
 | .list xs=>flats xs
 | d=>flat d
noncomputable def aG (i:Nat):FE:=fun δ=>match δ[i]? with
 | some (some (.d x))=>some x
 | _=>none
noncomputable def dC (d:D):FE:=fun _=>some d
noncomputable def dOp (g:D→D→Option D) (fa fb:FE):FE:=fun δ=>(fa δ).bind fun x=>(fb δ).bind fun y=>g x y
noncomputable def dUn (g:D→Option D) (fa:FE):FE:=fun δ=>(fa δ).bind g
noncomputable def bh:FA:=fun _=>some []
noncomputable def aF (fa:FE) (fr:FA):FA:=fun δ=>(fa δ).bind fun x=>(fr δ).bind fun r=>some (x :: r)
noncomputable def dTup (fa:FA):FE:=fun δ=>(fa δ).bind fun l=>if l.length ≤ sizeLine then some (.tuple l) else none
noncomputable def iB (fa:FA):FE:=fun δ=>(fa δ).bind fun l=>if l.length ≤ sizeLine then some (.list l) else none
noncomputable def dCall (F:List D→Option D) (fa:FA):FE:=fun δ=>(fa δ).bind F
noncomputable def fY (fa:FE):FE:=fun δ=>(fa δ).bind fun d=>if flat d=true then some d else none
noncomputable def dN1 (fa:FE):FE:=fun δ=>(fa δ).bind fun d=>if decide (nl d ≤ 1)=true then some d else none
noncomputable def Aq (fa:FE):FE:=fun δ=>(fa δ).bind fun d=>if fl1 d=true then some d else none
noncomputable def qe (fa fb:FE):FE:=fun δ=>(fa δ).bind fun x=>match x with
 | .bool true=>fb δ
 | .bool false=>some (.bool false)
 | _=>none
noncomputable def dOr (fa fb:FE):FE:=fun δ=>(fa δ).bind fun x=>match x with
 | .bool true=>some (.bool true)
 | .bool false=>fb δ
 | _=>none
noncomputable def Jf (fa:FE):FE:=fun δ=>(fa δ).bind fun x=>match x with
 | .bool b=>some (.bool (!b))
 | _=>none
noncomputable def dIf (c:FT) (fa fb:FE):FE:=fun δ=>(c δ).bind fun b=>if b=true then fa δ else fb δ
noncomputable def bI (fa:FE):FT:=fun δ=>(fa δ).bind fun x=>match x with
 | .bool b=>some b
 | _=>none
noncomputable def lE (a b:FT):FT:=fun δ=>(a δ).bind fun x=>if x=true then b δ else some false
noncomputable def tOr (a b:FT):FT:=fun δ=>(a δ).bind fun x=>if x=true then some true else b δ
noncomputable def oE (a:FT):FT:=fun δ=>(a δ).map fun x=>!x
noncomputable def gh:FS:=fun δ=>some (.nx δ)
noncomputable def cA (a b:FS):FS:=fun δ=>(a δ).bind fun o=>match o with
 | .nx δ'=>b δ'
 | o=>some o
noncomputable def U6 (i:Nat) (fe:FE):FS:=fun δ=>(fe δ).bind fun d=>some (.nx (δ.set i (some (.d d))))
noncomputable def sIf (c:FT) (a b:FS):FS:=fun δ=>(c δ).bind fun t=>if t=true then a δ else b δ
noncomputable def eU (fe:FE):FS:=fun δ=>(fe δ).bind fun d=>some (.rt d)
noncomputable def U7:FS:=fun _=>some (.rt .none)
noncomputable def vK (fe:FE):FS:=fun δ=>(fe δ).bind fun _=>some (.nx δ)
noncomputable def sBk:FS:=fun δ=>some (.bk δ)
noncomputable def sCt:FS:=fun δ=>some (.ct δ)
noncomputable def gN (i:Nat):FG:=fun d δ=>some (δ.set i (some (.d d)))
noncomputable def nu:List D→DS→Option DS:=fun l δ=>match l with
 | []=>some δ
 | _=>none
noncomputable def dX (g:FG) (r:List D→DS→Option DS):List D→DS→Option DS:=fun l δ=>match l with
 | d :: l'=>(g d δ).bind fun δ'=>r l' δ'
 | []=>none
noncomputable def GK (fe:FE) (g:FG):FS:=fun δ=>(fe δ).bind fun d=>(g d δ).bind fun δ'=>some (.nx δ')
noncomputable def jF (g:FG) (b:FS):List D→DS→Option Oc
 | [],δ=>some (.nx δ)
 | d :: r,δ=>(g d δ).bind fun δ1=>(b δ1).bind fun o=>match o with
  | .nx δ'=>jF g b r δ'
  | .ct δ'=>jF g b r δ'
  | .bk δ'=>some (.nx δ')
  | .rt v=>some (.rt v)
  | .ex c f v=>some (.ex c f v)
noncomputable def mK (fi:FA) (g:FG) (b:FS):FS:=fun δ=>(fi δ).bind fun l=>jF g b l δ
open Classical in
noncomputable def fnD (p q:Nat) (b:FS):List D→Option D:=fun ds=>if ds.length=p then match b (ds.map (fun d=>some (.d d))++bD q none) with
 | some (.rt d)=>some d
 | some (.nx _)=>some .none
 | _=>none
 else none
noncomputable def kY (t:Nat) (ix:List Nat) (δ:DS):DS:=bD t none++ix.map fun j=>(δ[j]?).getD none
noncomputable def gU (g:FG) (c:FT) (e:FE) (δ:DS):List D→Option (List D)
 | []=>some []
 | d :: r=>(g d δ).bind fun δ1=>(c δ1).bind fun b=>if b=true then (e δ1).bind fun x=>(gU g c e δ r).bind fun l=>some (x :: l) else gU g c e δ r
noncomputable def iY (fi:FA) (g:FG) (c:FT) (e:FE) (t:Nat) (ix:List Nat):FE:=fun δ=>(fi δ).bind fun l=>if l.length ≤ 100000 then (gU g c e (kY t ix δ) l).bind fun r=>some (.list r) else none
noncomputable def kW:FT:=fun _=>some true
noncomputable def gI (g:Int→Int→Option D):D→D→Option D:=fun x y=>match x,y with
 | .int i,.int j=>g i j
 | _,_=>none
noncomputable def pIx (n:Nat) (i:Int):Option Nat:=if 0 ≤ i then (if i < n then some i.toNat else none) else if -(n:Int) ≤ i then some (i + n).toNat else none
noncomputable def pAt (xs:List D) (i:Int):Option D:=(pIx xs.length i).bind fun j=>xs[j]?
noncomputable def isT (c T:String):Bool:=T == c || (T == "bool" && c == "int")
noncomputable def bZ (i:Nat) (fe:FE):FS:=fun δ=>if i < δ.length then U6 i fe δ else none
noncomputable def iZ:D→D→Option D:=gI fun i j=>some (.int (i + j))
noncomputable def yH:D→D→Option D:=gI fun i j=>some (.int (i - j))
noncomputable def vL (i j:Int):Bool:=decide (i.natAbs < 2 ^ 64) || decide (j.natAbs < 2 ^ 64) || (decide (i.natAbs < 2 ^ 30000) && decide (j.natAbs < 2 ^ 30000))
noncomputable def mW:D→D→Option D:=gI fun i j=>if vL i j=true then some (.int (i * j)) else none
noncomputable def Cu (_ j:Int):Bool:=decide (j ≠ 0) && decide (j.natAbs < 2 ^ 9000)
noncomputable def Ar:D→D→Option D:=gI fun i j=>if Cu i j=true then some (.int (i.fdiv j)) else none
noncomputable def sG:D→D→Option D:=gI fun i j=>if decide (j ≠ 0)=true then some (.int (i.fmod j)) else none
noncomputable def Q9 (i j:Int):Bool:=decide (0 ≤ j) && decide (j ≤ 1000) && decide (i.natAbs < 2 ^ 64)
noncomputable def Q_:D→D→Option D:=gI fun i j=>if Q9 i j=true then some (.int (i ^ j.toNat)) else none
noncomputable def gLt:D→D→Option D:=gI fun i j=>some (.bool (decide (i < j)))
noncomputable def gLe:D→D→Option D:=gI fun i j=>some (.bool (decide (i ≤ j)))
noncomputable def gGt:D→D→Option D:=gI fun i j=>some (.bool (decide (j < i)))
noncomputable def gGe:D→D→Option D:=gI fun i j=>some (.bool (decide (j ≤ i)))
noncomputable def gEq:D→D→Option D:=fun x y=>if (SeqAt.shaped x && SeqAt.shaped y)=true then some (.bool (PyData.eqv x y)) else none
noncomputable def gNe:D→D→Option D:=fun x y=>if (SeqAt.shaped x && SeqAt.shaped y)=true then some (.bool (!PyData.eqv x y)) else none
noncomputable def gNl (i:Nat):FG:=fun d δ=>if i < δ.length then gN i d δ else none
noncomputable def gTn (n:Nat) (g:List D→DS→Option DS):FG:=fun d δ=>match d with
 | .tuple l=>if l.length=n then g l δ else none
 | _=>none
noncomputable def yM (i:Nat) (f:FE):FS:=fun δ=>(aG i δ).bind fun x=>(f δ).bind fun d=>match x with
 | .list l=>if l.length < 1000000 then some (.nx (δ.set i (some (.d (.list (l++[d])))))) else none
 | _=>none
noncomputable def GP (i:Nat) (fk f:FE):FS:=fun δ=>(f δ).bind fun d=>(aG i δ).bind fun x=>(fk δ).bind fun k=>match x,k with
 | .list l,.int j=>(pIx l.length j).bind fun n=>some (.nx (δ.set i (some (.d (.list (l.set n d))))))
 | _,_=>none
noncomputable def putAt (x:D) (n:Nat) (d:D):D:=match x with
 | .list l=>.list (l.set n d)
 | .tuple l=>.tuple (l.set n d)
 | x=>x
noncomputable def asList:D→Option (List D)
 | .list l=>some l
 | _=>none
noncomputable def jT (f:FE):FA:=fun δ=>(f δ).bind asList
noncomputable def iV (lo hi:Int):List D:=(aX (hi - lo).toNat).map fun (k:Nat)=>.int (lo + (k:Int))
noncomputable def vM (i:Int):Bool:=decide (-(2 ^ 62) ≤ i) && decide (i < 2 ^ 62)
noncomputable def oU (fa:FA):FA:=fun δ=>(fa δ).bind fun l=>match l with
 | [.int j]=>if vM j=true then some (iV 0 j) else none
 | _=>none
noncomputable def PB (fa:FA):FA:=fun δ=>(fa δ).bind fun l=>match l with
 | [.int i,.int j]=>if (vM i && vM j)=true then some (iV i j) else none
 | _=>none
noncomputable def gIx:D→D→Option D:=fun x y=>match x,y with
 | .list l,.int i=>pAt l i
 | .tuple l,.int i=>pAt l i
 | _,_=>none
noncomputable def oF (g g':D→D→Option D) (fa fb fc:FE):FE:=fun δ=>(fa δ).bind fun x=>(fb δ).bind fun y=>(g x y).bind fun z=>match z with
 | .bool true=>(fc δ).bind fun w=>g' y w
 | .bool false=>some (.bool false)
 | _=>none
noncomputable def uV (g g' g'':D→D→Option D) (fa fb fc fd:FE):FE:=fun δ=>(fa δ).bind fun x=>(fb δ).bind fun y=>(g x y).bind fun z=>match z with
 | .bool true=>(fc δ).bind fun w=>(g' y w).bind fun z'=>match z' with
  | .bool true=>(fd δ).bind fun u=>g'' w u
  | .bool false=>some (.bool false)
  | _=>none
 | .bool false=>some (.bool false)
 | _=>none
noncomputable def isNone:D→Bool
 | .none=>true
 | _=>false
noncomputable def uF:D→Option D:=fun x=>some (.bool (isNone x))
noncomputable def rY:D→Option D:=fun x=>some (.bool (!isNone x))
noncomputable def jZ:List D→Option D
 | [.list l]=>some (.int l.length)
 | [.tuple l]=>some (.int l.length)
 | _=>none
noncomputable def mD:List D→Option (List Int)
 | []=>some []
 | .int i :: r=>(mD r).map (i :: ·)
 | _=>none
noncomputable def U8:List D→Option D
 | [.list l]=>(mD l).map fun ns=>.int ns.sum
 | _=>none
noncomputable def mxI (i:Int) (r:List Int):Int:=r.foldl (fun a b=>if a < b then b else a) i
noncomputable def Ed:List D→Option D
 | [.list l]=>match mD l with
  | some (i :: r)=>some (.int (mxI i r))
  | _=>none
 | _=>none
noncomputable def insI (x:Int):List Int→List Int
 | []=>[x]
 | y :: r=>if x ≤ y then x :: y :: r else y :: insI x r
noncomputable def j5:List Int→List Int
 | []=>[]
 | x :: r=>insI x (j5 r)
noncomputable def qg:List D→Option D
 | [.list l]=>(mD l).bind fun ns=>if ns.length < 64 then some (.list ((j5 ns).map .int)) else none
 | _=>none
noncomputable def Cv:List D→Option D
 | [.int i]=>some (.int i)
 | [.bool b]=>some (.int (if b then 1 else 0))
 | _=>none
noncomputable def Xe:List D→Option D
 | [.int i]=>some (.int (if i < 0 then -i else i))
 | _=>none
noncomputable def tO:List D→Option D
 | [.int i,.int j]=>some (.int (if j > i then j else i))
 | _=>none
noncomputable def vN:List D→Option D
 | [.int i,.int j]=>some (.int (if j < i then j else i))
 | _=>none
noncomputable def tyD:D→String
 | .none => "NoneType"
 | .bool _ => "bool"
 | .int _ => "int"
 | .str _ => "str"
 | .list _ => "list"
 | .tuple _ => "tuple"
 | .dict _ => "dict"
noncomputable def gIs (c:String):D→Option D:=fun d=>some (.bool (isT c (tyD d)))
noncomputable def Jg:D→Option D
 | .int i=>some (.int (-i))
 | _=>none
noncomputable def oG:D→D→Option D:=fun x y=>match x,y with
 | .list l,.list m=>if l.length + m.length ≤ 1000000 then some (.list (l++m)) else none
 | _,_=>none
noncomputable def Jh:D→D→Option D:=fun x y=>match x,y with
 | .list l,.int k=>if l.length * k.toNat ≤ 1000000∧-(2 ^ 63) ≤ k∧k < 2 ^ 63 then some (.list (bD k.toNat l).flatten) else none
 | _,_=>none
noncomputable def vO:D→Option D
 | .list l=>some (.list l)
 | .tuple l=>some (.list l)
 | _=>none
noncomputable abbrev FO:=DS→Option (Option Int)
noncomputable def Ji:FO:=fun _=>some none
noncomputable def Ef (f:FE):FO:=fun δ=>(f δ).bind fun x=>match x with
 | .int i=>some (some i)
 | _=>none
noncomputable def pSx (n d:Nat):Option Int→Nat
 | none=>d
 | some i=>if i < 0 then (i + n).toNat else min i.toNat n
noncomputable def cutD (xs:List D) (lo hi:Option Int):List D:=(xs.drop (pSx xs.length 0 lo)).take (pSx xs.length xs.length hi - pSx xs.length 0 lo)
noncomputable def dSl (f:FE) (lo hi:FO):FE:=fun δ=>(f δ).bind fun x=>(lo δ).bind fun a=>(hi δ).bind fun b=>match x with
 | .list l=>some (.list (cutD l a b))
 | _=>none
noncomputable def U9 (i j:Nat) (fa:FA):FS:=fun δ=>(fa δ).bind fun l=>match l with
 | [x,y]=>if i < δ.length∧j < δ.length then some (.nx ((δ.set i (some (.d x))).set j (some (.d y)))) else none
 | _=>none
noncomputable def qj (l:List D):List D:=l.mapIdx fun i x=>.tuple [.int (i:Int),x]
noncomputable def Av (f:FE):FA:=fun δ=>(f δ).bind fun d=>match d with
 | .list l=>some (qj l)
 | _=>none
noncomputable def mnI (i:Int) (r:List Int):Int:=r.foldl (fun a b=>if b < a then b else a) i
noncomputable def Eh:List D→Option D
 | [.list l]=>match mD l with
  | some (i :: r)=>some (.int (mnI i r))
  | _=>none
 | _=>none
noncomputable def oH:List D→Option (List Bool)
 | []=>some []
 | .bool b :: r=>(oH r).map (b :: ·)
 | _=>none
noncomputable def yN:List D→Option D
 | [.list l]=>(oH l).map fun bs=>.bool (bs.all id)
 | _=>none
noncomputable def sH:List D→List D→List D
 | x :: r,y :: s=>.tuple [x,y] :: sH r s
 | _,_=>[]
noncomputable def Mt (f g:FE):FA:=fun δ=>(f δ).bind fun d=>(g δ).bind fun e=>match d,e with
 | .list l,.list m=>some (sH l m)
 | _,_=>none
theorem vQ:∀ (r:List Int) (i:Int),mnI i r ∈ i :: r∧∀ a ∈ i :: r,mnI i r ≤ a
 | [],i=>⟨aP,fun a h=>by rw [aV.mp h];exact cX _⟩
 | b :: r,i=>by
  have ih:=vQ r (if b < i then b else i)
  have e:mnI i (b :: r)=mnI (if b < i then b else i) r:=rfl
  rw [e]
  constructor
  ·rcases aR.mp ih.1 with z | z
   ·rw [z]
    split <;> simp
   ·exact aL _ (aL _ z)
  ·intro a h
   have h0:=ih.2 _ aP
   have hb:(if b < i then b else i) ≤ i∧(if b < i then b else i) ≤ b:=by split <;> omega
   rcases aR.mp h with rfl | h
   ·exact gY h0 hb.1
   ·rcases aR.mp h with rfl | h
    ·exact gY h0 hb.2
    ·exact ih.2 a (aL _ h)
theorem vR:∀ (r:List Int) (i:Int),mxI i r ∈ i :: r∧∀ a ∈ i :: r,a ≤ mxI i r
 | [],i=>⟨aP,fun a h=>by rw [aV.mp h];exact cX _⟩
 | b :: r,i=>by
  have ih:=vR r (if i < b then b else i)
  have e:mxI i (b :: r)=mxI (if i < b then b else i) r:=rfl
  rw [e]
  constructor
  ·rcases aR.mp ih.1 with z | z
   ·rw [z]
    split <;> simp
   ·exact aL _ (aL _ z)
  ·intro a h
   have h0:=ih.2 _ aP
   have hb:i ≤ (if i < b then b else i)∧b ≤ (if i < b then b else i):=by split <;> omega
   rcases aR.mp h with rfl | h
   ·exact gY hb.1 h0
   ·rcases aR.mp h with rfl | h
    ·exact gY hb.2 h0
    ·exact ih.2 a (aL _ h)
theorem insI_perm (x:Int):∀ l,(insI x l).Perm (x :: l)
 | []=>.refl _
 | y :: r=>by
  unfold insI
  split
  ·exact .refl _
  ·exact ((insI_perm x r).cons y).trans (.swap x y r)
theorem iu:∀ l,(j5 l).Perm l
 | []=>.refl _
 | x :: r=>(insI_perm x _).trans ((iu r).cons x)
theorem uM (x:Int):∀ l,l.Pairwise (· ≤ ·)→(insI x l).Pairwise (· ≤ ·)
 | [],_=>by simp [insI]
 | y :: r,h=>by
  obtain ⟨h1,h2⟩:=cO.mp h
  unfold insI
  split
  ·next c =>
   refine cO.mpr ⟨fun a ha=>?_,h⟩
   rcases aR.mp ha with rfl | z
   ·exact c
   ·exact gY c (h1 a z)
  ·next c =>
   refine cO.mpr ⟨fun a ha=>?_,uM x r h2⟩
   rcases aR.mp ((insI_perm x r).mem_iff.mp ha) with rfl | z
   ·omega
   ·exact h1 a z
theorem nU:∀ l,(j5 l).Pairwise (· ≤ ·)
 | []=>.nil
 | x :: r=>uM x _ (nU r)
end D3
namespace D3
open PySem PySem.Spec PyProof.Rows L2 My
noncomputable abbrev Ok:=Addr→Prop
noncomputable abbrev St:=L2.St
class Chg (u:HO):Prop where
 ch:(∃ xs,u = .lst xs)∨(∃ kvs,u = .dK kvs)∨∃ kvs,u = .dT kvs
instance (xs:List V):Chg (.lst xs):=⟨.inl ⟨xs,rfl⟩⟩
instance (kvs:List (Key × V)):Chg (.dK kvs):=⟨.inr (.inl ⟨kvs,rfl⟩)⟩
instance (kvs:List (List Key × V)):Chg (.dT kvs):=⟨.inr (.inr ⟨kvs,rfl⟩)⟩
theorem Chg.frz {o:Obj} {u:HO} (h:Chg (.frz o u)):False:=by
 rcases h.ch with ⟨_,z⟩ | ⟨_,z⟩ | ⟨_,z⟩ <;> cases z
theorem Chg.tup {xs:List V} (h:Chg (.tup xs)):False:=by
 rcases h.ch with ⟨_,z⟩ | ⟨_,z⟩ | ⟨_,z⟩ <;> cases z
noncomputable def Chd (o:Option HO):Prop:=∃ u,o=some u∧Chg u
theorem Chd.ne {o:Option HO} (h:Chd o):o ≠ none:=by
 obtain ⟨u,rfl,_⟩:=h
 simp
noncomputable def SqK (K:PySem.W.Frag) (H:Hp) (a:Addr) (xs:List V):Prop:=(∃ o,H a=some (.frz o (.lst xs))) ∨
 ∃ (o:Obj) (its:Array Value) (n:Nat),K.lookup a=some o∧o.cls = .type "list" ∧ o.dict=none∧o.data = .seq its n∧its.size ≤ sizeLine∧Vals xs its.toList
theorem SqK.sq {K:PySem.W.Frag} {H:Hp} {a:Addr} {xs:List V} (h:SqK K H a xs):SqL K H a xs:=by
 rcases h with ⟨o,h⟩ | h
 ·exact .inl (.inr ⟨o,h⟩)
 ·exact .inr h
noncomputable def lJ (H:Hp) (a:Addr) (xs:List V):Prop:=H a=some (.tup xs)
theorem lJ.sq {K:PySem.W.Frag} {H:Hp} {a:Addr} {xs:List V} (h:lJ H a xs):SqT K H a xs:=.inl (.inl h)
theorem lJ.same {H H':Hp} {a:Addr} {xs:List V} (e:Same H H') (h:lJ H a xs):lJ H' a xs:=e _ _ h
theorem lJ.upd {H:Hp} {a b:Addr} {xs:List V} {u o:HO} [cu:Chg u] (h:H a=some u) (q:lJ H b xs):lJ (upd H a o) b xs:=by
 unfold lJ
 rw [dU (DR q h (by intro z;subst z;exact cu.tup))]
 exact q
noncomputable def dk0:List (D × D)→List (Key × V)
 | []=>[]
 | (.int i,.int j) :: r=>(.inl i,.int j) :: dk0 r
 | (.int i,.bool true) :: r=>(.inl i,.bl true) :: dk0 r
 | _ :: r=>(.inl 0,.non) :: dk0 r
noncomputable def tkK:List D→Option (List Key)
 | []=>some []
 | .int i :: r=>(tkK r).map (.inl i :: ·)
 | _=>none
noncomputable def tkD:List (D × D)→Option (List (List Key × V))
 | []=>some []
 | (.tuple l,.bool true) :: r=>(tkK l).bind fun k=>(tkD r).map ((k,.bl true) :: ·)
 | _=>none
noncomputable def dh0 (kvs:List (D × D)):HO:=match kvs with
 | []=>.dK []
 | q :: r=>match tkD (q :: r) with
  | some ts=>.dT ts
  | none=>.dK (dk0 (q :: r))
theorem Jj (kvs:List (D × D)):(∃ ks,dh0 kvs = .dK ks)∨∃ ks,dh0 kvs = .dT ks:=by
 cases kvs with
 | nil=>exact .inl ⟨_,rfl⟩
 | cons q r =>
  unfold dh0
  dsimp only
  split
  ·exact .inr ⟨_,rfl⟩
  ·exact .inl ⟨_,rfl⟩
instance (kvs:List (D × D)):Chg (dh0 kvs):=⟨by
 rcases Jj kvs with ⟨ks,z⟩ | ⟨ks,z⟩
 ·exact .inr (.inl ⟨ks,z⟩)
 ·exact .inr (.inr ⟨ks,z⟩)⟩
noncomputable def scV:D→V
 | .int i=>.int i
 | _=>.non
noncomputable def scs:List D→Bool
 | []=>true
 | .int _ :: r=>scs r
 | .none :: r=>scs r
 | _=>false
noncomputable def TV (H:Hp) (v:V) (d:D):Prop:=(v = .non∧d = .none)∨∃ b ds,v = .ref b∧d = .tuple ds∧lJ H b (ds.map scV)∧scs ds=true
inductive TVs (H:Hp):List (Key × V)→List (D × D)→Prop
 | nil:TVs H [] []
 | cons {i:Int} {v:V} {d:D} {r:List (Key × V)} {r':List (D × D)}:TV H v d→TVs H r r'→TVs H ((.inl i,v) :: r) ((.int i,d) :: r')
theorem TV.imp {H H':Hp} (h:∀ b xs,lJ H b xs→lJ H' b xs) {v:V} {d:D} (q:TV H v d):TV H' v d:=by
 rcases q with q | ⟨b,ds,h1,h2,h3,h4⟩
 ·exact .inl q
 ·exact .inr ⟨b,ds,h1,h2,h _ _ h3,h4⟩
theorem TVs.imp {H H':Hp} (h:∀ b xs,lJ H b xs→lJ H' b xs) {ks:List (Key × V)} {kvs:List (D × D)} (q:TVs H ks kvs):TVs H' ks kvs:=by
 induction q with
 | nil=>exact .nil
 | cons t _ ih=>exact .cons (t.imp h) ih
noncomputable def wR:List (D × D)→Bool
 | []=>true
 | (_,.int _) :: r=>wR r
 | (_,.bool _) :: r=>wR r
 | _=>false
noncomputable def DH (H:Hp) (u:HO) (kvs:List (D × D)):Prop:=(wR kvs=true∧u=dh0 kvs)∨∃ ks,u = .dK ks∧TVs H ks kvs
theorem DH.imp {H H':Hp} (h:∀ b xs,lJ H b xs→lJ H' b xs) {u:HO} {kvs:List (D × D)} (q:DH H u kvs):DH H' u kvs:=by
 rcases q with q | ⟨ks,q1,q2⟩
 ·exact .inl q
 ·exact .inr ⟨ks,q1,q2.imp h⟩
theorem DH.same {H H':Hp} {u:HO} {kvs:List (D × D)} (q:DH H u kvs) (e:Same H H'):DH H' u kvs:=q.imp fun _ _ h=>lJ.same e h
theorem DH.upd {H:Hp} {a:Addr} {u o u':HO} [cu:Chg u] {kvs:List (D × D)} (q:DH H u' kvs) (h:H a=some u):DH (upd H a o) u' kvs:=q.imp fun _ _ z=>lJ.upd h z
theorem DH.or {H:Hp} {u:HO} {kvs:List (D × D)} (q:DH H u kvs):(∃ ks,u = .dK ks)∨∃ ks,u = .dT ks:=by
 rcases q with ⟨_,rfl⟩ | ⟨ks,rfl,_⟩
 ·exact Jj kvs
 ·exact .inl ⟨ks,rfl⟩
theorem DH.chg {H:Hp} {u:HO} {kvs:List (D × D)} (q:DH H u kvs):Chg u:=⟨.inr q.or⟩
theorem DH.old {H:Hp} {u:HO} {kvs:List (D × D)} (q:DH H u kvs) (h:wR kvs=true):u=dh0 kvs:=by
 rcases q with q | ⟨ks,rfl,q⟩
 ·exact q.2
 ·cases q with
  | nil=>rfl
  | cons t _ =>
   rcases t with ⟨_,rfl⟩ | ⟨_,_,_,rfl,_,_⟩ <;> cases h
mutual
inductive RA (K:PySem.W.Frag) (ok:Ok) (pl:Bool) (H:Hp):V→D→Prop
 | non:RA K ok pl H .non .none
 | bl (b:Bool):RA K ok pl H (.bl b) (.bool b)
 | int (i:Int):RA K ok pl H (.int i) (.int i)
 | str (x:Str):RA K ok pl H (.str x) (.str x)
 | lst {a:Addr} {xs:List V} {ds:List D}:H a=some (.lst xs)→ok a→RAs K ok pl H xs ds→RA K ok pl H (.ref a) (.list ds)
 | lsk {a:Addr} {xs:List V} {ds:List D}:SqK K H a xs→pl=true→RAs K ok pl H xs ds→RA K ok pl H (.ref a) (.list ds)
 | tup {a:Addr} {xs:List V} {ds:List D}:lJ H a xs→RAs K ok pl H xs ds→RA K ok pl H (.ref a) (.tuple ds)
 | dic {a:Addr} {u:HO} {kvs:List (D × D)}:H a=some u→DH H u kvs→ok a→RA K ok pl H (.ref a) (.dict kvs)
 | dik {a:Addr} {u:HO} {kvs:List (D × D)} {o:Obj}:H a=some (.frz o u)→DH H u kvs→pl=true→RA K ok pl H (.ref a) (.dict kvs)
inductive RAs (K:PySem.W.Frag) (ok:Ok) (pl:Bool) (H:Hp):List V→List D→Prop
 | nil:RAs K ok pl H [] []
 | cons {v:V} {d:D} {vs:List V} {ds:List D}:RA K ok pl H v d→RAs K ok pl H vs ds→RAs K ok pl H (v :: vs) (d :: ds)
end
section
variable {K:PySem.W.Frag} {ok ok':Ok} {pl pl':Bool} {H H':Hp}
theorem RA.ind {P:V→D→Prop} {Q:List V→List D→Prop} (c1:P .non .none) (c2:∀ b,P (.bl b) (.bool b)) (c3:∀ i,P (.int i) (.int i)) (c4:∀ x,P (.str x) (.str x))
 (c5:∀ {a:Addr} {xs:List V} {ds:List D},H a=some (.lst xs)→ok a→Q xs ds→P (.ref a) (.list ds)) (c6:∀ {a:Addr} {xs:List V} {ds:List D},SqK K H a xs→pl=true→Q xs ds→P (.ref a) (.list ds)) (c7:∀ {a:Addr} {xs:List V} {ds:List D},lJ H a xs→Q xs ds→P (.ref a) (.tuple ds))
 (c8:∀ {a:Addr} {u:HO} {kvs:List (D × D)},H a=some u→DH H u kvs→ok a→P (.ref a) (.dict kvs)) (c9:∀ {a:Addr} {u:HO} {kvs:List (D × D)} {o:Obj},H a=some (.frz o u)→DH H u kvs→pl=true→P (.ref a) (.dict kvs)) (c10:Q [] []) (c11:∀ {v:V} {d:D} {vs:List V} {ds:List D},P v d→Q vs ds→Q (v :: vs) (d :: ds)) :
 (∀ {v:V} {d:D},RA K ok pl H v d→P v d)∧∀ {v:List V} {d:List D},RAs K ok pl H v d→Q v d :=
 ⟨fun h=>RA.rec (motive_1:=fun v d _=>P v d) (motive_2:=fun v d _=>Q v d) c1 c2 c3 c4 (fun h o _ q=>c5 h o q) (fun h o _ q=>c6 h o q) (fun h _ q=>c7 h q) (fun h g o=>c8 h g o) (fun h g o=>c9 h g o) c10 (fun _ _ a q=>c11 a q) h,
  fun h=>RAs.rec (motive_1:=fun v d _=>P v d) (motive_2:=fun v d _=>Q v d) c1 c2 c3 c4 (fun h o _ q=>c5 h o q) (fun h o _ q=>c6 h o q) (fun h _ q=>c7 h q) (fun h g o=>c8 h g o) (fun h g o=>c9 h g o) c10 (fun _ _ a q=>c11 a q) h⟩
theorem RA.imp2 (ho:∀ a,ok a→ok' a) (hp:pl=true→pl'=true):(∀ {v:V} {d:D},RA K ok pl H v d→RA K ok' pl' H v d)∧∀ {v:List V} {d:List D},RAs K ok pl H v d→RAs K ok' pl' H v d :=
 RA.ind .non .bl .int .str (fun h o q=>.lst h (ho _ o) q) (fun h o q=>.lsk h (hp o) q) (fun h q=>.tup h q) (fun h g o=>.dic h g (ho _ o)) (fun h g o=>.dik h g (hp o)) .nil .cons
theorem RA.imp (ho:∀ a,ok a→ok' a) (hp:pl=true→pl'=true) {v:V} {d:D} (h:RA K ok pl H v d):RA K ok' pl' H v d:=(RA.imp2 ho hp).1 h
theorem RAs.imp (ho:∀ a,ok a→ok' a) (hp:pl=true→pl'=true) {v:List V} {d:List D} (h:RAs K ok pl H v d):RAs K ok' pl' H v d:=(RA.imp2 ho hp).2 h
theorem SqK.same {a:Addr} {xs:List V} (e:Same H H') (h:SqK K H a xs):SqK K H' a xs:=by
 rcases h with ⟨o,h⟩ | h
 ·exact .inl ⟨o,e _ _ h⟩
 ·exact .inr h
theorem RA.same2 (e:Same H H'):(∀ {v:V} {d:D},RA K ok pl H v d→RA K ok pl H' v d)∧∀ {v:List V} {d:List D},RAs K ok pl H v d→RAs K ok pl H' v d :=
 RA.ind .non .bl .int .str (fun h o q=>.lst (e _ _ h) o q) (fun h o q=>.lsk (h.same e) o q) (fun h q=>.tup (lJ.same e h) q) (fun h g o=>.dic (e _ _ h) (g.same e) o) (fun h g o=>.dik (e _ _ h) (g.same e) o) .nil .cons
theorem RA.same (e:Same H H') {v:V} {d:D} (h:RA K ok pl H v d):RA K ok pl H' v d:=(RA.same2 e).1 h
theorem RAs.same (e:Same H H') {v:List V} {d:List D} (h:RAs K ok pl H v d):RAs K ok pl H' v d:=(RA.same2 e).2 h
theorem RA.flat2:(∀ {v:V} {d:D},RA K ok pl H v d→flat d=true→RA K ok' pl' H v d)∧∀ {v:List V} {d:List D},RAs K ok pl H v d→flats d=true→RAs K ok' pl' H v d :=
 RA.ind (fun _=>.non) (fun b _=>.bl b) (fun i _=>.int i) (fun x _=>.str x) (fun _ _ _ h=>by simp [D3.flat] at h) (fun _ _ _ h=>by simp [D3.flat] at h) (fun t q h=>.tup t (q (by simpa [D3.flat] using h))) (fun _ _ _ h=>by simp [D3.flat] at h) (fun _ _ _ h=>by simp [D3.flat] at h) (fun _=>.nil) fun a q h=>by
  rw [flats,aO] at h
  exact .cons (a h.1) (q h.2)
theorem RA.flat {v:V} {d:D} (hf:flat d=true) (h:RA K ok pl H v d):RA K ok' pl' H v d:=RA.flat2.1 h hf
theorem RAs.flat {v:List V} {d:List D} (hf:flats d=true) (h:RAs K ok pl H v d):RAs K ok' pl' H v d:=RA.flat2.2 h hf
theorem SqK.upd {a b:Addr} {xs:List V} {u o:HO} [cu:Chg u] (h:H a=some u) (q:SqK K H b xs):SqK K (upd H a o) b xs:=by
 rcases q with ⟨o',q⟩ | q
 ·refine .inl ⟨o',?_⟩
  rw [dU (DR q h (by intro z;subst z;first | exact cu.frz | exact cu.tup))]
  exact q
 ·exact .inr q
theorem RA.upd2 {a:Addr} {u o:HO} [cu:Chg u] (h:H a=some u) (na:¬ ok a):(∀ {v:V} {d:D},RA K ok pl H v d→RA K ok pl (upd H a o) v d)∧∀ {v:List V} {d:List D},RAs K ok pl H v d→RAs K ok pl (upd H a o) v d :=
 RA.ind .non .bl .int .str (fun e k q=>.lst (by rw [dU (by intro z;subst z;exact na k)];exact e) k q) (fun e k q=>.lsk (e.upd h) k q) (fun e q=>.tup (lJ.upd h e) q) (fun e g k=>.dic (by rw [dU (by intro z;subst z;exact na k)];exact e) (g.upd h) k) (fun e g k=>.dik (by rw [dU (DR e h (by intro z;subst z;exact cu.frz))];exact e) (g.upd h) k) .nil .cons
theorem RA.upd {a:Addr} {u o:HO} [cu:Chg u] (h:H a=some u) (na:¬ ok a) {v:V} {d:D} (r:RA K ok pl H v d):RA K ok pl (upd H a o) v d:=(RA.upd2 h na).1 r
theorem RAs.upd {a:Addr} {u o:HO} [cu:Chg u] (h:H a=some u) (na:¬ ok a) {v:List V} {d:List D} (r:RAs K ok pl H v d):RAs K ok pl (upd H a o) v d:=(RA.upd2 h na).2 r
theorem RA.track2:(∀ {v:V} {d:D},RA K ok pl H v d→RA K (fun b=>ok b∧H b ≠ none) pl H v d)∧∀ {v:List V} {d:List D},RAs K ok pl H v d→RAs K (fun b=>ok b∧H b ≠ none) pl H v d :=
 RA.ind .non .bl .int .str (fun e k q=>.lst e ⟨k,by rw [e];simp⟩ q) (fun e k q=>.lsk e k q) (fun e q=>.tup e q) (fun e g k=>.dic e g ⟨k,by rw [e];simp⟩) (fun e g k=>.dik e g k) .nil .cons
theorem RA.track {v:V} {d:D} (h:RA K ok pl H v d):RA K (fun b=>ok b∧H b ≠ none) pl H v d:=RA.track2.1 h
theorem RAs.track {v:List V} {d:List D} (h:RAs K ok pl H v d):RAs K (fun b=>ok b∧H b ≠ none) pl H v d:=RA.track2.2 h
theorem RAs.length:∀ {v:List V} {d:List D},RAs K ok pl H v d→v.length=d.length
 | _,_,.nil=>rfl
 | _,_,.cons _ q=>by simp [RAs.length q]
theorem RAs.get:∀ {v:List V} {d:List D} {i:Nat} {x:D},RAs K ok pl H v d→d[i]? = some x→∃ y,v[i]? = some y∧RA K ok pl H y x
 | _,_,_,_,.nil,h=>by simp at h
 | _,_,0,_,.cons a _,h=>by simp at h;subst h;exact ⟨_,rfl,a⟩
 | _,_,i + 1,_,.cons _ q,h=>by
  obtain ⟨y,e,r⟩:=RAs.get (i:=i) q (by simpa using h)
  exact ⟨y,by simpa using e,r⟩
theorem RAs.append:∀ {v v':List V} {d d':List D},RAs K ok pl H v d→RAs K ok pl H v' d'→RAs K ok pl H (v++v') (d++d')
 | _,_,_,_,.nil,q=>q
 | _,_,_,_,.cons a r,q=>.cons a (RAs.append r q)
theorem RAs.set {x:V} {y:D} (r:RA K ok pl H x y):∀ {v:List V} {d:List D} (i:Nat),RAs K ok pl H v d→RAs K ok pl H (v.set i x) (d.set i y)
 | _,_,_,.nil=>.nil
 | _,_,0,.cons _ q=>.cons r q
 | _,_,i + 1,.cons a q=>.cons a (RAs.set r i q)
theorem RAs.take:∀ {v:List V} {d:List D} (n:Nat),RAs K ok pl H v d→RAs K ok pl H (v.take n) (d.take n)
 | _,_,0,_=>by simp;exact .nil
 | _,_,_ + 1,.nil=>.nil
 | _,_,n + 1,.cons a q=>.cons a (RAs.take n q)
theorem RAs.drop:∀ {v:List V} {d:List D} (n:Nat),RAs K ok pl H v d→RAs K ok pl H (v.drop n) (d.drop n)
 | _,_,0,q=>q
 | _,_,_ + 1,.nil=>.nil
 | _,_,n + 1,.cons _ q=>RAs.drop n q
theorem RAs.reverse:∀ {v:List V} {d:List D},RAs K ok pl H v d→RAs K ok pl H v.reverse d.reverse
 | _,_,.nil=>.nil
 | _,_,.cons a q=>by
  rw [kI,kI]
  exact (RAs.reverse q).append (.cons a .nil)
theorem RA.rd2:(∀ {v:V} {d:D},RA K ok pl H v d→d.canLay0=true→RdV K H v d)∧∀ {v:List V} {d:List D},RAs K ok pl H v d→PyData.canLayAll0 d=true→RdVs K H v d :=
 RA.ind (fun _=>.non) (fun b _=>.bl b) (fun i _=>.int i) (fun x _=>.str x) (fun e _ q h=>.lst (SqL.of e) (q (by simpa [PyData.canLay0] using h))) (fun e _ q h=>.lst e.sq (q (by simpa [PyData.canLay0] using h))) (fun e q h=>.tup e.sq (q (by simpa [PyData.canLay0] using h))) (fun _ _ _ h=>by simp [PyData.canLay0] at h) (fun _ _ _ h=>by simp [PyData.canLay0] at h) (fun _=>.nil) fun a q h=>by
  rw [PyData.canLayAll0,aO] at h
  exact .cons (a h.1) (q h.2)
theorem RA.rd {v:V} {d:D} (hf:d.canLay0=true) (h:RA K ok pl H v d):RdV K H v d:=RA.rd2.1 h hf
theorem RA.intE {v:V} {i:Int} (h:RA K ok pl H v (.int i)):v = .int i:=by cases h;rfl
theorem RA.blE {v:V} {b:Bool} (h:RA K ok pl H v (.bool b)):v = .bl b:=by cases h;rfl
theorem RA.nonE {v:V} (h:RA K ok pl H v .none):v = .non:=by cases h;rfl
theorem RA.lstE {v:V} {ds:List D} (h:RA K ok pl H v (.list ds)):∃ a xs,v = .ref a∧SqL K H a xs∧RAs K ok pl H xs ds:=by
 cases h with
 | lst e k q=>exact ⟨_,_,rfl,SqL.of e,q⟩
 | lsk e k q=>exact ⟨_,_,rfl,e.sq,q⟩
theorem RA.dicU {v:V} {kvs:List (D × D)} (h:RA K ok pl H v (.dict kvs)):∃ a u,v = .ref a∧L2.Rd H a u∧DH H u kvs:=by
 cases h with
 | dic e g k=>exact ⟨_,_,rfl,.inl e,g⟩
 | dik e g k=>exact ⟨_,_,rfl,.inr ⟨_,e⟩,g⟩
theorem RA.dicE {v:V} {kvs:List (D × D)} (h:RA K ok pl H v (.dict kvs)) (ho:wR kvs=true):∃ a,v = .ref a∧L2.Rd H a (dh0 kvs):=by
 obtain ⟨a,u,h1,h2,h3⟩:=h.dicU
 rw [h3.old ho] at h2
 exact ⟨a,h1,h2⟩
theorem RA.tupE {v:V} {ds:List D} (h:RA K ok pl H v (.tuple ds)):∃ a xs,v = .ref a∧SqT K H a xs∧RAs K ok pl H xs ds:=by
 cases h with
 | tup e q=>exact ⟨_,_,rfl,e.sq,q⟩
theorem RA.tupE0 {v:V} {ds:List D} (h:RA K ok pl H v (.tuple ds)):∃ a xs,v = .ref a∧lJ H a xs∧RAs K ok pl H xs ds:=by
 cases h with
 | tup e q=>exact ⟨_,_,rfl,e,q⟩
end
inductive Fl where
 | A
 | O
 | L
 | N
 | M
 deriving DecidableEq
noncomputable def isN:Option Fl→Bool
 | some .N=>true
 | some .M=>true
 | _=>false
mutual
inductive RT (K:PySem.W.Frag) (H:Hp):V→D→List Addr→Prop
 | non:RT K H .non .none []
 | bl (b:Bool):RT K H (.bl b) (.bool b) []
 | int (i:Int):RT K H (.int i) (.int i) []
 | str (x:Str):RT K H (.str x) (.str x) []
 | lst {a:Addr} {xs:List V} {ds:List D} {as:List Addr}:H a=some (.lst xs)→RTs K H xs ds as→RT K H (.ref a) (.list ds) (a :: as)
 | tup {a:Addr} {xs:List V} {ds:List D} {as:List Addr}:lJ H a xs→RTs K H xs ds as→RT K H (.ref a) (.tuple ds) as
 | dic {a:Addr} {u:HO} {kvs:List (D × D)}:H a=some u→DH H u kvs→RT K H (.ref a) (.dict kvs) [a]
inductive RTs (K:PySem.W.Frag) (H:Hp):List V→List D→List Addr→Prop
 | nil:RTs K H [] [] []
 | cons {v:V} {d:D} {vs:List V} {ds:List D} {as bs:List Addr}:RT K H v d as→RTs K H vs ds bs→RTs K H (v :: vs) (d :: ds) (as++bs)
end
section
variable {K:PySem.W.Frag} {H H':Hp}
theorem RT.ind {P:V→D→List Addr→Prop} {Q:List V→List D→List Addr→Prop} (c1:P .non .none []) (c2:∀ b,P (.bl b) (.bool b) []) (c3:∀ i,P (.int i) (.int i) []) (c4:∀ x,P (.str x) (.str x) [])
 (c5:∀ {a:Addr} {xs:List V} {ds:List D} {as:List Addr},H a=some (.lst xs)→Q xs ds as→P (.ref a) (.list ds) (a :: as)) (c7:∀ {a:Addr} {xs:List V} {ds:List D} {as:List Addr},lJ H a xs→Q xs ds as→P (.ref a) (.tuple ds) as)
 (c8:∀ {a:Addr} {u:HO} {kvs:List (D × D)},H a=some u→DH H u kvs→P (.ref a) (.dict kvs) [a]) (c10:Q [] [] []) (c11:∀ {v:V} {d:D} {vs:List V} {ds:List D} {as bs:List Addr},P v d as→Q vs ds bs→Q (v :: vs) (d :: ds) (as++bs)) :
 (∀ {v:V} {d:D} {as:List Addr},RT K H v d as→P v d as)∧∀ {v:List V} {d:List D} {as:List Addr},RTs K H v d as→Q v d as :=
 ⟨fun h=>RT.rec (motive_1:=fun v d as _=>P v d as) (motive_2:=fun v d as _=>Q v d as) c1 c2 c3 c4 (fun h _ q=>c5 h q) (fun h _ q=>c7 h q) (fun h g=>c8 h g) c10 (fun _ _ a q=>c11 a q) h,
  fun h=>RTs.rec (motive_1:=fun v d as _=>P v d as) (motive_2:=fun v d as _=>Q v d as) c1 c2 c3 c4 (fun h _ q=>c5 h q) (fun h _ q=>c7 h q) (fun h g=>c8 h g) c10 (fun _ _ a q=>c11 a q) h⟩
theorem RT.ra2 {ok:Ok} {pl:Bool}:(∀ {v:V} {d:D} {as:List Addr},RT K H v d as→(∀ a ∈ as,ok a)→RA K ok pl H v d)∧∀ {v:List V} {d:List D} {as:List Addr},RTs K H v d as→(∀ a ∈ as,ok a)→RAs K ok pl H v d :=
 RT.ind (fun _=>.non) (fun b _=>.bl b) (fun i _=>.int i) (fun x _=>.str x) (fun e q h=>.lst e (h _ aP) (q fun a ha=>h a (aL _ ha))) (fun e q h=>.tup e (q h)) (fun e g h=>.dic e g (h _ aP)) (fun _=>.nil) fun e q h=>.cons (e fun a ha=>h a (cV _ ha)) (q fun a ha=>h a (bL _ ha))
theorem RT.ra {ok:Ok} {pl:Bool} {v:V} {d:D} {as:List Addr} (r:RT K H v d as) (h:∀ a ∈ as,ok a):RA K ok pl H v d:=RT.ra2.1 r h
theorem RT.same2 (s:Same H H'):(∀ {v:V} {d:D} {as:List Addr},RT K H v d as→RT K H' v d as)∧∀ {v:List V} {d:List D} {as:List Addr},RTs K H v d as→RTs K H' v d as :=
 RT.ind .non .bl .int .str (fun e q=>.lst (s _ _ e) q) (fun e q=>.tup (lJ.same s e) q) (fun e g=>.dic (s _ _ e) (g.same s)) .nil .cons
theorem RT.same (s:Same H H') {v:V} {d:D} {as:List Addr} (h:RT K H v d as):RT K H' v d as:=(RT.same2 s).1 h
theorem RT.upd2 {a:Addr} {u o:HO} [cu:Chg u] (h:H a=some u):(∀ {v:V} {d:D} {as:List Addr},RT K H v d as→a ∉ as→RT K (upd H a o) v d as)∧∀ {v:List V} {d:List D} {as:List Addr},RTs K H v d as→a ∉ as→RTs K (upd H a o) v d as :=
 RT.ind (fun _=>.non) (fun b _=>.bl b) (fun i _=>.int i) (fun x _=>.str x) (fun e q na=>.lst (by rw [dU (fun z=>na (by rw [← z];exact aP))];exact e) (q fun z=>na (aL _ z))) (fun e q na=>.tup (lJ.upd h e) (q na)) (fun e g na=>.dic (by rw [dU (fun z=>na (by rw [← z];exact aP))];exact e) (g.upd h)) (fun _=>.nil) fun e q na=>.cons (e fun z=>na (cV _ z)) (q fun z=>na (bL _ z))
theorem RT.upd {a:Addr} {u o:HO} [cu:Chg u] (h:H a=some u) {v:V} {d:D} {as:List Addr} (na:a ∉ as) (r:RT K H v d as):RT K (upd H a o) v d as:=(RT.upd2 h).1 r na
theorem RT.chd2:(∀ {v:V} {d:D} {as:List Addr},RT K H v d as→∀ a ∈ as,Chd (H a))∧∀ {v:List V} {d:List D} {as:List Addr},RTs K H v d as→∀ a ∈ as,Chd (H a) :=
 RT.ind (fun _ h=>by cases h) (fun _ _ h=>by cases h) (fun _ _ h=>by cases h) (fun _ _ h=>by cases h) (fun e q a h=>by
  rcases aR.mp h with rfl | z
  ·exact ⟨_,e,inferInstance⟩
  ·exact q a z) (fun _ q=>q) (fun e g a h=>by rw [aV.mp h];exact ⟨_,e,g.chg⟩) (fun _ h=>by cases h) fun e q a h=>by
  rcases bW.mp h with z | z
  ·exact e a z
  ·exact q a z
theorem RT.chd {v:V} {d:D} {as:List Addr} (r:RT K H v d as):∀ a ∈ as,Chd (H a):=RT.chd2.1 r
theorem RTs.chd {v:List V} {d:List D} {as:List Addr} (r:RTs K H v d as):∀ a ∈ as,Chd (H a):=RT.chd2.2 r
theorem RT.tracked {v:V} {d:D} {as:List Addr} (h:RT K H v d as) (a:Addr) (ha:a ∈ as):H a ≠ none:=(h.chd a ha).ne
theorem RA.rt2 {ok:Ok}:(∀ {v:V} {d:D},RA K ok false H v d→∃ as,RT K H v d as∧as.length=nl d∧∀ a ∈ as,ok a)∧∀ {v:List V} {d:List D},RAs K ok false H v d→∃ as,RTs K H v d as∧as.length=nls d∧∀ a ∈ as,ok a :=
 RA.ind ⟨[],.non,rfl,fun _ h=>by cases h⟩ (fun b=>⟨[],.bl b,rfl,fun _ h=>by cases h⟩) (fun i=>⟨[],.int i,rfl,fun _ h=>by cases h⟩) (fun x=>⟨[],.str x,rfl,fun _ h=>by cases h⟩) (fun e k q=>by
  obtain ⟨as,h1,h2,h3⟩:=q
  refine ⟨_ :: as,.lst e h1,by rw [bK,h2,nl],fun a ha=>?_⟩
  rcases aR.mp ha with rfl | z
  ·exact k
  ·exact h3 a z) (fun _ k _=>by cases k) (fun e q=>by
  obtain ⟨as,h1,h2,h3⟩:=q
  exact ⟨as,.tup e h1,by rw [h2,nl],h3⟩) (fun e g k=>⟨[_],.dic e g,by simp [nl],fun a ha=>by rw [aV.mp ha];exact k⟩) (fun _ _ k=>by cases k) ⟨[],.nil,rfl,fun _ h=>by cases h⟩ fun e q=>by
  obtain ⟨as,h1,h2,h3⟩:=e
  obtain ⟨bs,g1,g2,g3⟩:=q
  refine ⟨as++bs,.cons h1 g1,by rw [bB,h2,g2,nls],fun a ha=>?_⟩
  rcases bW.mp ha with z | z
  ·exact h3 a z
  ·exact g3 a z
theorem RA.rt {ok:Ok} {v:V} {d:D} (h:RA K ok false H v d):∃ as,RT K H v d as∧as.length=nl d∧∀ a ∈ as,ok a:=RA.rt2.1 h
end
noncomputable def tabs:List (Addr × Str × Pos):=[]
noncomputable def Tb (H:Hp):Prop:=∀ t ∈ tabs,H t.1=some (.tbl t.2.1 t.2.2)
theorem Tb.same {H H':Hp} (t:Tb H) (s:Same H H'):Tb H':=fun x hx=>s _ _ (t x hx)
structure Gh where
 H0:Hp
 HF:Hp
 pk:Nat→Option Addr
 pn:Nat→List Addr
 tb:Tb H0
structure Ow where
 s:Nat→Option Addr
 n:Nat→List Addr:=fun _=>[]
instance:CoeFun Ow (fun _=>Nat→Option Addr):=⟨Ow.s⟩
noncomputable abbrev ow0:Ow:=⟨fun _=>none,fun _=>[]⟩
noncomputable def okA (ow:Ow):Ok:=fun a=>(∀ i,ow i ≠ some a)∧∀ i,a ∉ ow.n i
structure Rel (K:PySem.W.Frag) (fl:List Fl) (G:Gh) (ow:Ow) (σ:St) (H:Hp) (δ:DS):Prop where
 s0:Same G.H0 G.HF
 s1:Same G.HF H
 len:σ.length=δ.length
 own:∀ i a,ow i=some a→G.H0 a=none∧((fl[i]? = some .O∧G.HF a=none)∨(fl[i]? = some .L∧∃ xs,G.HF a=some (.lst xs))) ∧
  ∃ xs ds,σ[i]? = some (some (.ref a))∧H a=some (.lst xs)∧RAs K (okA ow) true H xs ds∧δ[i]? = some (some (.d (.list ds)))
 inj:∀ i j a,ow i=some a→ow j=some a→i=j
 pin:∀ i,fl[i]? = some .L→ow i=G.pk i
 dat:∀ i d,δ[i]? = some (some (.d d))→isN fl[i]? = false→ow i=none→∃ v,σ[i]? = some (some v)∧RA K (okA ow) true H v d
 oo:∀ i d,δ[i]? = some (some (.d d))→isN fl[i]? = false→fl[i]? ≠ some .A→ow i=none→flat d=true
 nt:∀ i a,a ∈ ow.n i→G.H0 a=none∧Chd (H a)∧((fl[i]? = some .N∧G.HF a=none)∨fl[i]? = some .M)
 nd:∀ i j a,a ∈ ow.n i→a ∈ ow.n j→i=j
 ns:∀ i j a,a ∈ ow.n i→ow j ≠ some a
 np:∀ i,fl[i]? = some .M→ow.n i=G.pn i
 nr:∀ i d,isN fl[i]? = true→δ[i]? = some (some (.d d))→∃ v,σ[i]? = some (some v)∧RT K H v d (ow.n i)∧(ow.n i).Nodup
theorem Rel.tb {K:PySem.W.Frag} {fl:List Fl} {G:Gh} {ow:Ow} {σ:St} {H:Hp} {δ:DS} (R:Rel K fl G ow σ H δ):Tb H:=G.tb.same (R.s0.trans R.s1)
theorem Rel.same0 {K:PySem.W.Frag} {fl:List Fl} {G:Gh} {ow:Ow} {σ:St} {H:Hp} {δ:DS} (R:Rel K fl G ow σ H δ):Same G.H0 H:=R.s0.trans R.s1
theorem Rel.grow {K:PySem.W.Frag} {fl:List Fl} {G:Gh} {ow:Ow} {σ:St} {H H':Hp} {δ:DS} (R:Rel K fl G ow σ H δ) (e:Same H H'):Rel K fl G ow σ H' δ :=
 ⟨R.s0,R.s1.trans e,R.len,fun i a h=>by
  obtain ⟨h0,hf,xs,ds,h1,h2,h3,h4⟩:=R.own i a h
  exact ⟨h0,hf,xs,ds,h1,e _ _ h2,h3.same e,h4⟩,R.inj,R.pin,fun i d h1 hn h2=>by
  obtain ⟨v,h3,h4⟩:=R.dat i d h1 hn h2
  exact ⟨v,h3,h4.same e⟩,R.oo,fun i a h=>by
  obtain ⟨h1,h2,h3⟩:=R.nt i a h
  exact ⟨h1,(let ⟨u,z,c⟩:=h2;⟨u,e _ _ z,c⟩),h3⟩,R.nd,R.ns,R.np,fun i d h1 h2=>by
  obtain ⟨v,h3,h4,h5⟩:=R.nr i d h1 h2
  exact ⟨v,h3,h4.same e,h5⟩⟩
inductive Kd where
 | P
 | B (L:List Nat)
 | A
 | R
 | F
 | C
 | FC
 | T
noncomputable def ok1:Ok:=fun _=>True
noncomputable def ok0:Ok:=fun _=>False
noncomputable def okN (H:Hp):Ok:=fun a=>H a=none
noncomputable def Rs (K:PySem.W.Frag) (H0:Hp) (ow:Ow) (Hb H:Hp):Kd→V→D→Prop
 | .P,v,d=>RA K ok1 true H v d
 | .B L,v,d=>RA K (okA ow) true H v d∨∃ i ∈ L,∃ a xs ds,ow i=some a∧v = .ref a∧d = .list ds∧H a=some (.lst xs)∧RAs K (okA ow) true H xs ds
 | .A,v,d=>RA K (okA ow) true H v d
 | .R,v,d=>RA K (okN H0) false H v d
 | .F,v,d=>(flat d=true∧RA K ok0 false H v d)∨∃ a xs ds,v = .ref a∧d = .list ds∧Hb a=none∧H a=some (.lst xs)∧RAs K (fun b=>okA ow b∧b ≠ a) true H xs ds
 | .C,v,d=>RA K (okN Hb) false H v d
 | .T,v,d=>∃ as,RT K H v d as∧as.Nodup∧∀ a ∈ as,Hb a=none
 | .FC,v,d=>(flat d=true∧RA K ok0 false H v d)∨∃ a xs ds,v = .ref a∧d = .list ds∧Hb a=none∧H a=some (.lst xs)∧RAs K (fun b=>okN Hb b∧b ≠ a) false H xs ds
section
variable {K:PySem.W.Frag} {Hb H H':Hp} {fl:List Fl} {G:Gh} {ow:Ow} {σ:St} {δ:DS} {v:V} {d:D}
theorem yO (R:Rel K fl G ow σ Hb δ) {a:Addr} (h:Hb a=none):okA ow a:=⟨fun i e=>(by
 obtain ⟨_,_,xs,_,_,h2,_⟩:=R.own i a e
 rw [h] at h2
 cases h2),fun i e=>(R.nt i a e).2.1.ne h⟩
theorem U_ (R:Rel K fl G ow σ Hb δ) {a:Addr} (h:Hb a=none):okN G.H0 a:=R.same0.free h
theorem Rs.FC_F (R:Rel K fl G ow σ Hb δ) (h:Rs K G.H0 ow Hb H .FC v d):Rs K G.H0 ow Hb H .F v d:=by
 rcases h with h | ⟨a,xs,ds,h1,h2,h3,h4,h5⟩
 ·exact .inl h
 ·exact .inr ⟨a,xs,ds,h1,h2,h3,h4,h5.imp (fun b z=>⟨yO R z.1,z.2⟩) (fun _=>rfl)⟩
theorem Rs.FC_C (h:Rs K G.H0 ow Hb H .FC v d):Rs K G.H0 ow Hb H .C v d:=by
 rcases h with h | ⟨a,xs,ds,rfl,rfl,h3,h4,h5⟩
 ·exact RA.flat h.1 h.2
 ·exact .lst h4 h3 (h5.imp (fun b z=>z.1) (fun z=>z))
theorem Rs.F_A (R:Rel K fl G ow σ Hb δ) (h:Rs K G.H0 ow Hb H .F v d):Rs K G.H0 ow Hb H .A v d:=by
 rcases h with h | ⟨a,xs,ds,rfl,rfl,h3,h4,h5⟩
 ·exact RA.flat h.1 h.2
 ·exact .lst h4 (yO R h3) (h5.imp (fun b z=>z.1) (fun z=>z))
theorem Rs.C_A (R:Rel K fl G ow σ Hb δ) (h:Rs K G.H0 ow Hb H .C v d):Rs K G.H0 ow Hb H .A v d:=RA.imp (fun _ z=>yO R z) (fun _=>rfl) h
theorem Rs.C_R (R:Rel K fl G ow σ Hb δ) (h:Rs K G.H0 ow Hb H .C v d):Rs K G.H0 ow Hb H .R v d:=RA.imp (fun _ z=>U_ R z) (fun z=>z) h
theorem Rs.A_B (L:List Nat) (h:Rs K G.H0 ow Hb H .A v d):Rs K G.H0 ow Hb H (.B L) v d:=.inl h
theorem Rs.B_P {L:List Nat} (h:Rs K G.H0 ow Hb H (.B L) v d):Rs K G.H0 ow Hb H .P v d:=by
 rcases h with h | ⟨i,_,a,xs,ds,_,rfl,rfl,h4,h5⟩
 ·exact RA.imp (fun _ _=>trivial) (fun z=>z) h
 ·exact .lst h4 trivial (h5.imp (fun _ _=>trivial) (fun z=>z))
theorem Rs.P_flat (hf:flat d=true) (h:Rs K G.H0 ow Hb H .P v d):Rs K G.H0 ow Hb H .FC v d:=.inl ⟨hf,RA.flat hf h⟩
end
noncomputable def tD (K:PySem.W.Frag) (fl:List Fl) (k:Kd) (f:FE):TE:=fun σ H Q=>∃ G ow δ d,Rel K fl G ow σ H δ∧f δ=some d∧∀ v H',Same H H'→Rs K G.H0 ow H H' k v d→Q v H'
noncomputable abbrev DE (X:Cx) (fl:List Fl) (k:Kd) (e:Expr) (f:FE):Prop:=PE X e (tD X.K fl k f)
noncomputable def tDA (K:PySem.W.Frag) (fl:List Fl) (f:FA):TA:=fun σ H Q=>∃ G ow δ ds,Rel K fl G ow σ H δ∧f δ=some ds∧∀ vs H',Same H H'→RAs K ok1 true H' vs ds→Q vs H'
noncomputable abbrev DA (X:Cx) (fl:List Fl) (es:List Expr) (f:FA):Prop:=PA X es (tDA X.K fl f)
noncomputable def tDT (K:PySem.W.Frag) (fl:List Fl) (f:FT):TT:=fun σ H Q=>∃ G ow δ b,Rel K fl G ow σ H δ∧f δ=some b∧∀ H',Same H H'→Q b H'
noncomputable abbrev DT (X:Cx) (fl:List Fl) (e:Expr) (f:FT):Prop:=PT X e (tDT X.K fl f)
noncomputable abbrev DW (X:Cx) (fl:List Fl) (e:Expr) (f:FT):Prop:=PW X e (tDT X.K fl f)
noncomputable def Cw (K:PySem.W.Frag) (fl:List Fl) (G:Gh) (Dn:Ends):Oc→Prop
 | .nx δ'=>∀ ow' σ' H',Rel K fl G ow' σ' H' δ'→Dn.nx σ' H'
 | .rt d=>∀ v H',Same G.H0 H'→RA K (okN G.H0) false H' v d→Dn.rt v H'
 | .bk δ'=>∀ ow' σ' H',Rel K fl G ow' σ' H' δ'→Dn.bk σ' H'
 | .ct δ'=>∀ ow' σ' H',Rel K fl G ow' σ' H' δ'→Dn.ct σ' H'
 | .ex _ _ d=>∀ v H',Same G.H0 H'→RA K ok1 true H' v d→Dn.rt v H'
noncomputable def tDS (K:PySem.W.Frag) (fl:List Fl) (f:FS):TS:=fun Dn σ H=>∃ G ow δ o,Rel K fl G ow σ H δ∧f δ=some o∧Cw K fl G Dn o
noncomputable abbrev DS1 (X:Cx) (fl:List Fl) (s:Stmt) (f:FS):Prop:=PS X s (tDS X.K fl f)
noncomputable abbrev DSs (X:Cx) (fl:List Fl) (s:List Stmt) (f:FS):Prop:=PSs X s (tDS X.K fl f)
noncomputable def tDG (K:PySem.W.Frag) (fl:List Fl) (tg:List Nat) (g:FG):TG:=fun v σ H Q=>∃ G ow δ d δ',Rel K fl G ow σ H δ∧RA K (okA ow) true H v d∧g d δ=some δ'∧∀ σ',Rel K fl G ow σ' H δ'→(∀ j,j ∉ tg→σ'[j]? = σ[j]?)→Q σ' H
noncomputable abbrev DG (X:Cx) (fl:List Fl) (tg:List Nat) (e:Expr) (g:FG):Prop:=PG X e (tDG X.K fl tg g)
section
variable {X:Cx} {e:Expr} {es:List Expr} {st:Stmt} {sts:List Stmt}
theorem PE.imp {t t':TE} (h:PE X e t) (i:∀ σ H Q,t' σ H Q→t σ H Q):PE X e t':=fun pins s σ H Q I q=>h pins s σ H Q I (i σ H Q q)
theorem PT.imp {t t':TT} (h:PT X e t) (i:∀ σ H Q,t' σ H Q→t σ H Q):PT X e t':=fun pins s σ H Q I q=>h pins s σ H Q I (i σ H Q q)
theorem PW.imp {t t':TT} (h:PW X e t) (i:∀ σ H Q,t' σ H Q→t σ H Q):PW X e t':=fun w pins s σ H Q I q=>h w pins s σ H Q I (i σ H Q q)
theorem PA.imp {t t':TA} (h:PA X es t) (i:∀ σ H Q,t' σ H Q→t σ H Q):PA X es t':=fun p pins s σ H Q I q=>h p pins s σ H Q I (i σ H Q q)
theorem PS.imp {t t':TS} (h:PS X st t) (i:∀ D σ H,t' D σ H→t D σ H):PS X st t':=fun pins s σ H D I q=>h pins s σ H D I (i D σ H q)
theorem PSs.imp {t t':TS} (h:PSs X sts t) (i:∀ D σ H,t' D σ H→t D σ H):PSs X sts t':=fun pins s σ H D I q=>h pins s σ H D I (i D σ H q)
theorem PG.imp {t t':TG} (h:PG X e t) (i:∀ v σ H Q,t' v σ H Q→t v σ H Q):PG X e t':=fun pins s σ H v u Q I r q=>h pins s σ H v u Q I r (i v σ H Q q)
end
end D3
namespace D3
open PySem PySem.Spec PyProof.Rows L2 My
section
variable {X:Cx} {fl:List Fl} {e a b c:Expr} {es:List Expr} {k:Kd} {f fa fb fc:FE} {pos:Pos}
theorem rm {i:Nat} {δ:DS} {d:D} (h:aG i δ=some d):δ[i]? = some (some (.d d)):=by
 unfold aG at h
 split at h
 ·next x e=>rw [e];cases h;rfl
 ·cases h
theorem sI (i:Nat) {x:Str} (hN:X.N[i]? = some x:=by rfl) (hv:Vis X.env.scope x:=by first | exact Or.inl rfl | exact Or.inr (Or.inl rfl) | exact Or.inr (Or.inr rfl)) (hd:(x == ("__debug__" : Str))=false:=by decide)
 (hcd:(x == ("__classdict__" : Str))=false:=by decide) (hn:isN fl[i]? = false:=by rfl):DE X fl (.B [i]) (.Name x pos) (aG i):=by
 refine PE.imp (oA hN hv hd hcd) fun σ H Q h=>?_
 obtain ⟨G,ow,δ,d,R,hf,q⟩:=h
 have e:=rm hf
 cases ho:ow i with
 | none =>
  obtain ⟨v,h1,h2⟩:=R.dat i d e hn ho
  exact ⟨v,h1,q v H (Same.refl H) (.inl h2)⟩
 | some a =>
  obtain ⟨h0,_,xs,ds,h1,h2,h3,h4⟩:=R.own i a ho
  rw [e] at h4
  cases h4
  exact ⟨_,h1,q _ H (Same.refl H) (.inr ⟨i,aV.mpr rfl,a,xs,ds,ho,rfl,rfl,h2,h3⟩)⟩
theorem yP (i:Nat) (hfl:fl[i]? = some .A) {x:Str} (hN:X.N[i]? = some x:=by rfl) (hv:Vis X.env.scope x:=by first | exact Or.inl rfl | exact Or.inr (Or.inl rfl) | exact Or.inr (Or.inr rfl)) (hd:(x == ("__debug__" : Str))=false:=by decide)
 (hcd:(x == ("__classdict__" : Str))=false:=by decide):DE X fl .A (.Name x pos) (aG i):=by
 refine PE.imp (oA hN hv hd hcd) fun σ H Q h=>?_
 obtain ⟨G,ow,δ,d,R,hf,q⟩:=h
 have e:=rm hf
 cases ho:ow i with
 | none =>
  obtain ⟨v,h1,h2⟩:=R.dat i d e (by rw [hfl];rfl) ho
  exact ⟨v,h1,q v H (Same.refl H) h2⟩
 | some a =>
  obtain ⟨h0,hz,_⟩:=R.own i a ho
  rw [hfl] at hz
  rcases hz with ⟨z,_⟩ | ⟨z,_⟩ <;> cases z
theorem uW (i:Nat) (hfl:fl[i]? ≠ some .A) {x:Str} (hN:X.N[i]? = some x:=by rfl) (hv:Vis X.env.scope x:=by first | exact Or.inl rfl | exact Or.inr (Or.inl rfl) | exact Or.inr (Or.inr rfl)) (hd:(x == ("__debug__" : Str))=false:=by decide)
 (hcd:(x == ("__classdict__" : Str))=false:=by decide) (hn:isN fl[i]? = false:=by rfl):DE X fl .R (.Name x pos) (Aq (aG i)):=by
 refine PE.imp (oA hN hv hd hcd) fun σ H Q h=>?_
 obtain ⟨G,ow,δ,d,R,hf,q⟩:=h
 unfold Aq at hf
 cases hv':aG i δ with
 | none=>rw [hv'] at hf;cases hf
 | some d' =>
  rw [hv',aK] at hf
  by_cases hc:fl1 d'=true
  ·rw [if_pos hc] at hf
   cases hf
   have e:=rm hv'
   cases ho:ow i with
   | none =>
    obtain ⟨v,h1,h2⟩:=R.dat i d e hn ho
    exact ⟨v,h1,q v H (Same.refl H) (RA.flat (R.oo i d e hn hfl ho) h2)⟩
   | some a =>
    obtain ⟨h0,_,xs,ds,h1,h2,h3,h4⟩:=R.own i a ho
    rw [e] at h4
    cases h4
    exact ⟨_,h1,q _ H (Same.refl H) (.lst h2 h0 (RAs.flat hc h3))⟩
  ·rw [if_neg hc] at hf
   cases hf
theorem mX {k k':Kd} (h:DE X fl k e f) (hc:∀ (Hb H:Hp) (G:Gh) (ow:Ow) (σ:St) (δ:DS) (v:V) (d:D),Rel X.K fl G ow σ Hb δ→Rs X.K G.H0 ow Hb H k v d→Rs X.K G.H0 ow Hb H k' v d):DE X fl k' e f:=by
 refine PE.imp h fun σ H Q h=>?_
 obtain ⟨G,ow,δ,d,R,hf,q⟩:=h
 exact ⟨G,ow,δ,d,R,hf,fun v H' s r=>q v H' s (hc _ _ G ow σ δ v d R r)⟩
theorem Jk {k k':Kd} {p:D→Bool} (h:DE X fl k e f) (hc:∀ (Hb H:Hp) (G:Gh) (ow:Ow) (σ:St) (δ:DS) (v:V) (d:D),p d=true→Rel X.K fl G ow σ Hb δ→Rs X.K G.H0 ow Hb H k v d→Rs X.K G.H0 ow Hb H k' v d) :
 DE X fl k' e (fun δ=>(f δ).bind fun d=>if p d=true then some d else none):=by
 refine PE.imp h fun σ H Q h=>?_
 obtain ⟨G,ow,δ,d,R,hf,q⟩:=h
 dsimp only at hf
 cases hv:f δ with
 | none=>rw [hv] at hf;cases hf
 | some d' =>
  rw [hv,aK] at hf
  by_cases hp:p d'=true
  ·rw [if_pos hp] at hf
   cases hf
   exact ⟨G,ow,δ,d,R,hv,fun v H' s r=>q v H' s (hc _ _ G ow σ δ v d hp R r)⟩
  ·rw [if_neg hp] at hf
   cases hf
theorem yQ (h:DE X fl .FC e f):DE X fl .F e f:=mX h fun _ _ _ _ _ _ _ _ R r=>r.FC_F R
theorem i_ (h:DE X fl .FC e f):DE X fl .C e f:=mX h fun _ _ _ _ _ _ _ _ R r=>r.FC_C
theorem kh (h:DE X fl .F e f):DE X fl .A e f:=mX h fun _ _ _ _ _ _ _ _ R r=>r.F_A R
theorem jd (h:DE X fl .C e f):DE X fl .A e f:=mX h fun _ _ _ _ _ _ _ _ R r=>r.C_A R
theorem xW (h:DE X fl .C e f):DE X fl .R e f:=mX h fun _ _ _ _ _ _ _ _ R r=>r.C_R R
theorem fQ (h:DE X fl .A e f):DE X fl (.B []) e f:=mX h fun _ _ _ _ _ _ _ _ R r=>Rs.A_B [] r
theorem xX {L:List Nat} (h:DE X fl (.B L) e f):DE X fl .P e f:=mX h fun _ _ _ _ _ _ _ _ R r=>r.B_P
theorem ji (h:DE X fl .P e f):DE X fl .FC e (fY f):=Jk h fun _ _ _ _ _ _ _ _ hf R r=>r.P_flat hf
theorem d9 (h:DE X fl .FC e f):DE X fl .A e f:=kh (yQ h)
theorem cM (h:DE X fl .FC e f):DE X fl .R e f:=xW (i_ h)
theorem dY (h:DE X fl .A e f):DE X fl .P e f:=xX (fQ h)
theorem gj (h:DE X fl .C e f):DE X fl .P e f:=dY (jd h)
theorem bC (h:DE X fl .FC e f):DE X fl .P e f:=dY (d9 h)
theorem xY (h:DE X fl .F e f):DE X fl .P e f:=dY (kh h)
theorem vU {v:V} {d:D} (h:PE X e (tC v)) (hf:flat d=true) (hr:∀ H,RA X.K ok0 false H v d):DE X fl .FC e (dC d):=by
 refine PE.imp h fun σ H Q h=>?_
 obtain ⟨G,ow,δ,d',R,hd,q⟩:=h
 cases hd
 exact q v H (Same.refl H) (.inl ⟨hf,hr H⟩)
theorem yR {i j pos}:DE X fl .FC (.Constant (.int i) j pos) (dC (.int i)):=vU Ql rfl fun _=>.int _
theorem nW {b j pos}:DE X fl .FC (.Constant (.bool b) j pos) (dC (.bool b)):=vU DX rfl fun _=>.bl _
theorem sJ {j pos}:DE X fl .FC (.Constant .none j pos) (dC .none):=vU Qm rfl fun _=>.non
theorem Cy {x j pos}:DE X fl .FC (.Constant (.str x) j pos) (dC (.str x)):=vU Qn rfl fun _=>.str _
theorem Mu {x:Str} {i:Int} {pos:Pos} (h:∃ t,X.mg x=some (.int i t)) (hg:Gl X x:=by rfl) (hd:(x == ("__debug__" : Str))=false:=by decide):DE X fl .FC (.Name x pos) (dC (.int i)):=by
 obtain ⟨t,h⟩:=h
 exact vU (Lk (v:=.int i) hg h ⟨t,rfl⟩ hd) rfl fun _=>.int _
noncomputable def BrO (K:PySem.W.Frag) (r:R2) (g:D→D→Option D):Prop:=∀ (H:Hp) (x y:V) (dx dy d:D) (Q:VK),RA K ok1 true H x dx→RA K ok1 true H y dy→g dx dy=some d→(∀ v,flat d=true→RA K ok0 false H v d→Q v H)→r x y H Q
theorem Ei {fa fb:FE} {g:D→D→Option D} {δ:DS} {d:D} (h:dOp g fa fb δ=some d):∃ x y,fa δ=some x∧fb δ=some y∧g x y=some d:=by
 unfold dOp at h
 cases ha:fa δ with
 | none=>rw [ha] at h;cases h
 | some x =>
  rw [ha,aK] at h
  cases hb:fb δ with
  | none=>rw [hb] at h;cases h
  | some y =>
   rw [hb,aK] at h
   exact ⟨x,y,rfl,rfl,h⟩
theorem bind1 {α β:Type} {x:Option α} {g:α→Option β} {d:β} (h:x.bind g=some d):∃ y,x=some y∧g y=some d:=by
 cases x with
 | none=>cases h
 | some y=>exact ⟨y,rfl,h⟩
theorem uG {r:R2} {g:D→D→Option D} {σ:St} {H:Hp} {Q:VK} (hb:BrO X.K r g) (h:tD X.K fl .FC (dOp g fa fb) σ H Q):tOp r (tD X.K fl .P fa) (tD X.K fl .P fb) σ H Q:=by
 obtain ⟨G,ow,δ,d,R,hf,q⟩:=h
 obtain ⟨x,y,e1,e2,e3⟩:=Ei hf
 refine ⟨G,ow,δ,x,R,e1,fun v H1 s1 r1=>⟨G,ow,δ,y,R.grow s1,e2,fun u H2 s2 r2=>?_⟩⟩
 exact hb H2 v u x y d Q (RA.same s2 r1) r2 e3 fun z hz rz=>q z H2 (s1.trans s2) (.inl ⟨hz,rz⟩)
theorem dG {op:Operator} {r:R2} {g:D→D→Option D} (ho:OpR X (binaryOp op) r) (hb:BrO X.K r g) (h1:DE X fl .P a fa) (h2:DE X fl .P b fb):DE X fl .FC (.BinOp a op b pos) (dOp g fa fb) :=
 PE.imp (Il ho h1 h2) fun _ _ _ h=>uG hb h
theorem j6 {op:CmpOp} {r:R2} {g:D→D→Option D} (ho:OpR X (compareOp op) r) (hb:BrO X.K r g) (h1:DE X fl .P a fa) (h2:DE X fl .P b fb) (hm:behindInMarks op b=false):DE X fl .FC (.Compare a [op] [b] pos) (dOp g fa fb) :=
 PE.imp (LC ho h1 h2 hm) fun _ _ _ h=>uG hb h
theorem cZ {op:CmpOp} {r:R2} {g:D→D→Option D} (ho:OpR X (compareOp op) r) (hb:BrO X.K r g) (h1:DE X fl .P a fa) (h2:DE X fl .P b fb) (hm:behindInMarks op b=false):DT X fl (.Compare a [op] [b] pos) (bI (dOp g fa fb)):=by
 refine PT.imp (LK ho h1 h2 hm) fun σ H Q h=>?_
 obtain ⟨G,ow,δ,c,R,hf,q⟩:=h
 obtain ⟨d,e1,e2⟩:=bind1 hf
 cases d <;> first | (cases e2;done) | skip
 cases e2
 refine uG (fl:=fl) (fa:=fa) (fb:=fb) hb ⟨G,ow,δ,_,R,e1,fun v H' s r=>?_⟩
 obtain rfl:=(Rs.FC_C r).blE
 exact ⟨_,rfl,q H' s⟩
theorem lK (h:DE X fl .P e f) (he:∀ whole,isTrue e X.env whole=(do let v ← whole;standAt e.pos;holding [v] (truthy v)):=by intro _;rfl):DT X fl e (bI f):=by
 refine PT.imp (Qq h he) fun σ H Q h=>?_
 obtain ⟨G,ow,δ,c,R,hf,q⟩:=h
 obtain ⟨d,e1,e2⟩:=bind1 hf
 cases d <;> first | (cases e2;done) | skip
 cases e2
 refine ⟨G,ow,δ,_,R,e1,fun v H' s r=>?_⟩
 obtain rfl:=RA.blE r
 exact ⟨_,rfl,q H' s⟩
theorem xZ {K:PySem.W.Frag} {h:Int→Int→V} {g:Int→Int→D} (hf:∀ i j,flat (g i j)=true) (hr:∀ H i j,RA K ok0 false H (h i j) (g i j)):BrO K (rI0 h) (gI fun i j=>some (g i j)):=by
 intro H x y dx dy d Q rx ry e q
 unfold gI at e
 split at e
 ·next i j =>
  cases e
  exact ⟨i,j,rx.intE,ry.intE,q _ (hf i j) (hr H i j)⟩
 ·cases e
theorem Mv {K:PySem.W.Frag} {C:Int→Int→Prop} {h:Int→Int→V} {g:Int→Int→D} {c:Int→Int→Bool} (hc:∀ i j,c i j=true→C i j) (hf:∀ i j,flat (g i j)=true) (hr:∀ H i j,RA K ok0 false H (h i j) (g i j)) :
 BrO K (rI C h) (gI fun i j=>if c i j=true then some (g i j) else none):=by
 intro H x y dx dy d Q rx ry e q
 unfold gI at e
 split at e
 ·next i j =>
  dsimp only at e
  by_cases z:c i j=true
  ·rw [if_pos z] at e
   cases e
   exact ⟨i,j,rx.intE,ry.intE,hc i j z,q _ (hf i j) (hr H i j)⟩
  ·rw [if_neg z] at e
   cases e
 ·cases e
end
section
variable {X:Cx} {K:PySem.W.Frag}
theorem Mw {i j:Int} (h:vL i j=true):IntMulOk i j:=by
 unfold vL at h
 rw [Bool.or_eq_true,Bool.or_eq_true,aO] at h
 rcases h with (h | h) | ⟨h1,h2⟩
 ·exact IntMulOk.of_left (PySem.intBits_le_iff.mpr (of_decide_eq_true h))
 ·exact IntMulOk.of_right (PySem.intBits_le_iff.mpr (of_decide_eq_true h))
 ·exact PySem.IntMulOk.of_le (PySem.intBits_le_iff.mpr (of_decide_eq_true h1)) (PySem.intBits_le_iff.mpr (of_decide_eq_true h2)) (by decide)
theorem kZ:OpR X (binaryOp .Mult) (rI (fun i j=>vL i j=true) fun i j=>.int (i * j)):=opI fun _ _ _ _ _ _ _ hc q=>mul_int q (Mw hc)
theorem Ej:OpR X (binaryOp .FloorDiv) (rI (fun i j=>Cu i j=true) fun i j=>.int (i.fdiv j)):=opI fun i j _ _ _ _ _ hc q=>by
 unfold Cu at hc
 rw [aO] at hc
 have h1:=of_decide_eq_true hc.1
 have h2:=of_decide_eq_true hc.2
 refine floordiv_int h1 q (.inl (PyProof.noPylong_of_log2 ?_))
 exact (Nat.log2_lt (by omega)).mpr h2
theorem Mx {i j:Int} (h:Q9 i j=true):QK i j:=by
 unfold Q9 at h
 rw [aO,aO] at h
 have h1:=of_decide_eq_true h.1.1
 have h2:=of_decide_eq_true h.1.2
 exact ⟨h1,by omega,of_decide_eq_true h.2⟩
theorem jw:BrO K (rI0 fun i j=>.int (i + j)) iZ:=xZ (fun _ _=>rfl) fun _ _ _=>.int _
theorem Jl:BrO K (rI0 fun i j=>.int (i - j)) yH:=xZ (fun _ _=>rfl) fun _ _ _=>.int _
theorem qt:BrO K (rI (fun i j=>vL i j=true) fun i j=>.int (i * j)) mW:=Mv (fun _ _ h=>h) (fun _ _=>rfl) fun _ _ _=>.int _
theorem PJ:BrO K (rI (fun i j=>Cu i j=true) fun i j=>.int (i.fdiv j)) Ar:=Mv (fun _ _ h=>h) (fun _ _=>rfl) fun _ _ _=>.int _
theorem tQ:BrO K (rI (fun _ j=>j ≠ 0) fun i j=>.int (i.fmod j)) sG:=Mv (fun _ _ h=>of_decide_eq_true h) (fun _ _=>rfl) fun _ _ _=>.int _
theorem Va:BrO K (rI QK fun i j=>.int (i ^ j.toNat)) Q_:=Mv (fun _ _ h=>Mx h) (fun _ _=>rfl) fun _ _ _=>.int _
theorem b_lt:BrO K (rI0 fun i j=>.bl (decide (i < j))) gLt:=xZ (fun _ _=>rfl) fun _ _ _=>.bl _
theorem wU:BrO K (rI0 fun i j=>.bl (decide (i ≤ j))) gLe:=xZ (fun _ _=>rfl) fun _ _ _=>.bl _
theorem Cz:BrO K (rI0 fun i j=>.bl (decide (j < i))) gGt:=xZ (fun _ _=>rfl) fun _ _ _=>.bl _
theorem Ra:BrO K (rI0 fun i j=>.bl (decide (j ≤ i))) gGe:=xZ (fun _ _=>rfl) fun _ _ _=>.bl _
theorem qu:BrO K (Q6 K) gEq:=by
 intro H x y dx dy d Q rx ry e q
 unfold gEq at e
 by_cases z:(SeqAt.shaped dx && SeqAt.shaped dy)=true
 ·rw [if_pos z] at e
  cases e
  rw [aO] at z
  exact ⟨dx,dy,rx.rd (SeqAt.canLay_of_shaped z.1),ry.rd (SeqAt.canLay_of_shaped z.2),z.1,z.2,q _ rfl (.bl _)⟩
 ·rw [if_neg z] at e
  cases e
theorem Rc:BrO K (U5 K) gNe:=by
 intro H x y dx dy d Q rx ry e q
 unfold gNe at e
 by_cases z:(SeqAt.shaped dx && SeqAt.shaped dy)=true
 ·rw [if_pos z] at e
  cases e
  rw [aO] at z
  exact ⟨dx,dy,rx.rd (SeqAt.canLay_of_shaped z.1),ry.rd (SeqAt.canLay_of_shaped z.2),z.1,z.2,q _ rfl (.bl _)⟩
 ·rw [if_neg z] at e
  cases e
end
end D3
namespace D3
open PySem PySem.Spec PyProof.Rows L2 My
section
variable {X:Cx} {fl:List Fl} {e a b c:Expr} {es:List Expr} {st:Stmt} {sts body orelse:List Stmt} {k:Kd} {f fa fb fc:FE} {fs gs:FS} {ft gt:FT} {pos:Pos}
theorem Cw.nx_imp {K:PySem.W.Frag} {G:Gh} {Dn:Ends} {N:St→Hp→Prop} {o:Oc} (h:Cw K fl G Dn o) (hn:∀ δ',o ≠ .nx δ'):Cw K fl G { Dn with nx:=N } o:=by
 cases o with
 | nx δ'=>exact absurd rfl (hn δ')
 | rt d=>exact h
 | bk δ'=>exact h
 | ct δ'=>exact h
 | ex c f v=>exact h
theorem dg:DSs X fl [] gh:=PSs.imp Ls fun Dn σ H h=>by
 obtain ⟨G,ow,δ,o,R,hf,q⟩:=h
 cases hf
 exact q ow σ H R
theorem aZ (h1:DS1 X fl st fs) (h2:DSs X fl sts gs):DSs X fl (st :: sts) (cA fs gs):=PSs.imp (H_ h1 h2) fun Dn σ H h=>by
 obtain ⟨G,ow,δ,o,R,hf,q⟩:=h
 obtain ⟨o1,e1,e2⟩:=bind1 hf
 refine ⟨G,ow,δ,o1,R,e1,?_⟩
 cases o1 with
 | nx δ'=>exact fun ow' σ' H' R'=>⟨G,ow',δ',o,R',e2,q⟩
 | rt d=>cases e2;exact Cw.nx_imp q (fun _ z=>by cases z)
 | bk d=>cases e2;exact Cw.nx_imp q (fun _ z=>by cases z)
 | ct d=>cases e2;exact Cw.nx_imp q (fun _ z=>by cases z)
 | ex c f v=>cases e2;exact q
theorem aY (h1:DS1 X fl st fs):DSs X fl [st] fs:=PSs.imp (Lw h1) fun _ _ _ h=>h
theorem cB (h:DE X fl .R e f):DS1 X fl (.Return (some e) pos) (eU f):=PS.imp (Ia h) fun Dn σ H h=>by
 obtain ⟨G,ow,δ,o,R,hf,q⟩:=h
 obtain ⟨d,e1,e2⟩:=bind1 hf
 cases e2
 exact ⟨G,ow,δ,d,R,e1,fun v H' s r=>q v H' (R.same0.trans s) r⟩
theorem uX (h:DE X fl .P e f) (hs:swapsWith e none pos.line X.env=pure false:=by rfl):DS1 X fl (.Expr e pos) (vK f):=PS.imp (tK h hs) fun Dn σ H h=>by
 obtain ⟨G,ow,δ,o,R,hf,q⟩:=h
 obtain ⟨d,e1,e2⟩:=bind1 hf
 cases e2
 exact ⟨G,ow,δ,d,R,e1,fun v H' s r=>q ow σ H' (R.grow s)⟩
theorem fK (hc:DT X fl c ft) (h1:DSs X fl body fs) (h2:DSs X fl orelse gs):DS1 X fl (.If c body orelse pos) (sIf ft fs gs):=PS.imp (Us hc h1 h2) fun Dn σ H h=>by
 obtain ⟨G,ow,δ,o,R,hf,q⟩:=h
 obtain ⟨t,e1,e2⟩:=bind1 hf
 refine ⟨G,ow,δ,t,R,e1,fun H' s=>?_⟩
 cases t with
 | true=>exact Al ⟨G,ow,δ,o,R.grow s,e2,q⟩
 | false=>exact Ak ⟨G,ow,δ,o,R.grow s,e2,q⟩
theorem iJ {α:Type} {l:List (Option α)} {i j:Nat} {x y:α} (h:(l.set i (some x))[j]? = some (some y)):(j=i∧x=y)∨(j ≠ i∧l[j]? = some (some y)):=by
 rw [sX] at h
 by_cases e:i=j
 ·subst e
  rw [if_pos rfl] at h
  by_cases z:i < l.length
  ·rw [if_pos z] at h
   cases h
   exact .inl ⟨rfl,rfl⟩
  ·rw [if_neg z] at h
   cases h
 ·rw [if_neg e] at h
  exact .inr ⟨fun z=>e z.symm,h⟩
theorem Rel.setA {K:PySem.W.Frag} {G:Gh} {ow:Ow} {σ:St} {H:Hp} {δ:DS} {i:Nat} {v:V} {d:D} (R:Rel K fl G ow σ H δ) (hfl:fl[i]? = some .A) (hi:i < σ.length) (r:RA K (okA ow) true H v d) :
 Rel K fl G ow (σ.set i (some v)) H (δ.set i (some (.d d))):=by
 have no:∀ a,ow i ≠ some a:=fun a z=>by
  obtain ⟨_,hz,_⟩:=R.own i a z
  rw [hfl] at hz
  rcases hz with ⟨z,_⟩ | ⟨z,_⟩ <;> cases z
 refine ⟨R.s0,R.s1,by rw [cT,cT];exact R.len,fun j a h=>?_,R.inj,R.pin,fun j d' h1 hn h2=>?_,fun j d' h1 hn h2 h3=>?_,R.nt,R.nd,R.ns,R.np,fun j d' hn h1=>?_⟩
 ·have hj:j ≠ i:=fun z=>no a (z ▸ h)
  obtain ⟨h0,hf,xs,ds,h1,h2,h3,h4⟩:=R.own j a h
  exact ⟨h0,hf,xs,ds,by rw [bF (Ne.symm hj)];exact h1,h2,h3,by rw [bF (Ne.symm hj)];exact h4⟩
 ·rcases iJ h1 with ⟨rfl,e⟩ | ⟨hj,e⟩
  ·cases e
   exact ⟨v,by rw [dD hi],r⟩
  ·obtain ⟨v',h3,h4⟩:=R.dat j d' e hn h2
   exact ⟨v',by rw [bF (Ne.symm hj)];exact h3,h4⟩
 ·rcases iJ h1 with ⟨rfl,e⟩ | ⟨hj,e⟩
  ·exact absurd hfl h2
  ·exact R.oo j d' e hn h2 h3
 ·rcases iJ h1 with ⟨rfl,e⟩ | ⟨hj,e⟩
  ·rw [hfl] at hn;cases hn
  ·obtain ⟨v',h3,h4⟩:=R.nr j d' hn e
   exact ⟨v',by rw [bF (Ne.symm hj)];exact h3,h4⟩
noncomputable def uN (ow:Ow) (i:Nat) (a:Option Addr):Ow:=⟨fun j=>if j=i then a else ow j,ow.n⟩
theorem jx {ow:Ow} {i:Nat} {a:Option Addr}:uN ow i a i=a:=if_pos rfl
theorem gD {ow:Ow} {i j:Nat} {a:Option Addr} (h:j ≠ i):uN ow i a j=ow j:=if_neg h
theorem Rel.setO {K:PySem.W.Frag} {G:Gh} {ow:Ow} {σ:St} {H H':Hp} {δ:DS} {i:Nat} {v:V} {d:D} (R:Rel K fl G ow σ H δ) (s:Same H H') (hfl:fl[i]? = some .O) (hi:i < σ.length) (r:Rs K G.H0 ow H H' .F v d) :
 ∃ ow',Rel K fl G ow' (σ.set i (some v)) H' (δ.set i (some (.d d))):=by
 have R':=R.grow s
 have sub0:∀ b,okA ow b→okA (uN ow i none) b:=fun b z=>⟨fun j e=>by
  by_cases hj:j=i
  ·subst hj;rw [jx] at e;cases e
  ·rw [gD hj] at e;exact z.1 j e,z.2⟩
 have nrs:∀ j d',isN fl[j]? = true→(δ.set i (some (.d d)))[j]? = some (some (.d d'))→∃ v',(σ.set i (some v))[j]? = some (some v')∧RT K H' v' d' (ow.n j)∧(ow.n j).Nodup:=fun j d' hn h1=>by
  rcases iJ h1 with ⟨rfl,e⟩ | ⟨hj,e⟩
  ·rw [hfl] at hn;cases hn
  ·obtain ⟨v',h3,h4⟩:=R'.nr j d' hn e
   exact ⟨v',by rw [bF (Ne.symm hj)];exact h3,h4⟩
 rcases r with ⟨hfd,r⟩ | ⟨a,xs,ds,rfl,rfl,ha,hx,hr⟩
 ·refine ⟨uN ow i none,R'.s0,R'.s1,by rw [cT,cT];exact R.len,fun j a h=>?_,fun j j' a h h'=>?_,fun j h=>?_,fun j d' h1 hn h2=>?_,fun j d' h1 hn h2 h3=>?_,R'.nt,R'.nd,fun j j' a h h'=>?_,R'.np,nrs⟩
  ·have hj:j ≠ i:=fun z=>by subst z;rw [jx] at h;cases h
   rw [gD hj] at h
   obtain ⟨h0,hf,xs,ds,h1,h2,h3,h4⟩:=R'.own j a h
   exact ⟨h0,hf,xs,ds,by rw [bF (Ne.symm hj)];exact h1,h2,h3.imp sub0 (fun z=>z),by rw [bF (Ne.symm hj)];exact h4⟩
  ·have hj:j ≠ i:=fun z=>by subst z;rw [jx] at h;cases h
   have hj':j' ≠ i:=fun z=>by subst z;rw [jx] at h';cases h'
   rw [gD hj] at h
   rw [gD hj'] at h'
   exact R.inj j j' a h h'
  ·have hj:j ≠ i:=fun z=>by subst z;rw [hfl] at h;cases h
   rw [gD hj]
   exact R.pin j h
  ·rcases iJ h1 with ⟨rfl,e⟩ | ⟨hj,e⟩
   ·cases e
    exact ⟨v,by rw [dD hi],RA.flat hfd r⟩
   ·rw [gD hj] at h2
    obtain ⟨v',h3,h4⟩:=R'.dat j d' e hn h2
    exact ⟨v',by rw [bF (Ne.symm hj)];exact h3,h4.imp sub0 (fun z=>z)⟩
  ·rcases iJ h1 with ⟨rfl,e⟩ | ⟨hj,e⟩
   ·cases e
    exact hfd
   ·rw [gD hj] at h3
    exact R.oo j d' e hn h2 h3
  ·by_cases hj:j'=i
   ·subst hj;rw [jx] at h';cases h'
   ·rw [gD hj] at h';exact R.ns j j' a h h'
 ·have sub:∀ b,okA ow b∧b ≠ a→okA (uN ow i (some a)) b:=fun b z=>⟨fun j e=>by
   by_cases hj:j=i
   ·subst hj;rw [jx] at e;exact z.2 (fO.inj e).symm
   ·rw [gD hj] at e;exact z.1.1 j e,z.1.2⟩
  have old:∀ {v:V} {d:D},RA K (okA ow) true H v d→RA K (okA (uN ow i (some a))) true H' v d:=fun r=>(r.track.imp (fun b z=>sub b ⟨z.1,fun e=>z.2 (e ▸ ha)⟩) (fun z=>z)).same s
  have olds:∀ {v:List V} {d:List D},RAs K (okA ow) true H v d→RAs K (okA (uN ow i (some a))) true H' v d:=fun r=>(r.track.imp (fun b z=>sub b ⟨z.1,fun e=>z.2 (e ▸ ha)⟩) (fun z=>z)).same s
  have nota:∀ j,ow j ≠ some a:=fun j z=>by
   obtain ⟨_,_,_,_,_,h2,_⟩:=R.own j a z
   rw [ha] at h2
   cases h2
  have hF:G.HF a=none:=R.s1.free ha
  refine ⟨uN ow i (some a),R'.s0,R'.s1,by rw [cT,cT];exact R.len,fun j b h=>?_,fun j j' b h h'=>?_,fun j h=>?_,fun j d' h1 hn h2=>?_,fun j d' h1 hn h2 h3=>?_,R'.nt,R'.nd,fun j j' b h h'=>?_,R'.np,nrs⟩
  ·by_cases hj:j=i
   ·subst hj
    rw [jx] at h
    cases h
    exact ⟨R.same0.free ha,.inl ⟨hfl,hF⟩,xs,ds,by rw [dD hi],hx,hr.imp sub (fun z=>z),by rw [dD (by rw [← R.len];exact hi)]⟩
   ·rw [gD hj] at h
    obtain ⟨h0,hf,ys,ds',h1,h2,h3,h4⟩:=R.own j b h
    exact ⟨h0,hf,ys,ds',by rw [bF (Ne.symm hj)];exact h1,s _ _ h2,olds h3,by rw [bF (Ne.symm hj)];exact h4⟩
  ·by_cases hj:j=i
   ·by_cases hj':j'=i
    ·rw [hj,hj']
    ·subst hj
     rw [jx] at h
     cases h
     rw [gD hj'] at h'
     exact absurd h' (nota j')
   ·rw [gD hj] at h
    by_cases hj':j'=i
    ·subst hj'
     rw [jx] at h'
     cases h'
     exact absurd h (nota j)
    ·rw [gD hj'] at h'
     exact R.inj j j' b h h'
  ·have hj:j ≠ i:=fun z=>by subst z;rw [hfl] at h;cases h
   rw [gD hj]
   exact R.pin j h
  ·rcases iJ h1 with ⟨rfl,e⟩ | ⟨hj,e⟩
   ·rw [jx] at h2;cases h2
   ·rw [gD hj] at h2
    obtain ⟨v',h3,h4⟩:=R.dat j d' e hn h2
    exact ⟨v',by rw [bF (Ne.symm hj)];exact h3,old h4⟩
  ·rcases iJ h1 with ⟨rfl,e⟩ | ⟨hj,e⟩
   ·rw [jx] at h3;cases h3
   ·rw [gD hj] at h3
    exact R.oo j d' e hn h2 h3
  ·by_cases hj:j'=i
   ·subst hj
    rw [jx] at h'
    cases h'
    exact (R.nt j a h).2.1.ne ha
   ·rw [gD hj] at h';exact R.ns j j' b h h'
theorem Rel.mut {K:PySem.W.Frag} {G:Gh} {ow:Ow} {σ:St} {H:Hp} {δ:DS} {i:Nat} {a:Addr} {ys:List V} {ds:List D} (R:Rel K fl G ow σ H δ) (hfl:fl[i]? = some .O) (ho:ow i=some a) (r:RAs K (okA ow) true H ys ds) :
 Rel K fl G ow σ (upd H a (.lst ys)) (δ.set i (some (.d (.list ds)))):=by
 obtain ⟨h0,hz,xs,ds0,e1,e2,e3,e4⟩:=R.own i a ho
 have na:¬ okA ow a:=fun z=>z.1 i ho
 have hF:G.HF a=none:=by
  rcases hz with ⟨_,z⟩ | ⟨z,_⟩
  ·exact z
  ·rw [hfl] at z;cases z
 have hi:i < δ.length:=by
  rcases gZ i δ.length with z | z
  ·exact z
  ·rw [cF z] at e4;cases e4
 refine ⟨R.s0,fun b o hb=>?_,by rw [cT];exact R.len,fun j b h=>?_,R.inj,R.pin,fun j d' h1 hn h2=>?_,fun j d' h1 hn h2 h3=>?_,fun j b h=>?_,R.nd,R.ns,R.np,fun j d' hn h1=>?_⟩
 ·rw [dU (fun z=>by subst z;rw [hF] at hb;cases hb)]
  exact R.s1 b o hb
 ·by_cases hj:j=i
  ·subst hj
   rw [ho] at h
   cases h
   exact ⟨h0,hz,ys,ds,e1,fG,r.upd e2 na,by rw [dD hi]⟩
  ·obtain ⟨h0',hf',zs,ds',h1,h2,h3,h4⟩:=R.own j b h
   have hb:b ≠ a:=fun z=>hj (R.inj j i a (z ▸ h) ho)
   exact ⟨h0',hf',zs,ds',h1,by rw [dU hb];exact h2,h3.upd e2 na,by rw [bF (Ne.symm hj)];exact h4⟩
 ·rcases iJ h1 with ⟨rfl,e⟩ | ⟨hj,e⟩
  ·rw [ho] at h2;cases h2
  ·obtain ⟨v',h3,h4⟩:=R.dat j d' e hn h2
   exact ⟨v',h3,h4.upd e2 na⟩
 ·rcases iJ h1 with ⟨rfl,e⟩ | ⟨hj,e⟩
  ·rw [ho] at h3;cases h3
  ·exact R.oo j d' e hn h2 h3
 ·obtain ⟨g1,g2,g3⟩:=R.nt j b h
  refine ⟨g1,?_,g3⟩
  by_cases hb:b=a
  ·rw [hb,fG];exact ⟨_,rfl,inferInstance⟩
  ·rw [dU hb];exact g2
 ·rcases iJ h1 with ⟨rfl,e⟩ | ⟨hj,e⟩
  ·rw [hfl] at hn;cases hn
  ·obtain ⟨v',h3,h4,h5⟩:=R.nr j d' hn e
   exact ⟨v',h3,h4.upd e2 (fun z=>R.ns j i a z ho),h5⟩
theorem rA {K:PySem.W.Frag} {G:Gh} {ow:Ow} {σ:St} {H:Hp} {δ:DS} {i:Nat} (R:Rel K fl G ow σ H δ) (h:i < δ.length):i < σ.length:=by rw [R.len];exact h
theorem Mz {i:Nat} {x:Str} {pos':Pos} (hfl:fl[i]? = some .A) (hN:X.N.Nodup) (hi:X.N[i]? = some x) (hv:X.env.scope.names.lookup x=some .local∨X.env.scope.names.lookup x=some .cell) (h:DE X fl .A e f)
 (hs:swapsWith e (some (.Name x pos')) pos.line X.env=pure false:=by rfl) (hfn:X.fn x=true∨X.env.scope.names.lookup x=some .local:=by first | exact .inl rfl | exact .inr rfl) :
 DS1 X fl (.Assign [.Name x pos'] e pos) (bZ i f):=PS.imp (Ce (i:=i) hN hi hv h hs hfn) fun Dn σ H h=>by
 obtain ⟨G,ow,δ,o,R,hf,q⟩:=h
 unfold bZ at hf
 by_cases hl:i < δ.length
 ·rw [if_pos hl] at hf
  obtain ⟨d,e1,e2⟩:=bind1 hf
  cases e2
  exact ⟨G,ow,δ,d,R,e1,fun v H' s r=>q ow _ H' ((R.grow s).setA hfl (rA R hl) r)⟩
 ·rw [if_neg hl] at hf
  cases hf
theorem tR {i:Nat} {x:Str} {pos':Pos} (hfl:fl[i]? = some .O) (hN:X.N.Nodup) (hi:X.N[i]? = some x) (hv:X.env.scope.names.lookup x=some .local∨X.env.scope.names.lookup x=some .cell) (h:DE X fl .F e f)
 (hs:swapsWith e (some (.Name x pos')) pos.line X.env=pure false:=by rfl) (hfn:X.fn x=true∨X.env.scope.names.lookup x=some .local:=by first | exact .inl rfl | exact .inr rfl) :
 DS1 X fl (.Assign [.Name x pos'] e pos) (bZ i f):=PS.imp (Ce (i:=i) hN hi hv h hs hfn) fun Dn σ H h=>by
 obtain ⟨G,ow,δ,o,R,hf,q⟩:=h
 unfold bZ at hf
 by_cases hl:i < δ.length
 ·rw [if_pos hl] at hf
  obtain ⟨d,e1,e2⟩:=bind1 hf
  cases e2
  refine ⟨G,ow,δ,d,R,e1,fun v H' s r=>?_⟩
  obtain ⟨ow',R'⟩:=R.setO s hfl (rA R hl) r
  exact q ow' _ H' R'
 ·rw [if_neg hl] at hf
  cases hf
theorem MF {i:Nat} {x:Str} {pos:Pos} (hfl:fl[i]? = some .A) (hN:X.N.Nodup) (hi:X.N[i]? = some x) (hv:X.env.scope.names.lookup x=some .local∨X.env.scope.names.lookup x=some .cell)
 (hfn:X.fn x=true∨X.env.scope.names.lookup x=some .local:=by first | exact .inl rfl | exact .inr rfl):DG X fl [i] (.Name x pos) (gNl i) :=
 PG.imp (Lx (i:=i) hN hi hv hfn) fun v σ H Q h=>by
 obtain ⟨G,ow,δ,d,δ',R,r,hf,q⟩:=h
 unfold gNl at hf
 by_cases hl:i < δ.length
 ·rw [if_pos hl] at hf
  cases hf
  exact q _ (R.setA hfl (rA R hl) r) fun j hj=>bF (fun z=>hj (by rw [z];exact aV.mpr rfl))
 ·rw [if_neg hl] at hf
  cases hf
noncomputable def Xf (K:PySem.W.Frag) (fl:List Fl) (tg:List Nat) (g:List D→DS→Option DS):TGs:=fun vs σ H Q=>∃ G ow δ ds δ',Rel K fl G ow σ H δ∧RAs K (okA ow) true H vs ds∧g ds δ=some δ'∧∀ σ',Rel K fl G ow σ' H δ'→(∀ j,j ∉ tg→σ'[j]? = σ[j]?)→Q σ' H
theorem PGs.imp {t t':TGs} (h:PGs X es t) (i:∀ v σ H Q,t' v σ H Q→t v σ H Q):PGs X es t':=fun pins s σ H v u Q I r q=>h pins s σ H v u Q I r (i v σ H Q q)
noncomputable abbrev DGs (X:Cx) (fl:List Fl) (tg:List Nat) (es:List Expr) (g:List D→DS→Option DS):Prop:=PGs X es (Xf X.K fl tg g)
theorem tU:DGs X fl [] [] nu:=PGs.imp Ly fun vs σ H Q h=>by
 obtain ⟨G,ow,δ,ds,δ',R,r,hf,q⟩:=h
 cases r with
 | nil=>cases hf;exact ⟨rfl,q σ R fun _ _=>rfl⟩
 | cons _ _=>cases hf
theorem jy {tg tg':List Nat} {g:FG} {gs:List D→DS→Option DS} (h1:DG X fl tg e g) (h2:DGs X fl tg' es gs) (hs:(assignEach (e :: es) X.env).map (·.2)=assign e X.env :: (assignEach es X.env).map (·.2):=by rfl) :
 DGs X fl (tg++tg') (e :: es) (dX g gs):=PGs.imp (Ih h1 h2 hs) fun vs σ H Q h=>by
 obtain ⟨G,ow,δ,ds,δ',R,r,hf,q⟩:=h
 cases r with
 | nil=>cases hf
 | cons r1 r2 =>
  obtain ⟨δ1,e1,e2⟩:=bind1 hf
  refine ⟨_,_,rfl,G,ow,δ,_,δ1,R,r1,e1,fun σ' R' k1=>⟨G,ow,δ1,_,δ',R',r2,e2,fun σ'' R'' k2=>q σ'' R'' fun j hj=>?_⟩⟩
  rw [k2 j fun z=>hj (bL _ z),k1 j fun z=>hj (cV _ z)]
theorem vV {tg:List Nat} {gs:List D→DS→Option DS} {k n:Nat} (hc:X.calm=true) (h:DGs X fl tg es gs) (hn:(assignEach es X.env).length=n:=by rfl) (hst:(assignEach es X.env).findIdx? (·.1)=none:=by rfl) :
 DG X fl tg (.Tuple es k pos) (gTn n gs):=PG.imp (QD (n:=n) hc h hn hst) fun v σ H Q h=>by
 obtain ⟨G,ow,δ,d,δ',R,r,hf,q⟩:=h
 unfold gTn at hf
 split at hf
 ·next l =>
  by_cases z:l.length=n
  ·rw [if_pos z] at hf
   obtain ⟨a,xs,rfl,hx,hr⟩:=r.tupE
   exact ⟨a,xs,rfl,hx,by rw [hr.length];exact z,G,ow,δ,l,δ',R,hr,hf,q⟩
  ·rw [if_neg z] at hf
   cases hf
 ·cases hf
theorem Rf {tg:List Nat} {g:FG} {t:Expr} (h:DE X fl .A e f) (hg:DG X fl tg t g) (hs:swapsWithSole [t] e pos.line X.env=pure false:=by rfl) (hw:swappedStores [t] e X.env=pure none:=by rfl)
 (h1:(assignEach [t] X.env).map (·.2)=[assign t X.env]:=by rfl):DS1 X fl (.Assign [t] e pos) (GK f g):=PS.imp (Cd h hg hs hw h1) fun Dn σ H h=>by
 obtain ⟨G,ow,δ,o,R,hf,q⟩:=h
 obtain ⟨d,e1,e2⟩:=bind1 hf
 obtain ⟨δ',e3,e4⟩:=bind1 e2
 cases e4
 exact ⟨G,ow,δ,d,R,e1,fun v H' s r=>⟨G,ow,δ,d,δ',R.grow s,r,e3,fun σ' R' _=>q ow σ' H' R'⟩⟩
end
end D3
namespace D3
open PySem PySem.Spec PyProof.Rows L2 My
section
variable {X:Cx} {fl:List Fl} {e a b c:Expr} {es:List Expr} {st:Stmt} {sts body orelse:List Stmt} {k:Kd} {f fa fb fc:FE} {fs gs:FS} {ft gt:FT} {pos:Pos}
theorem vW {K:PySem.W.Frag} {G:Gh} {ow:Ow} {σ:St} {H:Hp} {δ:DS} {i:Nat} {l:List D} (R:Rel K fl G ow σ H δ) (hfl:fl[i]? = some .O) (h:aG i δ=some (.list l)) :
 ∃ a xs,ow i=some a∧σ[i]? = some (some (.ref a))∧H a=some (.lst xs)∧RAs K (okA ow) true H xs l:=by
 have e:=rm h
 cases ho:ow i with
 | none =>
  have z:=R.oo i _ e (by rw [hfl];rfl) (by rw [hfl];simp) ho
  simp [flat] at z
 | some a =>
  obtain ⟨h0,_,xs,ds,h1,h2,h3,h4⟩:=R.own i a ho
  rw [e] at h4
  cases h4
  exact ⟨a,xs,rfl,h1,h2,h3⟩
theorem rB {i:Nat} {x:Str} {vpos apos cpos:Pos} (hfl:fl[i]? = some .O) (h:DE X fl .A e f) (hN:X.N[i]? = some x) (hv:Vis X.env.scope x:=by first | exact Or.inl rfl | exact Or.inr (Or.inl rfl) | exact Or.inr (Or.inr rfl)) (hd:(x == ("__debug__" : Str))=false:=by decide)
 (hcd:(x == ("__classdict__" : Str))=false:=by decide)
 (hs:swapsWith (.Call (.Attribute (.Name x vpos) "append" apos) [e] [] cpos) none pos.line X.env=pure false:=by rfl)
 (hbase:attributeBase (.Name x vpos) "append" X.env (eval (.Name x vpos) X.env)=eval (.Name x vpos) X.env:=by rfl)
 (hfew:((backTo cpos (starEach [e] X.env)).all (fun x=>!x.1) && (backToKw cpos (keywordEach [] X.env)).all (fun x=>x.1.isSome)
  && decide (([e]:List Expr).length + ([]:List Keyword).length + (if ([]:List Keyword).isEmpty then 0 else 1) < 30))=true:=by rfl)
 (hline:(apos.endLine == cpos.line)=true:=by rfl) (hst:starEach [e] X.env=(false,eval e X.env) :: starEach [] X.env:=by rfl) (hplain:(backTo cpos (starEach [] X.env)).any (·.1)=false:=by rfl) :
 DS1 X fl (.Expr (.Call (.Attribute (.Name x vpos) "append" apos) [e] [] cpos) pos) (yM i f) :=
 PS.imp (tK (Iz PySem.F.plainAttrs_list PySem.F.slot_list_append PySem.F.type_list_append xU (oA hN hv hd hcd) (jW h pq hst) hbase hfew hline hst hplain) hs) fun Dn σ H h=>by
 obtain ⟨G,ow,δ,o,R,hf,q⟩:=h
 obtain ⟨x,e1,hf1⟩:=bind1 hf
 obtain ⟨d,e2,hf2⟩:=bind1 hf1
 clear hf hf1
 have hf:=hf2
 clear hf2
 split at hf
 case h_2=>cases hf
 next l =>
 by_cases hl:l.length < 1000000
 ·rw [if_pos hl] at hf
  cases hf
  obtain ⟨a,xs,ho,h1,h2,h3⟩:=vW R hfl e1
  refine ⟨_,h1,.inl ⟨rfl,_,SqL.of h2⟩,G,ow,δ,d,R,e2,fun v H' s r=>?_⟩
  have R':=R.grow s
  refine ⟨a,xs,v,rfl,rfl,s _ _ h2,by rw [h3.length];exact mQ hl (by decide),?_⟩
  exact q ow σ _ (R'.mut hfl ho ((h3.same s).append (.cons r .nil)))
 ·rw [if_neg hl] at hf
  cases hf
theorem Jm {i:Nat} {x:Str} {vpos spos:Pos} {ke:Expr} {fk:FE} (hfl:fl[i]? = some .O) (h:DE X fl .A e f) (hk:DE X fl .P ke fk) (hN:X.N[i]? = some x) (hv:Vis X.env.scope x:=by first | exact Or.inl rfl | exact Or.inr (Or.inl rfl) | exact Or.inr (Or.inr rfl)) (hd:(x == ("__debug__" : Str))=false:=by decide)
 (hcd:(x == ("__classdict__" : Str))=false:=by decide) (ha:∀ v,assign (.Subscript (.Name x vpos) ke spos) X.env v=(do
  let ov ← holding [v] (eval (.Name x vpos) X.env)
  let iv ← holding [v,ov] (eval ke X.env)
  standAt spos
  holding [v,ov,iv] (setItem ov iv v)
  release [v,ov,iv] []):=by intro _;rfl)
 (hs:swapsWithSole [.Subscript (.Name x vpos) ke spos] e pos.line X.env=pure false:=by rfl) (hw:swappedStores [.Subscript (.Name x vpos) ke spos] e X.env=pure none:=by rfl)
 (h1:(assignEach [.Subscript (.Name x vpos) ke spos] X.env).map (·.2)=[assign (.Subscript (.Name x vpos) ke spos) X.env]:=by rfl) :
 DS1 X fl (.Assign [.Subscript (.Name x vpos) ke spos] e pos) (GP i fk f) :=
 PS.imp (Cd h (Ii (oA hN hv hd hcd) hk set_list ha) hs hw h1) fun Dn σ H h=>by
 obtain ⟨G,ow,δ,o,R,hf,q⟩:=h
 obtain ⟨d,e2,hf1⟩:=bind1 hf
 obtain ⟨x,e1,hf2⟩:=bind1 hf1
 obtain ⟨k,e3,hf3⟩:=bind1 hf2
 clear hf hf1 hf2
 have hf:=hf3
 clear hf3
 split at hf
 case h_2=>cases hf
 next l j =>
 obtain ⟨n,e4,e5⟩:=bind1 hf
 cases e5
 obtain ⟨a,xs,ho,h1,h2,h3⟩:=vW R hfl e1
 refine ⟨G,ow,δ,d,R,e2,fun v H' s r=>⟨_,h1,G,ow,δ,_,R.grow s,e3,fun u H2 s2 r2=>?_⟩⟩
 obtain rfl:=RA.intE r2
 have R2:=R.grow (s.trans s2)
 refine ⟨a,xs,j,n,rfl,rfl,(s.trans s2) _ _ h2,by rw [h3.length];exact e4,?_⟩
 exact q ow σ _ (R2.mut hfl ho (RAs.set (RA.same s2 r) n (h3.same (s.trans s2))))
noncomputable def PK (K:PySem.W.Frag) (ow:Ow) (L:List Nat) (H1:Hp) (J:It) (l:List D):Prop:=∀ H2:Hp,(∀ b o,H1 b=some o→(∀ i,ow i=some b→i ∈ L)→(∀ i,b ∉ ow.n i)→H2 b=some o)→∀ i:Nat,
 (∀ d,l[i]? = some d→J.go i H2∧∀ x H3,J.yld i H2 x H3→Same H2 H3∧RA K (fun b=>okA ow b∧H1 b ≠ none) true H3 x d)∧(l.length ≤ i→J.stop i H2)
noncomputable def tDI (K:PySem.W.Frag) (fl:List Fl) (L:List Nat) (fi:FA):TI:=fun σ H R'=>∃ G ow δ l,Rel K fl G ow σ H δ∧fi δ=some l∧∀ J H1,Same H H1→PK K ow L H1 J l→R' J H1
noncomputable abbrev DI (X:Cx) (fl:List Fl) (L:List Nat) (tg iter:Expr) (fi:FA):Prop:=PI X tg iter (tDI X.K fl L fi)
theorem PI.imp {tg iter:Expr} {t t':TI} (h:PI X tg iter t) (i:∀ σ H R',t' σ H R'→t σ H R'):PI X tg iter t':=fun pins s σ H R' I q=>h pins s σ H R' I (i σ H R' q)
section
variable {K:PySem.W.Frag} {ok:Ok} {pl:Bool} {H1 H2:Hp} {ow:Ow} {L:List Nat}
theorem nm {b:Addr} {o:HO} (hl:∀ i b,ow i=some b→∃ xs,H1 b=some (.lst xs)) (h:H1 b=some o) (hn:∀ xs,o ≠ .lst xs):∀ i,ow i=some b→i ∈ L:=fun i e=>by
 obtain ⟨xs,z⟩:=hl i b e
 rw [h] at z
 exact absurd (fO.inj z) (hn xs)
theorem nm2 {b:Addr} {o:HO} (hl:∀ i b,b ∈ ow.n i→Chd (H1 b)) (h:H1 b=some o) (hn:Chg o→False):∀ i,b ∉ ow.n i:=fun i e=>by
 obtain ⟨u,z,c⟩:=hl i b e
 rw [h] at z
 cases z
 exact hn c
mutual
theorem RA.keep (hk:∀ b o,H1 b=some o→(∀ i,ow i=some b→i ∈ L)→(∀ i,b ∉ ow.n i)→H2 b=some o) (hl:∀ i b,ow i=some b→∃ xs,H1 b=some (.lst xs)) (hm:∀ i b,b ∈ ow.n i→Chd (H1 b)) (ho:∀ b,ok b→okA ow b):∀ {v:V} {d:D},RA K ok pl H1 v d→RA K ok pl H2 v d
 | _,_,.non=>.non
 | _,_,.bl b=>.bl b
 | _,_,.int i=>.int i
 | _,_,.str x=>.str x
 | _,_,.lst e k q=>.lst (hk _ _ e (fun i z=>absurd z ((ho _ k).1 i)) (ho _ k).2) k (RAs.keep hk hl hm ho q)
 | _,_,.lsk e k q=>.lsk (by
  rcases e with ⟨o,e⟩ | e
  ·exact .inl ⟨o,hk _ _ e (nm hl e (by intro xs z;cases z)) (nm2 hm e Chg.frz)⟩
  ·exact .inr e) k (RAs.keep hk hl hm ho q)
 | _,_,.tup e q=>.tup (hk _ _ e (nm hl e (by intro xs z;cases z)) (nm2 hm e Chg.tup)) (RAs.keep hk hl hm ho q)
 | _,_,.dic e g k=>.dic (hk _ _ e (fun i z=>absurd z ((ho _ k).1 i)) (ho _ k).2) (g.imp fun _ _ t=>hk _ _ t (nm hl t (by intro xs z;cases z)) (nm2 hm t Chg.tup)) k
 | _,_,.dik e g k=>.dik (hk _ _ e (nm hl e (by intro xs z;cases z)) (nm2 hm e Chg.frz)) (g.imp fun _ _ t=>hk _ _ t (nm hl t (by intro xs z;cases z)) (nm2 hm t Chg.tup)) k
theorem RAs.keep (hk:∀ b o,H1 b=some o→(∀ i,ow i=some b→i ∈ L)→(∀ i,b ∉ ow.n i)→H2 b=some o) (hl:∀ i b,ow i=some b→∃ xs,H1 b=some (.lst xs)) (hm:∀ i b,b ∈ ow.n i→Chd (H1 b)) (ho:∀ b,ok b→okA ow b):∀ {v:List V} {d:List D},RAs K ok pl H1 v d→RAs K ok pl H2 v d
 | _,_,.nil=>.nil
 | _,_,.cons e q=>.cons (RA.keep hk hl hm ho e) (RAs.keep hk hl hm ho q)
end
end
theorem Rel.ownL {K:PySem.W.Frag} {G:Gh} {ow:Ow} {σ:St} {H:Hp} {δ:DS} (R:Rel K fl G ow σ H δ):∀ i b,ow i=some b→∃ xs,H b=some (.lst xs):=fun i b e=>by
 obtain ⟨_,_,xs,_,_,h2,_⟩:=R.own i b e
 exact ⟨xs,h2⟩
theorem Rel.ownC {K:PySem.W.Frag} {G:Gh} {ow:Ow} {σ:St} {H:Hp} {δ:DS} (R:Rel K fl G ow σ H δ):∀ i b,b ∈ ow.n i→Chd (H b):=fun i b e=>(R.nt i b e).2.1
theorem vX {K:PySem.W.Frag} {G:Gh} {ow:Ow} {σ:St} {H Hb:Hp} {δ:DS} {L:List Nat} {v:V} {l:List D} (R:Rel K fl G ow σ H δ) (r:Rs K G.H0 ow Hb H (.B L) v (.list l)):∃ a xs,v = .ref a∧SqL K H a xs ∧
 ∀ H2:Hp,(∀ b o,H b=some o→(∀ i,ow i=some b→i ∈ L)→(∀ i,b ∉ ow.n i)→H2 b=some o)→SqL K H2 a xs∧RAs K (fun b=>okA ow b∧H b ≠ none) true H2 xs l:=by
 rcases r with r | ⟨i,hi,a,xs,ds,ho,rfl,e,hx,hr⟩
 ·cases r with
  | lst e k q=>exact ⟨_,_,rfl,SqL.of e,fun H2 hk=>⟨SqL.of (hk _ _ e (fun i z=>absurd z (k.1 i)) k.2),RAs.keep hk R.ownL R.ownC (fun b z=>z.1) q.track⟩⟩
  | lsk e k q=>exact ⟨_,_,rfl,e.sq,fun H2 hk=>⟨SqK.sq (by
   rcases e with ⟨o,e⟩ | e
   ·exact .inl ⟨o,hk _ _ e (nm R.ownL e (by intro xs z;cases z)) (nm2 R.ownC e Chg.frz)⟩
   ·exact .inr e),RAs.keep hk R.ownL R.ownC (fun b z=>z.1) q.track⟩⟩
 ·cases e
  exact ⟨a,xs,rfl,SqL.of hx,fun H2 hk=>⟨SqL.of (hk _ _ hx (fun j z=>by rw [R.inj j i a z ho];exact hi) (fun j z=>R.ns j i a z ho)),RAs.keep hk R.ownL R.ownC (fun b z=>z.1) hr.track⟩⟩
theorem fV {tg:Expr} {L:List Nat} (h:DE X fl (.B L) e f):DI X fl L tg e (jT f):=PI.imp (D_ h) fun σ H R' h=>by
 obtain ⟨G,ow,δ,l,R,hf,q⟩:=h
 obtain ⟨d,e1,e2⟩:=bind1 hf
 cases d <;> first | (cases e2;done) | skip
 cases e2
 refine ⟨G,ow,δ,_,R,e1,fun v H1 s r=>?_⟩
 obtain ⟨a,xs,rfl,hx,keep⟩:=vX (R.grow s) r
 refine ⟨a,rfl,⟨xs,hx⟩,q _ _ s fun H2 k2 i=>?_⟩
 obtain ⟨k3,k4⟩:=keep H2 k2
 refine ⟨fun d hd=>?_,fun hl=>⟨xs,k3,by rw [k4.length];exact hl⟩⟩
 obtain ⟨y,hy,ry⟩:=k4.get hd
 refine ⟨⟨xs,y,k3,hy⟩,fun x H3 hyl=>?_⟩
 obtain ⟨e,hz⟩:=hyl
 subst e
 have:some y=some x:=hy.symm.trans (hz xs k3)
 cases this
 exact ⟨Same.refl _,ry⟩
theorem Jo (lo hi:Int):(iV lo hi).length=(hi - lo).toNat:=by simp [iV]
theorem Jp {K:PySem.W.Frag} {ow:Ow} {L:List Nat} {H1:Hp} (lo hi:Int):PK K ow L H1 (Itr lo (hi - lo).toNat) (iV lo hi):=by
 intro H2 _ i
 refine ⟨fun d hd=>?_,fun hl=>by rw [Jo] at hl;exact hl⟩
 unfold iV at hd
 rw [bf] at hd
 by_cases hi':i < (hi - lo).toNat
 ·rw [d_ hi'] at hd
  cases hd
  refine ⟨hi',fun x H3 hy=>?_⟩
  obtain ⟨e,e2⟩:=hy
  subst e e2
  exact ⟨Same.refl _,.int _⟩
 ·rw [cF (by simpa using hi')] at hd
  cases hd
theorem Ek {i:Int} (h:vM i=true) : -(2 ^ 62) ≤ i∧i < 2 ^ 62:=by
 unfold vM at h
 rw [aO] at h
 exact ⟨of_decide_eq_true h.1,of_decide_eq_true h.2⟩
theorem jN {tg:Expr} {L:List Nat} {p:Pos} {fa:FA} (hg:Gl X "range") (hm:X.mg "range" = none) (h:DA X fl [a] fa) (hs:starEach [a] X.env=[(false,eval a X.env)]:=by rfl):DI X fl L tg (.Call (.Name "range" p) [a] [] pos) (oU fa) :=
 PI.imp (Gu hg hm h hs) fun σ H R' h=>by
 obtain ⟨G,ow,δ,l,R,hf,q⟩:=h
 obtain ⟨ds,e1,e2⟩:=bind1 hf
 split at e2
 ·next j =>
  by_cases z:vM j=true
  ·rw [if_pos z] at e2
   cases e2
   refine ⟨G,ow,δ,_,R,e1,fun vs H1 s r=>?_⟩
   cases r with
   | cons r1 r2 =>
    cases r2
    obtain rfl:=r1.intE
    refine ⟨j,rfl,(Ek z).1,(Ek z).2,?_⟩
    have w:=Jp (K:=X.K) (ow:=ow) (L:=L) (H1:=H1) 0 j
    rw [sY] at w
    exact q _ _ s w
  ·rw [if_neg z] at e2
   cases e2
 ·cases e2
noncomputable def lock (L:List Nat) (fl:List Fl):List Fl:=fl.mapIdx fun i x=>if x = .O∧i ∈ L then .L else x
theorem mF {L:List Nat} {i:Nat}:(lock L fl)[i]? = (fl[i]?).map fun x=>if x = .O∧i ∈ L then .L else x:=by
 unfold lock
 rw [mj]
theorem Jq {L:List Nat} {i:Nat}:(lock L fl)[i]? = some .A↔fl[i]? = some .A:=by
 rw [mF]
 cases h:fl[i]? with
 | none=>simp
 | some x =>
  cases x <;> simp
  by_cases z:i ∈ L <;> simp [z]
theorem CG {L:List Nat} {i:Nat} (h:(lock L fl)[i]? = some .O):fl[i]? = some .O∧i ∉ L:=by
 rw [mF] at h
 cases e:fl[i]? with
 | none=>rw [e] at h;simp at h
 | some x =>
  rw [e] at h
  cases x <;> simp at h
  by_cases z:i ∈ L
  ·simp [z] at h
  ·exact ⟨rfl,z⟩
theorem CJ {L:List Nat} {i:Nat} (h:fl[i]? = some .L):(lock L fl)[i]? = some .L:=by
 rw [mF,h]
 simp
theorem El {L:List Nat} {i:Nat} (h:fl[i]? = some .O) (hi:i ∈ L):(lock L fl)[i]? = some .L:=by
 rw [mF,h]
 simp [hi]
theorem Em {L:List Nat} {i:Nat} (h:fl[i]? = some .O) (hi:i ∉ L):(lock L fl)[i]? = some .O:=by
 rw [mF,h]
 simp [hi]
theorem yS {L:List Nat} {i:Nat}:(lock L fl)[i]? = some .N↔fl[i]? = some .N:=by
 rw [mF]
 cases h:fl[i]? with
 | none=>simp
 | some x =>
  cases x <;> simp
  by_cases z:i ∈ L <;> simp [z]
theorem CK {L:List Nat} {i:Nat}:(lock L fl)[i]? = some .M↔fl[i]? = some .M:=by
 rw [mF]
 cases h:fl[i]? with
 | none=>simp
 | some x =>
  cases x <;> simp
  by_cases z:i ∈ L <;> simp [z]
theorem oV {L:List Nat} {i:Nat}:isN (lock L fl)[i]? = isN fl[i]?:=by
 rw [mF]
 cases h:fl[i]? with
 | none=>rfl
 | some x =>
  cases x <;> simp [isN]
  by_cases z:i ∈ L <;> simp [z]
noncomputable def Let (fl':List Fl) (ow:Ow) (b:Addr):Prop:=(∃ j,ow j=some b∧fl'[j]? = some .O)∨∃ j,b ∈ ow.n j∧fl'[j]? = some .N
open Classical in
noncomputable def ghL (fl':List Fl) (G:Gh) (ow:Ow) (H:Hp):Gh:=⟨G.H0,fun b=>if Let fl' ow b then none else H b,ow,ow.n,G.tb⟩
open Classical in
theorem pC {fl':List Fl} {G:Gh} {ow:Ow} {H:Hp} {b:Addr} (h:¬ Let fl' ow b):(ghL fl' G ow H).HF b=H b:=by
 unfold ghL
 dsimp only
 rw [if_neg h]
open Classical in
theorem CN {fl':List Fl} {G:Gh} {ow:Ow} {H:Hp} {b:Addr} (h:Let fl' ow b):(ghL fl' G ow H).HF b=none:=by
 unfold ghL
 dsimp only
 rw [if_pos h]
theorem Rel.lock {K:PySem.W.Frag} {G:Gh} {ow:Ow} {σ:St} {H:Hp} {δ:DS} (L:List Nat) (R:Rel K fl G ow σ H δ):Rel K (lock L fl) (ghL (lock L fl) G ow H) ow σ H δ:=by
 refine ⟨fun b o hb=>?_,fun b o hb=>?_,R.len,fun i a h=>?_,R.inj,fun i h=>rfl,fun i d h1 hn h2=>R.dat i d h1 (by rw [oV] at hn;exact hn) h2,fun i d h1 hn h2 h3=>R.oo i d h1 (by rw [oV] at hn;exact hn) (fun z=>h2 (Jq.mpr z)) h3,fun i a h=>?_,R.nd,R.ns,fun i h=>rfl,fun i d hn h1=>R.nr i d (by rw [oV] at hn;exact hn) h1⟩
 ·have hb':G.H0 b=some o:=hb
  rw [pC]
  ·exact R.same0 b o hb'
  ·rintro (⟨j,e,_⟩ | ⟨j,e,_⟩)
   ·have:=(R.own j b e).1
    rw [hb'] at this
    cases this
   ·have:=(R.nt j b e).1
    rw [hb'] at this
    cases this
 ·by_cases z:Let (D3.lock L fl) ow b
  ·rw [CN z] at hb;cases hb
  ·rw [pC z] at hb;exact hb
 ·obtain ⟨h0,hf,xs,ds,h1,h2,h3,h4⟩:=R.own i a h
  refine ⟨h0,?_,xs,ds,h1,h2,h3,h4⟩
  have out:(D3.lock L fl)[i]? = some .L→(ghL (D3.lock L fl) G ow H).HF a=H a:=fun hl=>pC (by
   rintro (⟨j,e,hj⟩ | ⟨j,e,hj⟩)
   ·rw [R.inj j i a e h,hl] at hj
    cases hj
   ·exact R.ns j i a e h)
  rcases hf with ⟨hf,_⟩ | ⟨hf,_⟩
  ·by_cases hi:i ∈ L
   ·exact .inr ⟨El hf hi,xs,by rw [out (El hf hi)];exact h2⟩
   ·exact .inl ⟨Em hf hi,CN (.inl ⟨i,h,Em hf hi⟩)⟩
  ·exact .inr ⟨CJ hf,xs,by rw [out (CJ hf)];exact h2⟩
 ·obtain ⟨g1,g2,g3⟩:=R.nt i a h
  refine ⟨g1,g2,?_⟩
  rcases g3 with ⟨z,_⟩ | z
  ·exact .inl ⟨yS.mpr z,CN (.inr ⟨i,h,yS.mpr z⟩)⟩
  ·exact .inr (CK.mpr z)
theorem Rel.unlock {K:PySem.W.Frag} {G:Gh} {ow ow':Ow} {σ σ':St} {H H':Hp} {δ δ':DS} {L:List Nat} (R:Rel K fl G ow σ H δ) (R':Rel K (D3.lock L fl) (ghL (D3.lock L fl) G ow H) ow' σ' H' δ'):Rel K fl G ow' σ' H' δ':=by
 have sub:Same G.HF (ghL (D3.lock L fl) G ow H).HF:=fun b o hb=>by
  rw [pC]
  ·exact R.s1 b o hb
  ·rintro (⟨j,e,hj⟩ | ⟨j,e,hj⟩)
   ·rcases (R.own j b e).2.1 with ⟨_,z⟩ | ⟨z,_⟩
    ·rw [hb] at z;cases z
    ·have:=(CG hj).1
     rw [z] at this
     cases this
   ·rcases (R.nt j b e).2.2 with ⟨_,z⟩ | z
    ·rw [hb] at z;cases z
    ·have:=yS.mp hj
     rw [z] at this
     cases this
 refine ⟨R.s0,sub.trans R'.s1,R'.len,fun i a h=>?_,R'.inj,fun i h=>?_,fun i d h1 hn h2=>R'.dat i d h1 (by rw [oV];exact hn) h2,fun i d h1 hn h2 h3=>R'.oo i d h1 (by rw [oV];exact hn) (fun z=>h2 (Jq.mp z)) h3,fun i a h=>?_,R'.nd,R'.ns,fun i h=>?_,fun i d hn h1=>R'.nr i d (by rw [oV];exact hn) h1⟩
 ·obtain ⟨h0,hf,rest⟩:=R'.own i a h
  refine ⟨h0,?_,rest⟩
  rcases hf with ⟨hf,hz⟩ | ⟨hf,_⟩
  ·exact .inl ⟨(CG hf).1,sub.free hz⟩
  ·have e:ow' i=ow i:=R'.pin i hf
   rw [e] at h
   exact (R.own i a h).2.1
 ·have e:ow' i=ow i:=R'.pin i (CJ h)
  rw [e]
  exact R.pin i h
 ·obtain ⟨g1,g2,g3⟩:=R'.nt i a h
  rcases g3 with ⟨z,hz⟩ | z
  ·exact ⟨g1,g2,.inl ⟨yS.mp z,sub.free hz⟩⟩
  ·exact ⟨g1,g2,.inr (CK.mp z)⟩
 ·have e:ow'.n i=ow.n i:=R'.np i (CK.mpr h)
  rw [e]
  exact R.np i h
theorem jB {tg iter:Expr} {L:List Nat} {T:List Nat} {fi:FA} {g:FG} (hp:PassesOwn (model X.prog X.w) X.A X.env X.xe) (hc:X.calm=true) (hi:DI X fl L tg iter fi) (hg:DG X (lock L fl) T tg g) (hb:DSs X (lock L fl) body fs)
 (hs:∀ x,foldedSetIterable iter X.env x=pure x:=by intro _;rfl):DS1 X fl (.For tg iter body [] pos) (mK fi g fs):=PS.imp (QH hp hc hi hg hb hs) fun Dn σ H h=>by
 obtain ⟨G,ow,δ,o,R0,hf,q⟩:=h
 obtain ⟨l,e1,e2⟩:=bind1 hf
 refine ⟨G,ow,δ,l,R0,e1,fun J H1 s wk=>?_⟩
 have R1:=R0.grow s
 have RL:=R1.lock L
 refine ⟨fun i m σ' H'=>m=l.length - i∧∃ ow' δ',Rel X.K (lock L fl) (ghL (lock L fl) G ow H1) ow' σ' H' δ'∧jF g fs (l.drop i) δ'=some o,⟨_,rfl,ow,δ,RL,by simpa using e2⟩,?_⟩
 rintro i m σ' H' ⟨rfl,ow',δ',R',hd⟩
 have kept:∀ b o,H1 b=some o→(∀ i,ow i=some b→i ∈ L)→(∀ i,b ∉ ow.n i)→H' b=some o:=fun b o hb hl hn=>R'.s1 b o (by
  rw [pC]
  ·exact hb
  ·rintro (⟨j,e,hj⟩ | ⟨j,e,_⟩)
   ·exact (CG hj).2 (hl j e)
   ·exact hn j e)
 obtain ⟨w1,w2⟩:=wk H' kept i
 by_cases hlt:i < l.length
 ·have hdrop:l.drop i=l[i] :: l.drop (i + 1):=jP hlt
  rw [hdrop,jF] at hd
  obtain ⟨δ1,e3,hd⟩:=bind1 hd
  obtain ⟨o1,e4,hd⟩:=bind1 hd
  obtain ⟨go,yl⟩:=w1 l[i] (aN hlt)
  refine .inr ⟨go,fun σ' H'=>∃ ow' δ',Rel X.K (lock L fl) (ghL (lock L fl) G ow H1) ow' σ' H' δ'∧jF g fs (l.drop (i + 1)) δ'=some o,fun σ2 H2 ⟨ow2,δ2,R2,h2⟩=>⟨l.length - (i + 1),by omega,rfl,ow2,δ2,R2,h2⟩,fun x H3 hy=>?_⟩
  obtain ⟨s3,r3⟩:=yl x H3 hy
  have sub:∀ b,okA ow b∧H1 b ≠ none→okA ow' b:=fun b z=>by
   obtain ⟨z1,z2⟩:=z
   refine ⟨fun j e=>?_,fun j e=>?_⟩
   ·rcases (R'.own j b e).2.1 with ⟨_,hz⟩ | ⟨hz,_⟩
    ·have:(ghL (lock L fl) G ow H1).HF b=H1 b:=pC (by rintro (⟨j',e',_⟩ | ⟨j',e',_⟩);exact z1.1 j' e';exact z1.2 j' e')
     rw [this] at hz
     exact z2 hz
    ·have e':ow' j=ow j:=R'.pin j hz
     rw [e'] at e
     exact z1.1 j e
   ·rcases (R'.nt j b e).2.2 with ⟨_,hz⟩ | w
    ·have:(ghL (lock L fl) G ow H1).HF b=H1 b:=pC (by rintro (⟨j',e',_⟩ | ⟨j',e',_⟩);exact z1.1 j' e';exact z1.2 j' e')
     rw [this] at hz
     exact z2 hz
    ·have e':ow'.n j=ow.n j:=R'.np j w
     rw [e'] at e
     exact z1.2 j e
  refine ⟨_,ow',δ',_,δ1,R'.grow s3,r3.imp sub (fun z=>z),e3,fun σ4 R4 _=>⟨_,ow',δ1,o1,R4,e4,?_⟩⟩
  ·cases o1 with
   | nx δ2=>exact fun ow2 σ2 H2 R2=>⟨ow2,δ2,R2,hd⟩
   | ct δ2=>exact fun ow2 σ2 H2 R2=>⟨ow2,δ2,R2,hd⟩
   | bk δ2=>cases hd;exact fun ow2 σ2 H2 R2=>q ow2 σ2 H2 (R1.unlock R2)
   | rt d=>cases hd;exact q
   | ex c f v=>cases hd;exact q
 ·have e:l.drop i=[]:=g_ (by omega)
  rw [e,jF] at hd
  cases hd
  exact .inl ⟨w2 (by omega),q ow' σ' H' (R1.unlock R')⟩
end
end D3
namespace D3
open PySem PySem.Spec PyProof.Rows L2 My
noncomputable def notStar:Expr→Bool
 | .Starred _ _=>false
 | _=>true
theorem lW {e:Expr} {es:List Expr} {env:Env} (h:notStar e=true):starEach (e :: es) env=(false,eval e env) :: starEach es env:=by
 cases e <;> first | rfl | cases h
theorem En {es:List Expr} {env:Env} {pos:Pos} (h:es.all notStar=true):(backTo pos (starEach es env)).any (·.1)=false:=by
 induction es with
 | nil=>rfl
 | cons e es ih =>
  rw [List.all_cons,aO] at h
  rw [lW h.1]
  have:=ih h.2
  unfold backTo at this ⊢
  rw [bM,lU,this]
  rfl
noncomputable def isR:Kd→Bool
 | .P=>true
 | .A=>true
 | .R=>true
 | .C=>true
 | _=>false
noncomputable def Jr (H0:Hp) (ow:Ow) (Hb:Hp):Kd→Ok
 | .P=>ok1
 | .A=>okA ow
 | .R=>okN H0
 | _=>okN Hb
noncomputable def Rg:Kd→Bool
 | .P=>true
 | .A=>true
 | _=>false
section
variable {K:PySem.W.Frag} {H0 Hb Hc H:Hp} {ow:Ow} {v:V} {d:D} {k:Kd}
theorem Rs.ra (hk:isR k=true) (h:Rs K H0 ow Hb H k v d):RA K (Jr H0 ow Hb k) (Rg k) H v d:=by
 cases k <;> first | exact h | cases hk
theorem Rs.of_ra (hk:isR k=true) (h:RA K (Jr H0 ow Hb k) (Rg k) H v d):Rs K H0 ow Hb H k v d:=by
 cases k <;> first | exact h | cases hk
theorem GQ (s:Same Hb Hc) (hk:isR k=true):∀ a,Jr H0 ow Hc k a→Jr H0 ow Hb k a:=fun a z=>by
 cases k <;> first | exact z | exact s.free z | cases hk
theorem Rs.of_flat (hf:flat d=true) (h:RA K ok0 false H v d):Rs K H0 ow Hb H k v d:=by
 cases k with
 | P=>exact RA.flat hf h
 | B L=>exact .inl (RA.flat hf h)
 | A=>exact RA.flat hf h
 | R=>exact RA.flat hf h
 | F=>exact .inl ⟨hf,h⟩
 | C=>exact RA.flat hf h
 | FC=>exact .inl ⟨hf,h⟩
 | T =>
  obtain ⟨as,h1,_,h3⟩:=RA.rt h
  cases as with
  | nil=>exact ⟨[],h1,.nil,fun _ z=>by cases z⟩
  | cons a r=>exact (h3 a aP).elim
theorem Rs.back (s:Same Hb Hc) (h:Rs K H0 ow Hc H k v d):Rs K H0 ow Hb H k v d:=by
 cases k with
 | P=>exact h
 | B L=>exact h
 | A=>exact h
 | R=>exact h
 | F =>
  rcases h with h | ⟨a,xs,ds,h1,h2,h3,h4⟩
  ·exact .inl h
  ·exact .inr ⟨a,xs,ds,h1,h2,s.free h3,h4⟩
 | C=>exact RA.imp (fun a z=>s.free z) (fun z=>z) h
 | FC =>
  rcases h with h | ⟨a,xs,ds,h1,h2,h3,h4,h5⟩
  ·exact .inl h
  ·exact .inr ⟨a,xs,ds,h1,h2,s.free h3,h4,h5.imp (fun b z=>⟨s.free z.1,z.2⟩) (fun z=>z)⟩
 | T =>
  obtain ⟨as,h1,h2,h3⟩:=h
  exact ⟨as,h1,h2,fun a z=>s.free (h3 a z)⟩
end
noncomputable def tDB (K:PySem.W.Frag) (fl:List Fl) (k:Kd) (f:FA):TA:=fun σ H Q=>∃ G ow δ ds,Rel K fl G ow σ H δ∧f δ=some ds∧∀ vs H',Same H H'→RAs K (Jr G.H0 ow H k) (Rg k) H' vs ds→Q vs H'
noncomputable abbrev DB (X:Cx) (fl:List Fl) (k:Kd) (es:List Expr) (f:FA):Prop:=PA X es (tDB X.K fl k f)
section
variable {X:Cx} {fl:List Fl} {e a b c:Expr} {es rest:List Expr} {k:Kd} {f fa fb fc:FE} {ft gt:FT} {pos:Pos}
theorem Rh:DB X fl k [] bh:=PA.imp pq fun σ H Q h=>by
 obtain ⟨G,ow,δ,ds,R,hf,q⟩:=h
 cases hf
 exact q [] H (Same.refl H) .nil
theorem MK {fr:FA} (hk:isR k=true) (h:DE X fl k e f) (hr:DB X fl k es fr) (hs:starEach (e :: es) X.env=(false,eval e X.env) :: starEach es X.env:=by exact lW rfl):DB X fl k (e :: es) (aF f fr):=PA.imp (jW h hr hs) fun σ H Q h=>by
 obtain ⟨G,ow,δ,ds,R,hf,q⟩:=h
 obtain ⟨d,e1,hf⟩:=bind1 hf
 obtain ⟨r,e2,hf⟩:=bind1 hf
 cases hf
 refine ⟨G,ow,δ,d,R,e1,fun v H1 s1 r1=>⟨G,ow,δ,r,R.grow s1,e2,fun vs H2 s2 r2=>?_⟩⟩
 exact q _ H2 (s1.trans s2) (.cons ((r1.ra hk).same s2) (r2.imp (GQ s1 hk) (fun z=>z)))
theorem tV (h:DB X fl .P es fa'):DA X fl es fa':=PA.imp h fun σ H Q h=>by
 obtain ⟨G,ow,δ,ds,R,hf,q⟩:=h
 exact ⟨G,ow,δ,ds,R,hf,fun vs H' s r=>q vs H' s r⟩
theorem uH {x1} {fa:FA} (hk:isR k=true) (h:DB X fl k es fa):DE X fl k (.Tuple es x1 pos) (dTup fa):=PE.imp (QS h) fun σ H Q h=>by
 obtain ⟨G,ow,δ,d,R,hf,q⟩:=h
 obtain ⟨l,e1,e2⟩:=bind1 hf
 by_cases z:l.length ≤ sizeLine
 ·rw [if_pos z] at e2
  cases e2
  refine ⟨G,ow,δ,l,R,e1,fun vs H' s r=>⟨by rw [r.length];exact z,fun p hp=>?_⟩⟩
  have g:=fX hp (.tup vs)
  exact q _ _ (s.trans g) (Rs.of_ra hk (.tup fG (r.same g)))
 ·rw [if_neg z] at e2
  cases e2
theorem jE {fa:FA} (h:DB X fl .A es fa):DE X fl .F (.List es pos) (iB fa):=PE.imp (Iu h) fun σ H Q h=>by
 obtain ⟨G,ow,δ,d,R,hf,q⟩:=h
 obtain ⟨l,e1,e2⟩:=bind1 hf
 by_cases z:l.length ≤ sizeLine
 ·rw [if_pos z] at e2
  cases e2
  refine ⟨G,ow,δ,l,R,e1,fun vs H' s r=>⟨by rw [r.length];exact z,fun p hp=>?_⟩⟩
  have g:=fX hp (.lst vs)
  exact q _ _ (s.trans g) (.inr ⟨p,vs,l,rfl,rfl,s.free hp,fG,(r.track.imp (fun b w=>⟨w.1,fun e=>w.2 (e ▸ hp)⟩) (fun z=>z)).same g⟩)
 ·rw [if_neg z] at e2
  cases e2
theorem iz {fa:FA} (h:DB X fl .C es fa):DE X fl .FC (.List es pos) (iB fa):=PE.imp (Iu h) fun σ H Q h=>by
 obtain ⟨G,ow,δ,d,R,hf,q⟩:=h
 obtain ⟨l,e1,e2⟩:=bind1 hf
 by_cases z:l.length ≤ sizeLine
 ·rw [if_pos z] at e2
  cases e2
  refine ⟨G,ow,δ,l,R,e1,fun vs H' s r=>⟨by rw [r.length];exact z,fun p hp=>?_⟩⟩
  have g:=fX hp (.lst vs)
  exact q _ _ (s.trans g) (.inr ⟨p,vs,l,rfl,rfl,s.free hp,fG,(r.track.imp (fun b w=>⟨w.1,fun e=>w.2 (e ▸ hp)⟩) (fun z=>z)).same g⟩)
 ·rw [if_neg z] at e2
  cases e2
theorem RAs.at {K:PySem.W.Frag} {ok:Ok} {pl:Bool} {H:Hp} {vs:List V} {l:List D} {i:Int} {d:D} (r:RAs K ok pl H vs l) (h:pAt l i=some d):∃ v,atI vs i=some v∧RA K ok pl H v d:=by
 unfold pAt at h
 unfold atI
 obtain ⟨j,e1,e2⟩:=bind1 h
 obtain ⟨y,e3,ry⟩:=r.get e2
 exact ⟨y,by rw [r.length,show ixN l.length i=some j from e1];exact e3,ry⟩
theorem Vb {L:List Nat} (ha:DE X fl (.B L) a fa) (hb:DE X fl .P b fb) (hs:yJ b):DE X fl .A (.Subscript a b pos) (dOp gIx fa fb):=PE.imp (UJ QX ha hb hs) fun σ H Q h=>by
 obtain ⟨G,ow,δ,d,R,hf,q⟩:=h
 obtain ⟨x,y,e1,e2,e3⟩:=Ei hf
 refine ⟨G,ow,δ,x,R,e1,fun v H1 s1 r1=>⟨G,ow,δ,y,R.grow s1,e2,fun u H2 s2 r2=>?_⟩⟩
 unfold gIx at e3
 split at e3
 ·next l i =>
  obtain rfl:=RA.intE r2
  rcases r1 with r1 | ⟨i',_,p,xs,ds,ho,rfl,ez,hx,hr⟩
  ·obtain ⟨p,xs,rfl,hx,hr⟩:=RA.lstE (RA.same s2 r1)
   obtain ⟨z,ez,rz⟩:=hr.at e3
   exact .inl ⟨p,xs,i,z,rfl,rfl,hx,ez,q z H2 (s1.trans s2) rz⟩
  ·cases ez
   obtain ⟨z,ez,rz⟩:=(hr.same s2).at e3
   exact .inl ⟨p,xs,i,z,rfl,rfl,SqL.of (s2 _ _ hx),ez,q z H2 (s1.trans s2) rz⟩
 ·next l i =>
  obtain rfl:=RA.intE r2
  rcases r1 with r1 | ⟨i',_,p,xs,ds,ho,rfl,ez,hx,hr⟩
  ·obtain ⟨p,xs,rfl,hx,hr⟩:=RA.tupE (RA.same s2 r1)
   obtain ⟨z,ez,rz⟩:=hr.at e3
   exact .inr (.inl ⟨p,xs,i,z,rfl,rfl,hx,ez,q z H2 (s1.trans s2) rz⟩)
  ·cases ez
 ·cases e3
theorem qw {op:BoolOp} (h:DE X fl k a f):DE X fl k (.BoolOp op [a] pos) f:=Qw h
theorem k_ (h1:DE X fl .P a fa) (h2:DE X fl k (.BoolOp .And (b :: rest) pos) fb):DE X fl k (.BoolOp .And (a :: b :: rest) pos) (qe fa fb):=PE.imp (Qx h1 h2) fun σ H Q h=>by
 obtain ⟨G,ow,δ,d,R,hf,q⟩:=h
 obtain ⟨x,e1,e2⟩:=bind1 hf
 refine ⟨G,ow,δ,x,R,e1,fun v H1 s1 r1=>?_⟩
 split at e2
 ·obtain rfl:=RA.blE r1
  exact ⟨true,rfl,Al ⟨G,ow,δ,d,R.grow s1,e2,fun u H2 s2 r2=>q u H2 (s1.trans s2) (r2.back s1)⟩⟩
 ·obtain rfl:=RA.blE r1
  cases e2
  exact ⟨false,rfl,Ak (q _ H1 s1 (Rs.of_flat rfl (.bl _)))⟩
 ·cases e2
theorem Js (h1:DE X fl .P a fa):DE X fl .FC (.UnaryOp .Not a pos) (Jf fa):=PE.imp (Qy h1) fun σ H Q h=>by
 obtain ⟨G,ow,δ,d,R,hf,q⟩:=h
 obtain ⟨x,e1,e2⟩:=bind1 hf
 refine ⟨G,ow,δ,x,R,e1,fun v H1 s1 r1=>?_⟩
 split at e2
 ·next c =>
  obtain rfl:=RA.blE r1
  cases e2
  exact ⟨c,rfl,q _ H1 s1 (Rs.of_flat rfl (.bl _))⟩
 ·cases e2
theorem mL (h:DT X fl a ft):DT X fl (.UnaryOp .Not a pos) (oE ft):=PT.imp (Qu h) fun σ H Q h=>by
 obtain ⟨G,ow,δ,t,R,hf,q⟩:=h
 unfold oE at hf
 cases e:ft δ with
 | none=>rw [e] at hf;cases hf
 | some x =>
  rw [e] at hf
  cases hf
  exact ⟨G,ow,δ,x,R,e,fun H' s=>q H' s⟩
theorem pD (h:DT X fl a ft):DW X fl (.BoolOp .And [a] pos) ft:=Lr h
theorem sO (h:DT X fl a ft):DW X fl (.BoolOp .Or [a] pos) ft:=Qs h
theorem pF (h1:DT X fl a ft) (h2:DW X fl (.BoolOp .And (b :: rest) pos) gt):DW X fl (.BoolOp .And (a :: b :: rest) pos) (lE ft gt):=PW.imp (Qt h1 h2) fun σ H Q h=>by
 obtain ⟨G,ow,δ,t,R,hf,q⟩:=h
 obtain ⟨x,e1,e2⟩:=bind1 hf
 refine ⟨G,ow,δ,x,R,e1,fun H1 s1=>?_⟩
 cases x with
 | true=>exact Al ⟨G,ow,δ,t,R.grow s1,e2,fun H2 s2=>q H2 (s1.trans s2)⟩
 | false=>cases e2;exact Ak (q H1 s1)
theorem qx (h1:DT X fl a ft) (h2:DW X fl (.BoolOp .Or (b :: rest) pos) gt):DW X fl (.BoolOp .Or (a :: b :: rest) pos) (tOr ft gt):=PW.imp (Ul h1 h2) fun σ H Q h=>by
 obtain ⟨G,ow,δ,t,R,hf,q⟩:=h
 obtain ⟨x,e1,e2⟩:=bind1 hf
 refine ⟨G,ow,δ,x,R,e1,fun H1 s1=>?_⟩
 cases x with
 | true=>cases e2;exact Al (q H1 s1)
 | false=>exact Ak ⟨G,ow,δ,t,R.grow s1,e2,fun H2 s2=>q H2 (s1.trans s2)⟩
theorem tW (h:DW X fl a ft):DT X fl a ft:=PW.pt h
theorem Aw {op op':CmpOp} {r r':R2} {g g':D→D→Option D} (ho:OpR X (compareOp op) r) (ho':OpR X (compareOp op') r') (hb:BrO X.K r g) (hb':BrO X.K r' g') (h1:DE X fl .P a fa) (h2:DE X fl .P b fb) (h3:DE X fl .P c fc)
 (hm:lastMarks [op,op'] [b,c]=false:=by with_unfolding_all rfl):DE X fl .FC (.Compare a [op,op'] [b,c] pos) (oF g g' fa fb fc):=PE.imp (Ip ho ho' h1 h2 h3 hm) fun σ H Q h=>by
 obtain ⟨G,ow,δ,d,R,hf,q⟩:=h
 obtain ⟨x,e1,hf⟩:=bind1 hf
 obtain ⟨y,e2,hf⟩:=bind1 hf
 obtain ⟨z,e3,hf⟩:=bind1 hf
 refine ⟨G,ow,δ,x,R,e1,fun v H1 s1 r1=>⟨G,ow,δ,y,R.grow s1,e2,fun u H2 s2 r2=>?_⟩⟩
 refine hb H2 v u x y z _ (RA.same s2 r1) r2 e3 fun zv hz rz=>?_
 split at hf
 ·obtain rfl:=rz.blE
  obtain ⟨w,e4,e5⟩:=bind1 hf
  refine ⟨true,rfl,Al ⟨G,ow,δ,w,R.grow (s1.trans s2),e4,fun wv H3 s3 r3=>?_⟩⟩
  exact hb' H3 u wv y w d Q (RA.same s3 r2) r3 e5 fun z hz rz=>q z H3 (s1.trans (s2.trans s3)) (.inl ⟨hz,rz⟩)
 ·obtain rfl:=rz.blE
  cases hf
  exact ⟨false,rfl,Ak (q _ H2 (s1.trans s2) (.inl ⟨rfl,.bl _⟩))⟩
 ·cases hf
theorem GR {op op' op'':CmpOp} {r r' r'':R2} {g g' g'':D→D→Option D} {d:Expr} {fd:FE} (ho:OpR X (compareOp op) r) (ho':OpR X (compareOp op') r') (ho'':OpR X (compareOp op'') r'') (hb:BrO X.K r g) (hb':BrO X.K r' g') (hb'':BrO X.K r'' g'') (h1:DE X fl .P a fa) (h2:DE X fl .P b fb) (h3:DE X fl .P c fc) (h4:DE X fl .P d fd)
 (hm:lastMarks [op,op',op''] [b,c,d]=false:=by with_unfolding_all rfl):DE X fl .FC (.Compare a [op,op',op''] [b,c,d] pos) (uV g g' g'' fa fb fc fd):=PE.imp (GF ho ho' ho'' h1 h2 h3 h4 hm) fun σ H Q h=>by
 obtain ⟨G,ow,δ,dd,R,hf,q⟩:=h
 obtain ⟨x,e1,hf⟩:=bind1 hf
 obtain ⟨y,e2,hf⟩:=bind1 hf
 obtain ⟨z,e3,hf⟩:=bind1 hf
 refine ⟨G,ow,δ,x,R,e1,fun v H1 s1 r1=>⟨G,ow,δ,y,R.grow s1,e2,fun u H2 s2 r2=>?_⟩⟩
 refine hb H2 v u x y z _ (RA.same s2 r1) r2 e3 fun zv hz rz=>?_
 split at hf
 ·obtain rfl:=rz.blE
  obtain ⟨w,e4,hf⟩:=bind1 hf
  obtain ⟨z',e5,hf⟩:=bind1 hf
  refine ⟨true,rfl,Al ⟨G,ow,δ,w,R.grow (s1.trans s2),e4,fun wv H3 s3 r3=>?_⟩⟩
  refine hb' H3 u wv y w z' _ (RA.same s3 r2) r3 e5 fun zv' hz' rz'=>?_
  split at hf
  ·obtain rfl:=rz'.blE
   obtain ⟨t,e6,e7⟩:=bind1 hf
   refine ⟨true,rfl,Al ⟨G,ow,δ,t,R.grow (s1.trans (s2.trans s3)),e6,fun tv H4 s4 r4=>?_⟩⟩
   exact hb'' H4 wv tv w t dd Q (RA.same s4 r3) r4 e7 fun z hz rz=>q z H4 (s1.trans (s2.trans (s3.trans s4))) (.inl ⟨hz,rz⟩)
  ·obtain rfl:=rz'.blE
   cases hf
   exact ⟨false,rfl,Ak (q _ H3 (s1.trans (s2.trans s3)) (.inl ⟨rfl,.bl _⟩))⟩
  ·cases hf
 ·obtain rfl:=rz.blE
  cases hf
  exact ⟨false,rfl,Ak (q _ H2 (s1.trans s2) (.inl ⟨rfl,.bl _⟩))⟩
 ·cases hf
theorem CP {K:PySem.W.Frag} {ok:Ok} {pl:Bool} {H:Hp} {v:V} {d:D} (r:RA K ok pl H v d):decide (v = .non)=isNone d:=by
 cases r <;> rfl
theorem Ri {j pos'} (h:DE X fl .P a f):DE X fl .FC (.Compare a [.Is] [.Constant .none j pos'] pos) (dUn uF f):=PE.imp (Qo (HX h)) fun σ H Q h=>by
 obtain ⟨G,ow,δ,d,R,hf,q⟩:=h
 obtain ⟨x,e1,e2⟩:=bind1 hf
 cases e2
 refine ⟨G,ow,δ,x,R,e1,fun v H1 s1 r1=>?_⟩
 show Q (.bl (decide (v = .non))) H1
 rw [CP (RA.same (Same.refl H1) r1)]
 exact q _ H1 s1 (.inl ⟨rfl,.bl _⟩)
noncomputable def BrC (K:PySem.W.Frag) (r:List V→Hp→VK→Prop) (g:List D→Option D):Prop:=∀ (H:Hp) (xs:List V) (ds:List D) (d:D) (Q:VK),RAs K ok1 true H xs ds→g ds=some d→(∀ v,flat d=true→RA K ok0 false H v d→Q v H)→r xs H Q
theorem eV {id:String} {r:List V→Hp→VK→Prop} {g:List D→Option D} {x:Str} {p:Pos} {fa:FA} (hc:nq X (.builtin id) r) (hb:BrC X.K r g) (hg:Gl X x) (hm:X.mg x=none) (hv:bootBuiltins x=some (.builtin id)) (ha:DB X fl .P (e :: es) fa) (hn:x ≠ "__name__" := by decide) (hdb:(x == ("__debug__" : Str))=false:=by decide)
 (he:starEach (e :: es) X.env=(false,eval e X.env) :: starEach es X.env:=by exact lW rfl) (hpl:(backTo pos (starEach es X.env)).any (·.1)=false:=by exact En rfl):DE X fl .FC (.Call (.Name x p) (e :: es) [] pos) (dCall g fa) :=
 PE.imp (tL hc hg hm hv ha hn hdb he hpl) fun σ H Q h=>by
 obtain ⟨G,ow,δ,d,R,hf,q⟩:=h
 obtain ⟨ds,e1,e2⟩:=bind1 hf
 exact ⟨G,ow,δ,ds,R,e1,fun vs H' s r'=>hb H' vs ds d Q r' e2 fun v hv rv=>q v H' s (.inl ⟨hv,rv⟩)⟩
theorem jU {K:PySem.W.Frag}:BrC K (fun xs H Q=>∃ p ys,xs=[.ref p]∧(SqL K H p ys∨SqT K H p ys)∧Q (.int ys.length) H) jZ:=by
 intro H xs ds d Q r e q
 unfold jZ at e
 split at e
 ·next l =>
  cases e
  cases r with
  | cons r1 r2 =>
   cases r2
   obtain ⟨a,ys,rfl,hx,hr⟩:=r1.lstE
   refine ⟨a,ys,rfl,.inl hx,?_⟩
   rw [hr.length]
   exact q _ rfl (.int _)
 ·next l =>
  cases e
  cases r with
  | cons r1 r2 =>
   cases r2
   obtain ⟨a,ys,rfl,hx,hr⟩:=r1.tupE
   refine ⟨a,ys,rfl,.inr hx,?_⟩
   rw [hr.length]
   exact q _ rfl (.int _)
 ·cases e
theorem CQ {K:PySem.W.Frag}:BrC K (fun xs H Q=>∃ i j,xs=[.int i,.int j]∧Q (.int (if j > i then j else i)) H) tO:=by
 intro H xs ds d Q r e q
 unfold tO at e
 split at e
 ·cases e
  cases r with
  | cons r1 r2 =>
   cases r2 with
   | cons r2 r3 =>
    cases r3
    obtain rfl:=r1.intE
    obtain rfl:=r2.intE
    exact ⟨_,_,rfl,q _ rfl (.int _)⟩
 ·cases e
theorem yU {K:PySem.W.Frag}:BrC K (fun xs H Q=>∃ i j,xs=[.int i,.int j]∧Q (.int (if j < i then j else i)) H) vN:=by
 intro H xs ds d Q r e q
 unfold vN at e
 split at e
 ·cases e
  cases r with
  | cons r1 r2 =>
   cases r2 with
   | cons r2 r3 =>
    cases r3
    obtain rfl:=r1.intE
    obtain rfl:=r2.intE
    exact ⟨_,_,rfl,q _ rfl (.int _)⟩
 ·cases e
theorem MN (d:D):tyD d = "NoneType" ∨ tyD d = "bool" ∨ tyD d = "int" ∨ tyD d = "str" ∨ tyD d = "list" ∨ tyD d = "tuple" ∨ tyD d = "dict" := by
 cases d <;> simp [tyD]
noncomputable def Xg (K:PySem.W.Frag):List V→Hp→VK→Prop:=fun xs H Q=>∃ x c d,xs=[x,.ty c]∧(c = "int" ∨ c = "bool" ∨ c = "tuple" ∨ c = "list" ∨ c = "str")∧RA K ok1 true H x d∧Q (.bl (isT c (tyD d))) H
theorem Jt:nq X (.builtin "isinstance") (Xg X.K):=by
 intro pins s σ H xs us Q I r h
 obtain ⟨x,c,d,rfl,hc,ra,q⟩:=h
 obtain ⟨u,w',rfl,rx,rc⟩:=vals2 r
 cases rc
 have kn:=Q7 (K:=X.K) hc (MN d)
 have fin:∀ tk,EP X pins σ Q (.bool (isT c (tyD d))) { s with toks:=tk }:=fun tk=>⟨.bl _,H,I.tok _,rfl,q⟩
 cases ra with
 | non=>cases (show u=Value.none from rx);exact PySem.W.kia_one PySem.W.kitx_none I.kIn True.intro kn (fun z=>nomatch z) fin
 | bl b=>cases (show u=Value.bool b from rx);exact PySem.W.kia_one PySem.W.kitx_bool I.kIn True.intro kn (fun z=>nomatch z) fin
 | int i=>obtain ⟨t,z⟩:=(show ∃ t,u=Value.int i t from rx);cases z;exact PySem.W.kia_one PySem.W.kitx_int I.kIn True.intro kn (fun z=>nomatch z) fin
 | str y=>obtain ⟨t,z⟩:=(show ∃ t,u=Value.str y t from rx);cases z;exact PySem.W.kia_one PySem.W.kitx_str I.kIn True.intro kn (fun z=>nomatch z) fin
 | @lst a xs ds e k q' =>
  cases (show u=Value.ref a from rx)
  obtain ⟨its,_,⟨o,n,e1,e2,_⟩,_⟩:=I.list (SqL.of e)
  exact PySem.W.kia_one PySem.W.kitx_list I.kIn ⟨_,e1,e2⟩ kn (fun z=>nomatch z) fin
 | @lsk a xs ds e k q' =>
  cases (show u=Value.ref a from rx)
  obtain ⟨its,_,⟨o,n,e1,e2,_⟩,_⟩:=I.list e.sq
  exact PySem.W.kia_one PySem.W.kitx_list I.kIn ⟨_,e1,e2⟩ kn (fun z=>nomatch z) fin
 | @tup a xs ds e q' =>
  cases (show u=Value.ref a from rx)
  obtain ⟨its,_,⟨o,e1,e2,_⟩,_⟩:=I.tuple e.sq
  exact PySem.W.kia_one PySem.W.kitx_tuple I.kIn ⟨_,e1,e2⟩ kn (fun z=>nomatch z) fin
 | @dic a u0 kvs e g k =>
  rcases g.or with ⟨ks,z⟩ | ⟨ks,z⟩
  ·rw [z] at e;exact xM I rx (TyOf.dK e) kn fin
  ·rw [z] at e;exact xM I rx (TyOf.dT e) kn fin
 | @dik a u0 kvs ob e g k =>
  cases (show u=Value.ref a from rx)
  have ob:=(show iI X.prog X.w H s.heap a u0 from (show L2.Rd H a u0 from .inr ⟨_,e⟩).ok I.hok)
  rcases g.or with ⟨ks,z⟩ | ⟨ks,z⟩
  ·rw [z] at ob
   obtain ⟨_,_,vs,_,dd⟩:=ob
   obtain ⟨o1,_,_,h1,h2,_⟩:=dd
   exact PySem.W.kia_one PySem.W.kitx_dict I.kIn ⟨_,h1,h2.1⟩ kn (fun z=>nomatch z) fin
  ·rw [z] at ob
   obtain ⟨_,_,xs,_,o1,_,_,h1,h2,_⟩:=ob
   exact PySem.W.kia_one PySem.W.kitx_dict I.kIn ⟨_,h1,h2.1⟩ kn (fun z=>nomatch z) fin
theorem oJ {T:String} {x:Str} {p p':Pos} (hc:T = "int" ∨ T = "bool" ∨ T = "tuple" ∨ T = "list" ∨ T = "str") (h:DE X fl .P a f) (hg:Gl X "isinstance") (hm:X.mg "isinstance" = none) (hg':Gl X x) (hm':X.mg x=none) (hv':bootBuiltins x=some (.type T))
 (hn':x ≠ "__name__" := by decide) (hd':(x == ("__debug__" : Str))=false:=by decide)
 (he:starEach [a,.Name x p'] X.env=(false,eval a X.env) :: starEach [.Name x p'] X.env:=by rfl) (he2:starEach [.Name x p'] X.env=(false,eval (.Name x p') X.env) :: starEach [] X.env:=by rfl) (hpl:(backTo pos (starEach [.Name x p'] X.env)).any (·.1)=false:=by rfl) :
 DE X fl .FC (.Call (.Name "isinstance" p) [a,.Name x p'] [] pos) (dUn (gIs T) f) :=
 PE.imp (tL Jt hg hm boot_isinstance (jW h (jW (Ln (v:=.ty T) hg' hm' hv' rfl hn' hd') pq he2) he) (by decide) (by decide) he hpl) fun σ H Q h=>by
 obtain ⟨G,ow,δ,d,R,hf,q⟩:=h
 obtain ⟨x,e1,e2⟩:=bind1 hf
 cases e2
 exact ⟨G,ow,δ,x,R,e1,fun v H1 s1 r1=>⟨v,T,x,rfl,hc,r1,q _ H1 s1 (.inl ⟨rfl,.bl _⟩)⟩⟩
theorem Ju (h:DE X fl .P a f):DE X fl .FC (.UnaryOp .USub a pos) (dUn Jg f):=PE.imp (Uw QM h) fun σ H Q h=>by
 obtain ⟨G,ow,δ,d,R,hf,q⟩:=h
 obtain ⟨x,e1,e2⟩:=bind1 hf
 refine ⟨G,ow,δ,x,R,e1,fun v H1 s1 r1=>?_⟩
 unfold Jg at e2
 split at e2
 ·cases e2
  obtain rfl:=RA.intE r1
  exact ⟨_,rfl,q _ H1 s1 (.inl ⟨rfl,.int _⟩)⟩
 ·cases e2
end
noncomputable def spD (K:PySem.W.Frag) (F:List D→Option D):Sp:=fun vs H Q _=>∃ ds d,(Tb H∧RAs K ok1 true H vs ds)∧F ds=some d∧∀ v H',Same H H'→RA K (okN H) false H' v d→Q v H'
section
variable {P:Program} {w:World} {K:PySem.W.Frag} {mg:Str→Option Value} {base:Heap} {x:Str} {ps N:List Str} {st:Stmt} {k n:Nat} {fs:FS} {fl:List Fl}
theorem oW {vs:List V} {ds:List D} {H:Hp} (p:Nat) (hp:∀ i,i < p→fl[i]? = some .A) (hl:ds.length=p) (hN:p ≤ N.length) (r':Tb H∧RAs K ok1 true H vs ds) :
 Rel K fl ⟨H,H,fun _=>none,fun _=>[],r'.1⟩ ow0 (L2.start N vs) H (ds.map (fun d=>some (.d d))++bD (N.length - p) none):=by
 have r:=r'.2
 have hv:vs.length=p:=by rw [r.length];exact hl
 have get:∀ i d,(ds.map (fun d=>some (U.d d))++bD (N.length - p) none)[i]? = some (some (.d d))→i < p∧ds[i]? = some d:=fun i d h=>by
  by_cases hi:i < p
  ·rw [cQ (by rw [aH,hl];exact hi),bf] at h
   cases e:ds[i]? with
   | none=>rw [e] at h;cases h
   | some z=>rw [e] at h;cases h;exact ⟨hi,rfl⟩
  ·rw [cN (by rw [aH,hl];omega),gM] at h
   split at h <;> cases h
 refine ⟨Same.refl H,Same.refl H,?_,fun i a h=>(by cases h),fun i j a h=>(by cases h),fun i h=>rfl,fun i d h _ _=>?_,fun i d h _ h2 _=>?_,fun i a h=>(by cases h),fun i j a h=>(by cases h),fun i j a h=>(by cases h),fun i h=>rfl,fun i d hn h=>?_⟩
 ·unfold L2.start
  simp only [bB,aH,b_,hv,hl]
 ·obtain ⟨hi,e⟩:=get i d h
  obtain ⟨v,e1,e2⟩:=r.get e
  refine ⟨v,?_,e2.imp (fun _ _=>⟨fun i z=>(by cases z),fun i z=>(by cases z)⟩) (fun z=>z)⟩
  unfold L2.start
  rw [cQ (by rw [aH,hv];exact hi),bf,e1]
  rfl
 ·exact absurd (hp i (get i d h).1) h2
 ·rw [hp i (get i d h).1] at hn
  cases hn
end
section
variable {X:Cx} {fl:List Fl} {e:Expr} {es:List Expr} {pos p:Pos} {x:Str} {ps:List Str} {n:Nat} {F:List D→Option D} {fa:FA}
theorem bH (h:Has X.prog X.w X.K X.mg X.base n x ps (spD X.K F)) (hr:Room n X.A) (ha:DB X fl .P (e :: es) fa) (hg:Gl X x:=by rfl) (hdb:(x == ("__debug__" : Str))=false:=by decide)
 (he:starEach (e :: es) X.env=(false,eval e X.env) :: starEach es X.env:=by exact lW rfl) (hpl:(backTo pos (starEach es X.env)).any (·.1)=false:=by exact En rfl) :
 DE X fl .C (.Call (.Name x p) (e :: es) [] pos) (dCall F fa):=PE.imp (Am h hr ha hg hdb he hpl) fun σ H Q h=>by
 obtain ⟨G,ow,δ,d,R,hf,q⟩:=h
 obtain ⟨ds,e1,e2⟩:=bind1 hf
 refine ⟨G,ow,δ,ds,R,e1,fun vs H' s r=>?_⟩
 show spD X.K F (vs++[]) H' Q E0
 rw [cR]
 exact ⟨ds,d,⟨R.tb.same s,r⟩,e2,fun v H2 s2 r2=>q v H2 (s.trans s2) (RA.imp (fun a z=>s.free z) (fun z=>z) r2)⟩
end
end D3
namespace D3
open PySem PySem.Spec PyProof.Rows L2 My
section
variable {X:Cx} {fl fl':List Fl} {e a b c elt tg iter:Expr} {es ifs:List Expr} {k:Kd} {f fa fb fc:FE} {ft gt:FT} {pos:Pos} {scope:Scope} {ix L TT:List Nat} {fi:FA} {g:FG}
theorem mY:PTs X [] (tDT X.K fl D3.kW):=fun pins s σ H Q I h=>by
 obtain ⟨G,ow,δ,b,R,hf,q⟩:=h
 cases hf
 exact Mr pins s σ H Q I (q H (Same.refl H))
theorem MP {K:PySem.W.Frag} {G:Gh} {ow:Ow} {σ:St} {H H1:Hp} {δ:DS} (t:Nat) (ix:List Nat) (hfl:∀ i,i < t + ix.length→fl'[i]? = some .A) (R:Rel K fl G ow σ H δ) (s:Same H H1) :
 Rel K fl' ⟨H,H,fun _=>none,fun _=>[],R.tb⟩ ow0 (wQ t ix σ) H1 (kY t ix δ):=by
 have get:∀ i d,(kY t ix δ)[i]? = some (some (.d d))→i < t + ix.length∧∃ j,ix[i - t]? = some j∧t ≤ i∧δ[j]? = some (some (.d d)):=fun i d h=>by
  unfold kY at h
  by_cases hi:i < t
  ·rw [cQ (by rw [b_];exact hi),gM,if_pos hi] at h
   cases h
  ·rw [cN (by rw [b_];omega),b_,bf] at h
   cases e:ix[i - t]? with
   | none=>rw [e] at h;cases h
   | some j =>
    rw [e] at h
    have hl:i - t < ix.length:=by
     rcases gZ (i - t) ix.length with z | z
     ·exact z
     ·rw [cF z] at e;cases e
    refine ⟨by omega,j,rfl,by omega,?_⟩
    have h':(δ[j]?).getD none=some (.d d):=by simpa using h
    cases q:δ[j]? with
    | none=>rw [q] at h';cases h'
    | some o=>rw [q] at h';simp at h';rw [h']
 refine ⟨Same.refl H,s,?_,fun i a h=>(by cases h),fun i j a h=>(by cases h),fun i h=>rfl,fun i d h _ _=>?_,fun i d h _ h2 _=>absurd (hfl i (get i d h).1) h2,fun i a h=>(by cases h),fun i j a h=>(by cases h),fun i j a h=>(by cases h),fun i h=>rfl,fun i d hn h=>(by rw [hfl i (get i d h).1] at hn;cases hn)⟩
 ·unfold wQ kY
  simp
 ·obtain ⟨hi,j,ej,ht,ed⟩:=get i d h
  have key:∃ v,σ[j]? = some (some v)∧RA K ok1 true H v d:=by
   cases hN:isN fl[j]? with
   | true =>
    obtain ⟨v,h1,h2,_⟩:=R.nr j d hN ed
    exact ⟨v,h1,h2.ra fun _ _=>trivial⟩
   | false =>
   cases ho:ow j with
   | none =>
    obtain ⟨v,h1,h2⟩:=R.dat j d ed hN ho
    exact ⟨v,h1,h2.imp (fun _ _=>trivial) (fun z=>z)⟩
   | some a =>
    obtain ⟨_,_,xs,ds,h1,h2,h3,h4⟩:=R.own j a ho
    rw [ed] at h4
    cases h4
    exact ⟨_,h1,.lst h2 trivial (h3.imp (fun _ _=>trivial) (fun z=>z))⟩
  obtain ⟨v,h1,h2⟩:=key
  refine ⟨v,?_,(h2.imp (fun _ _=>⟨fun i z=>(by cases z),fun i z=>(by cases z)⟩) (fun z=>z)).same s⟩
  unfold wQ
  rw [cN (by rw [b_];omega),b_,bf,ej]
  show some ((σ[j]?).getD none)=_
  rw [h1]
  rfl
theorem qy {σ:St} {H:Hp} {Q:VK} {t:Nat} (hfl:∀ i,i < t + ix.length→fl'[i]? = some .A) (htg:∀ j ∈ TT,j < t)
 (h:tD X.K fl .FC (iY fi g ft f t ix) σ H Q):Eb (tDI X.K fl L fi) (tDG X.K fl' TT g) (tDT X.K fl' ft) (tD X.K fl' .C f) t (wQ t ix) σ H Q:=by
 obtain ⟨G,ow,δ,d,R,hf,q⟩:=h
 obtain ⟨l,e1,e2⟩:=bind1 hf
 by_cases hl:l.length ≤ 100000
 case neg=>rw [if_neg hl] at e2;cases e2
 rw [if_pos hl] at e2
 obtain ⟨r,e3,e4⟩:=bind1 e2
 cases e4
 refine ⟨G,ow,δ,l,R,e1,fun J H1 s1 wk Dl hD=>?_⟩
 have R1:=R.grow s1
 let okD:Ok:=fun b=>okN H b∧b ≠ Dl
 refine ⟨fun i m xs H2=>m=l.length - i∧H2 Dl=some (.lst xs)∧Same H1 H2∧xs.length ≤ i∧i ≤ l.length∧∃ ds rest,RAs X.K okD false H2 xs ds∧gU g ft f (kY t ix δ) (l.drop i)=some rest∧r=ds++rest,
  ⟨_,rfl,fG,fX hD _,aQ _,fu _,[],r,.nil,by simpa using e3,rfl⟩,?_⟩
 rintro i m xs H2 ⟨rfl,hDl,s2,hxl,hil,ds,rest,hr,hc,rfl⟩
 refine ⟨hDl,?_⟩
 obtain ⟨w1,w2⟩:=wk H2 (fun b o hb _ _=>s2 b o hb) i
 by_cases hlt:i < l.length
 ·have hdrop:l.drop i=l[i] :: l.drop (i + 1):=jP hlt
  rw [hdrop,gU] at hc
  obtain ⟨δ1,e5,hc⟩:=bind1 hc
  obtain ⟨bb,e6,hc⟩:=bind1 hc
  obtain ⟨go,yl⟩:=w1 l[i] (aN hlt)
  refine .inr ⟨go,jh (bV hxl (bV hil hl)) (by decide),fun x H3 hy=>?_⟩
  obtain ⟨s3,r3⟩:=yl x H3 hy
  have s13:=s2.trans s3
  have Rb:=(MP t ix hfl R1 (Same.refl H1)).grow s13
  refine ⟨_,_,_,_,δ1,Rb,r3.imp (fun _ _=>⟨fun i z=>(by cases z),fun i z=>(by cases z)⟩) (fun z=>z),e5,fun σ4 R4 keep4=>⟨?_,?_⟩⟩
  ·apply jC
   intro n
   rw [jX,jX]
   exact keep4 (t + n) fun z=>absurd (htg _ z) (by omega)
  ·refine ⟨_,_,δ1,bb,R4,e6,fun H5 s5=>?_⟩
   cases bb with
   | false =>
    rw [if_neg aU] at hc ⊢
    have s35:=s3.trans s5
    exact ⟨l.length - (i + 1),by omega,rfl,s35 _ _ hDl,s2.trans s35,by omega,hlt,ds,rest,hr.same s35,hc,rfl⟩
   | true =>
    rw [if_pos rfl] at hc ⊢
    obtain ⟨y,e7,hc⟩:=bind1 hc
    obtain ⟨l',e8,hc⟩:=bind1 hc
    cases hc
    refine ⟨_,_,δ1,y,R4.grow s5,e7,fun v H6 s6 r6=>?_⟩
    have s35:=s3.trans s5
    have s36:=s35.trans s6
    refine ⟨s36 _ _ hDl,l.length - (i + 1),by omega,rfl,fG,?_,by rw [bB,pP];omega,hlt,ds++[y],l',?_,e8,by simp⟩
    ·intro b o hb
     rw [dU (fun z=>by subst z;rw [hD] at hb;cases hb)]
     exact (s2.trans s36) b o hb
    ·have nd:¬ okD Dl:=fun z=>z.2 rfl
     have s05:Same H H5:=s1.trans (s2.trans s35)
     have ry:RA X.K okD false H6 v y:=RA.imp (fun b z=>⟨s05.free z,fun e=>by subst e;rw [okN,s35 _ _ hDl] at z;cases z⟩) (fun z=>z) r6
     exact ((hr.same s36).append (.cons ry .nil)).upd (s36 _ _ hDl) nd
 ·have ed:l.drop i=[]:=g_ (by omega)
  rw [ed,gU] at hc
  cases hc
  refine .inl ⟨w2 (by omega),?_⟩
  rw [cR] at q
  exact q (.ref Dl) H2 (s1.trans s2) (.inr ⟨Dl,xs,ds,rfl,rfl,s1.free hD,hDl,hr⟩)
theorem lg (hc:X.calm=true) (T Vn:List Str) (ix:List Nat) (hi:DI X fl L tg iter fi)
 (hg:∀ cl C s3 H3 fp,DG (blk X (T++Vn) scope cl C s3 H3 fp) fl' TT tg g) (ht:∀ cl C s3 H3 fp,PTs (blk X (T++Vn) scope cl C s3 H3 fp) ifs (tDT X.K fl' ft)) (he:∀ cl C s3 H3 fp,DE (blk X (T++Vn) scope cl C s3 H3 fp) fl' .C elt f)
 (hfl:∀ i,i < T.length + ix.length→fl'[i]? = some .A:=by decide) (htg:∀ j ∈ TT,j < T.length:=by decide)
 (hB:uR X.N X.env.scope.names scope.names Vn ix=true:=by rfl) (hk:scope.kind = .function:=by rfl) (hcell:∀ y ∈ scope.names,y.2 ≠ .cell:=by decide +kernel)
 (hnames:∀ x ∈ scope.names,x.2 = .local→scope.names.lookup x.1=some .local:=by decide +kernel)
 (hfr:∀ x ∈ scope.names,x.2 = .free→x.1 ∈ Vn:=by decide +kernel) (hs:∀ x,foldedSetIterable iter X.env x=pure x:=by intro _;rfl) :
 DE X fl .FC (.ListComp elt [⟨tg,iter,ifs,0⟩] scope pos) (iY fi g ft f T.length ix) :=
 PE.imp (Ms hc T Vn ix hi hg ht he hB hk hcell hnames hfr hs) fun _ _ _ h=>qy hfl htg h
theorem qz {i:Nat} {x:Str} {pos' spos:Pos} (hfx:fl[i]? = some .A) (hN:X.N.Nodup) (hi':X.N[i]? = some x) (hx:X.env.scope.names.lookup x=some .local) (hc:X.calm=true) (T Vn:List Str) (ix:List Nat) (hi:DI X fl L tg iter fi)
 (hg:∀ cl C s3 H3 fp,DG (blk X (T++Vn) scope cl C s3 H3 fp) fl' TT tg g) (ht:∀ cl C s3 H3 fp,PTs (blk X (T++Vn) scope cl C s3 H3 fp) ifs (tDT X.K fl' ft)) (he:∀ cl C s3 H3 fp,DE (blk X (T++Vn) scope cl C s3 H3 fp) fl' .C elt f)
 (hfl:∀ i,i < T.length + ix.length→fl'[i]? = some .A:=by decide) (htg:∀ j ∈ TT,j < T.length:=by decide)
 (hsw:swapsWith (.ListComp elt [⟨tg,iter,ifs,0⟩] scope pos) (some (.Name x pos')) spos.line X.env=pure true:=by rfl)
 (hB:uR X.N X.env.scope.names scope.names Vn ix=true:=by rfl) (hk:scope.kind = .function:=by rfl) (hcell:∀ y ∈ scope.names,y.2 ≠ .cell:=by decide +kernel)
 (hnames:∀ x ∈ scope.names,x.2 = .local→scope.names.lookup x.1=some .local:=by decide +kernel)
 (hfr:∀ x ∈ scope.names,x.2 = .free→x.1 ∈ Vn:=by decide +kernel) (hs:∀ x,foldedSetIterable iter X.env x=pure x:=by intro _;rfl) :
 DS1 X fl (.Assign [.Name x pos'] (.ListComp elt [⟨tg,iter,ifs,0⟩] scope pos) spos) (bZ i (iY fi g ft f T.length ix)) :=
 PS.imp (Ec hN hi' hx hc T Vn ix hi hg ht he hsw hB hk hcell hnames hfr hs) fun Dn σ H h=>by
 obtain ⟨G,ow,δ,o,R,hf,q⟩:=h
 unfold bZ at hf
 by_cases hl:i < δ.length
 ·rw [if_pos hl] at hf
  obtain ⟨d,e1,e2⟩:=bind1 hf
  cases e2
  exact qy (fl:=fl) hfl htg ⟨G,ow,δ,d,R,e1,fun v H' s r=>q ow _ H' ((R.grow s).setA hfx (rA R hl) ((r.FC_F R).F_A R))⟩
 ·rw [if_neg hl] at hf
  cases hf
theorem Jv {i:Nat} {x:Str} {pos' spos:Pos} (hfx:fl[i]? = some .O) (hN:X.N.Nodup) (hi':X.N[i]? = some x) (hx:X.env.scope.names.lookup x=some .local) (hc:X.calm=true) (T Vn:List Str) (ix:List Nat) (hi:DI X fl L tg iter fi)
 (hg:∀ cl C s3 H3 fp,DG (blk X (T++Vn) scope cl C s3 H3 fp) fl' TT tg g) (ht:∀ cl C s3 H3 fp,PTs (blk X (T++Vn) scope cl C s3 H3 fp) ifs (tDT X.K fl' ft)) (he:∀ cl C s3 H3 fp,DE (blk X (T++Vn) scope cl C s3 H3 fp) fl' .C elt f)
 (hfl:∀ i,i < T.length + ix.length→fl'[i]? = some .A:=by decide) (htg:∀ j ∈ TT,j < T.length:=by decide)
 (hsw:swapsWith (.ListComp elt [⟨tg,iter,ifs,0⟩] scope pos) (some (.Name x pos')) spos.line X.env=pure true:=by rfl)
 (hB:uR X.N X.env.scope.names scope.names Vn ix=true:=by rfl) (hk:scope.kind = .function:=by rfl) (hcell:∀ y ∈ scope.names,y.2 ≠ .cell:=by decide +kernel)
 (hnames:∀ x ∈ scope.names,x.2 = .local→scope.names.lookup x.1=some .local:=by decide +kernel)
 (hfr:∀ x ∈ scope.names,x.2 = .free→x.1 ∈ Vn:=by decide +kernel) (hs:∀ x,foldedSetIterable iter X.env x=pure x:=by intro _;rfl) :
 DS1 X fl (.Assign [.Name x pos'] (.ListComp elt [⟨tg,iter,ifs,0⟩] scope pos) spos) (bZ i (iY fi g ft f T.length ix)) :=
 PS.imp (Ec hN hi' hx hc T Vn ix hi hg ht he hsw hB hk hcell hnames hfr hs) fun Dn σ H h=>by
 obtain ⟨G,ow,δ,o,R,hf,q⟩:=h
 unfold bZ at hf
 by_cases hl:i < δ.length
 ·rw [if_pos hl] at hf
  obtain ⟨d,e1,e2⟩:=bind1 hf
  cases e2
  refine qy (fl:=fl) hfl htg ⟨G,ow,δ,d,R,e1,fun v H' s r=>?_⟩
  obtain ⟨ow',R'⟩:=R.setO s hfx (rA R hl) (r.FC_F R)
  exact q ow' _ H' R'
 ·rw [if_neg hl] at hf
  cases hf
theorem Ax {K:PySem.W.Frag} {G:Gh} {ow:Ow} {H H1:Hp} {p:Addr} {vs:List V} {l:List D} (s:Same H H1) (hp:H1 p=none) (r:RAs K (okA ow) true H1 vs l):Rs K G.H0 ow H (upd H1 p (.lst vs)) .F (.ref p) (.list l) :=
 .inr ⟨p,vs,l,rfl,rfl,s.free hp,fG,(r.track.imp (fun b w=>⟨w.1,fun e=>w.2 (e ▸ hp)⟩) (fun z=>z)).same (fX hp _)⟩
theorem vY {K:PySem.W.Frag} {H0:Hp} {ow:Ow} {Hb H:Hp} {L:List Nat} {v:V} {l:List D} (r:Rs K H0 ow Hb H (.B L) v (.list l)):∃ a xs,v = .ref a∧SqL K H a xs∧RAs K (okA ow) true H xs l:=by
 rcases r with r | ⟨i,hi,a,xs,ds,ho,rfl,e,hx,hr⟩
 ·exact r.lstE
 ·cases e
  exact ⟨a,xs,rfl,SqL.of hx,hr⟩
noncomputable def Vc (K:PySem.W.Frag):R2:=fun x y H Q=>∃ l b xs zs,x = .ref l∧y = .ref b∧SqL K H l xs∧SqL K H b zs∧xs.length + zs.length ≤ sizeLine∧∀ p,H p=none→Q (.ref p) (upd H p (.lst (xs++zs)))
theorem M4:OpR X (binaryOp .Add) (Vc X.K):=by
 intro pins s σ H x y v u Q I rx ry h
 obtain ⟨l,b,xs,zs,rfl,rfl,hH,hB,hz,q⟩:=h
 cases rx
 cases ry
 obtain ⟨its,r,p,_⟩:=I.list hH
 obtain ⟨its2,r2,p2,_⟩:=I.list hB
 obtain ⟨⟨cls,dd,data,sl⟩,ho,hc,n,hd⟩:=p.isList
 obtain ⟨⟨cls2,dd2,data2,sl2⟩,ho2,hc2,n2,hd2⟩:=p2.isList
 simp only at hc hd hc2 hd2
 subst hc hd hc2 hd2
 have e1:=r.length
 have e2:=r2.length
 have e:its.toArray++its2.toArray=(its++its2).toArray:=by simp
 refine concat_meets ⟨_,ho,rfl⟩ ⟨_,ho2,rfl⟩ noFill_list_add seq_list_add PySem.F.slot_list_add PySem.F.entry_list_add (PySem.F.args_list_add_2 _ _) (list_addW l b its.toArray its2.toArray n n2 dd dd2 sl sl2 (by simp;omega)) ⟨ho,ho2,?_⟩
 rw [e]
 exact ⟨.ref _,_,I.lnew (t':=s.toks) (r.append r2) (by rw [bB];omega),rfl,q _ I.fresh⟩
theorem qH {L L':List Nat} (h1:DE X fl (.B L) a fa) (h2:DE X fl (.B L') b fb):DE X fl .F (.BinOp a .Add b pos) (dOp oG fa fb):=PE.imp (Il M4 h1 h2) fun σ H Q h=>by
 obtain ⟨G,ow,δ,d,R,hf,q⟩:=h
 obtain ⟨x,y,e1,e2,e3⟩:=Ei hf
 refine ⟨G,ow,δ,x,R,e1,fun v H1 s1 r1=>⟨G,ow,δ,y,R.grow s1,e2,fun u H2 s2 r2=>?_⟩⟩
 unfold oG at e3
 split at e3
 ·next l m =>
  by_cases z:l.length + m.length ≤ 1000000
  ·rw [if_pos z] at e3
   cases e3
   obtain ⟨p,xs,rfl,hx,hr⟩:=vY r1
   obtain ⟨p',ys,rfl,hy,hr'⟩:=vY r2
   refine ⟨p,p',xs,ys,rfl,rfl,s2.seq hx,hy,?_,fun pn hp=>q _ _ ((s1.trans s2).trans (fX hp _)) (Ax (G:=G) (s1.trans s2) hp ((hr.same s2).append hr'))⟩
   rw [hr.length,hr'.length]
   exact bV z (by decide)
  ·rw [if_neg z] at e3
   cases e3
 ·cases e3
theorem RAs.rep {K:PySem.W.Frag} {ok:Ok} {pl:Bool} {H:Hp} {vs:List V} {l:List D} (r:RAs K ok pl H vs l):∀ n:Nat,RAs K ok pl H (bD n vs).flatten (bD n l).flatten
 | 0=>.nil
 | n + 1=>by
  rw [dh,dh,gO,gO]
  exact r.append (RAs.rep r n)
theorem Rj (h1:DE X fl .F a fa) (h2:DE X fl .P b fb):DE X fl .F (.BinOp a .Mult b pos) (dOp Jh fa fb):=PE.imp (Il Q5 h1 h2) fun σ H Q h=>by
 obtain ⟨G,ow,δ,d,R,hf,q⟩:=h
 obtain ⟨x,y,e1,e2,e3⟩:=Ei hf
 refine ⟨G,ow,δ,x,R,e1,fun v H1 s1 r1=>⟨G,ow,δ,y,R.grow s1,e2,fun u H2 s2 r2=>?_⟩⟩
 unfold Jh at e3
 split at e3
 ·next l k =>
  by_cases z:l.length * k.toNat ≤ 1000000∧-(2 ^ 63) ≤ k∧k < 2 ^ 63
  ·rw [if_pos z] at e3
   cases e3
   obtain rfl:=RA.intE r2
   rcases r1 with ⟨hz,_⟩ | ⟨p,xs,ds,rfl,ez,h3,h4,h5⟩
   ·simp [flat] at hz
   ·cases ez
    refine ⟨p,k,xs,rfl,rfl,s2 _ _ h4,z.2.1,z.2.2,?_,fun pn hp=>q _ _ ((s1.trans s2).trans (fX hp _)) (Ax (G:=G) (s1.trans s2) hp (((h5.imp (fun b w=>w.1) (fun z=>z)).same s2).rep _))⟩
    rw [h5.length]
    exact bV z.1 (by decide)
  ·rw [if_neg z] at e3
   cases e3
 ·cases e3
theorem yV {L:List Nat} {p:Pos} (h:DE X fl (.B L) a f) (hg:Gl X "list") (hm:X.mg "list" = none)
 (he:starEach [a] X.env=(false,eval a X.env) :: starEach [] X.env:=by rfl) (hpl:(backTo pos (starEach [] X.env)).any (·.1)=false:=by rfl):DE X fl .F (.Call (.Name "list" p) [a] [] pos) (dUn vO f) :=
 PE.imp (uE yL hg hm boot_list (jW h pq he) (by decide) (by decide) he hpl) fun σ H Q h=>by
 obtain ⟨G,ow,δ,d,R,hf,q⟩:=h
 obtain ⟨x,e1,e2⟩:=bind1 hf
 refine ⟨G,ow,δ,x,R,e1,fun v H1 s1 r1=>?_⟩
 unfold vO at e2
 split at e2
 ·cases e2
  obtain ⟨p,xs,rfl,hx,hr⟩:=vY r1
  exact ⟨p,xs,rfl,.inl hx,fun pn hp=>q _ _ (s1.trans (fX hp _)) (Ax (G:=G) s1 hp hr)⟩
 ·cases e2
  rcases r1 with r1 | ⟨i,hi,a,xs,ds,ho,rfl,e,hx,hr⟩
  ·obtain ⟨p,xs,rfl,hx,hr⟩:=r1.tupE
   exact ⟨p,xs,rfl,.inr hx,fun pn hp=>q _ _ (s1.trans (fX hp _)) (Ax (G:=G) s1 hp hr)⟩
  ·cases e
 ·cases e2
noncomputable def tDO (K:PySem.W.Frag) (fl:List Fl) (f:FO):TO:=fun σ H Q=>∃ G ow δ o,Rel K fl G ow σ H δ∧f δ=some o∧∀ H',Same H H'→Q o H'
theorem PO.imp {o:Option Expr} {t t':TO} (h:PO X o t) (i:∀ σ H Q,t' σ H Q→t σ H Q):PO X o t':=fun pins s σ H Q I q=>h pins s σ H Q I (i σ H Q q)
theorem M5:PO X none (tDO X.K fl Ji):=PO.imp Mf fun σ H Q h=>by
 obtain ⟨G,ow,δ,o,R,hf,q⟩:=h
 cases hf
 exact q H (Same.refl H)
theorem M6 (h:DE X fl .P e f):PO X (some e) (tDO X.K fl (Ef f)):=PO.imp (Mg h) fun σ H Q h=>by
 obtain ⟨G,ow,δ,o,R,hf,q⟩:=h
 obtain ⟨d,e1,e2⟩:=bind1 hf
 split at e2
 ·cases e2
  refine ⟨G,ow,δ,_,R,e1,fun v H1 s1 r1=>?_⟩
  obtain rfl:=RA.intE r1
  exact ⟨_,rfl,q H1 s1⟩
 ·cases e2
theorem Jw (n d:Nat) (o:Option Int):HT.sIx n d o=pSx n d o:=by
 cases o <;> rfl
theorem RAs.cut {K:PySem.W.Frag} {ok:Ok} {pl:Bool} {H:Hp} {vs:List V} {l:List D} (r:RAs K ok pl H vs l) (lo hi:Option Int):RAs K ok pl H (Gz vs lo hi) (cutD l lo hi):=by
 unfold Gz cutD
 rw [r.length,Jw,Jw]
 exact (r.drop _).take _
theorem Vd {L:List Nat} {lo hi:Option Expr} {p2:Pos} {fl1 fh:FO} (h:DE X fl (.B L) a f) (h1:PO X lo (tDO X.K fl fl1)) (h2:PO X hi (tDO X.K fl fh)):DE X fl .F (.Subscript a (.Slice lo hi none p2) pos) (dSl f fl1 fh):=PE.imp (Iv Mi h h1 h2) fun σ H Q h=>by
 obtain ⟨G,ow,δ,d,R,hf,q⟩:=h
 obtain ⟨x,e1,hf⟩:=bind1 hf
 obtain ⟨o1,e2,hf⟩:=bind1 hf
 obtain ⟨o2,e3,e4⟩:=bind1 hf
 refine ⟨G,ow,δ,x,R,e1,fun v H1 s1 r1=>⟨G,ow,δ,o1,R.grow s1,e2,fun H2 s2=>⟨G,ow,δ,o2,R.grow (s1.trans s2),e3,fun H3 s3=>?_⟩⟩⟩
 split at e4
 ·cases e4
  obtain ⟨p,xs,rfl,hx,hr⟩:=vY r1
  have s13:=s2.trans s3
  exact ⟨p,xs,rfl,s13.seq hx,fun pn hp=>q _ _ ((s1.trans s13).trans (fX hp _)) (Ax (G:=G) (s1.trans s13) hp ((hr.same s13).cut o1 o2))⟩
 ·cases e4
theorem qJ {st:Stmt}:DS1 X fl st (fun _=>none):=PS.imp Ie fun Dn σ H h=>by
 obtain ⟨G,ow,δ,o,R,hf,q⟩:=h
 cases hf
end
end D3
namespace D3
open PySem PySem.Spec PyProof.Rows L2 My
section
variable {X:Cx} {pins:List (Addr × Obj)} {σ:St} {H:Hp} {s:Shared} {h':Heap}
theorem Inv.turnedL {t':Nat} {ch:List Addr} (I:Inv X pins σ H s) (k:∀ b o,b ∉ ch→s.heap.get? b=some o→h'.get? b=some o) (hf:∀ b ∈ ch,uz X pins H b):Inv X pins σ H { s with heap:=h',toks:=t' }:=by
 have nit:∀ b u,H b=some u→b ∉ ch:=fun b u e z=>by rw [(hf b z).1] at e;cases e
 refine I.step (g':=s.gens) (d':=s.drawn) (ch:=ch) (fun b hb=>?_) (fun b o _ _ hc e _=>k b o hc e) (fun b o _ _ hc e _=>⟨o.slots,k b o hc e⟩) (fun _ _ _ _ n=>n)
  (fun b o hc e=>⟨o,k b o hc e⟩) (fun _ _ e=>e) (fun _ _ _ e=>e) (fun _ _ _ e=>e) (fun m hm=>?_) (fun b u e=>?_) I.bare
 ·obtain ⟨f0,f1,f2,f3,f4,f5⟩:=hf b hb
  exact ⟨f3,f1,f4,f5⟩
 ·obtain ⟨o,es,ep,ho,r⟩:=hm
  exact ⟨o,es,ep,k _ o (fun z=>(hf _ z).2.1 rfl) ho,r⟩
 ·refine (I.hok b u e).stay (fun c v hc q=>k c v ?_ q) (fun _ q=>q) fun _ _ q=>q
  rcases hc with z | z
  ·rw [z];exact nit b u e
  ·exact nit c _ z
end
noncomputable def Ite (K:PySem.W.Frag) (a:Addr):It :=
 ⟨fun i H=>∃ xs x,SqL K H a xs∧xs[i]? = some x,fun i H x H'=>∃ p y,H p=none∧H'=upd H p (.tup [.int i,y])∧x = .ref p∧∀ xs,SqL K H a xs→xs[i]? = some y,fun i H=>∃ xs,SqL K H a xs∧xs.length ≤ i⟩
theorem GX {P:Program} {w:World} {K:PySem.W.Frag} {elts:List Expr} {x1} {tpos:Pos} (a it:Addr) :
 Turn P w K (.Tuple elts x1 tpos) (Ite K a) [it + 1,it] (it + 1) (fun i h=>∃ old,IsEnum h (it + 1) it (i:Int) old∧h.IsListIter it a i) where
 mem:=by simp
 obj:=fun i h st b hb=>by
  obtain ⟨old,he,o,e,c,d⟩:=st
  rcases aR.mp hb with z | z
  ·subst z
   exact ⟨_,he,fun v z=>by cases z⟩
  ·have z:b=it:=by simpa using z
   subst z
   exact ⟨o,e,fun v z=>by rw [d] at z;cases z⟩
 keep:=fun i h h' st k=>by
  obtain ⟨old,he,hi⟩:=st
  exact ⟨old,k _ (by simp) _ he,hi.at fun o e=>k it (by simp) o e⟩
 item:=by
  intro X hP hw hK hc i pins s σ H E I hf st hg
  subst hP hw hK
  obtain ⟨xs,x,hq,hx⟩:=hg
  obtain ⟨its,rv,p,hz⟩:=I.list hq
  obtain ⟨u,hu,ru⟩:=rv.get hx
  obtain ⟨old,he,hi⟩:=st
  have fe:=hf (it + 1) (by simp)
  have fi:=hf it (by simp)
  have hlt:it + 1 < s.heap.objs.size:=Heap.lt_size he
  refine wpAny_pyNext_enum_item he hi p.isList (x:=u) (by simpa using hu) (Nat.succ_ne_self it) fun h1 ho hi1 ht hsz hk=>?_
  refine ⟨_,rfl,wpAny_letOwnedTupleGo_enum ho fun h2 he2 hs2=>?_⟩
  replace hs2:Heap.SameBut (it + 1) h1 h2:=hs2
  have hn:H s.heap.objs.size=none:=I.hok.fresh (aQ _)
  have I0:Inv X pins σ (upd H s.heap.objs.size (.tup [.int (i:Int),x])) { s with heap:=s.heap.push { cls:=.type "tuple", data:=.seq #[.int (i:Int) s.toks,u] } } :=
   I.laid (t':=s.toks) (fun b o e=>Heap.get?_push_of_some _ e) (aQ _) ⟨show 2 ≤ sizeLine by decide,[.int (i:Int) s.toks,u],.cons ⟨_,rfl⟩ (.cons ru .nil),⟨_,Heap.get?_push_size _ rfl,rfl,_,rfl⟩⟩
  have ne:∀ b,b ∈ [it + 1,it]→b ≠ s.heap.objs.size:=fun b hb=>by
   rcases aR.mp hb with w' | w'
   ·rw [w'];exact bN hlt
   ·rw [show b=it by simpa using w'];exact bN (iG hlt)
  have I1:Inv X pins σ (upd H s.heap.objs.size (.tup [.int (i:Int),x])) { s with heap:=h2,toks:=s.toks + 1 }:=by
   refine Inv.turnedL (s:={ s with heap:=s.heap.push { cls:=.type "tuple", data:=.seq #[.int (i:Int) s.toks,u] } }) (ch:=[it + 1,it]) I0 (fun b o hb e=>?_) fun b hb=>⟨by rw [dU (ne b hb)];exact (hf b hb).1,(hf b hb).2⟩
   have b1:b ≠ it + 1:=fun z=>hb (by simp [z])
   have b2:b ≠ it:=fun z=>hb (by simp [z])
   rcases Heap.get?_push_cases e with ⟨e1,e2⟩ | e1
   ·subst e1 e2
    exact (hs2.2 _ b1).trans ht
   ·exact (hs2.2 _ b1).trans (hk b o b1 b2 e1)
  refine ⟨.ref s.heap.objs.size,_,I1,rfl,⟨_,x,hn,rfl,rfl,fun ys hy=>by rw [I.list_inj hy hq];exact hx⟩,⟨_,he2,hi1.at fun o e=>(hs2.2 _ (bN (lF it))).trans e⟩,fun b hb=>?_⟩
  rw [dU (ne b hb)]
  exact (hf b hb).1
 done:=by
  intro X hP hw hK hc i pins s σ H E I hf st hg
  subst hP hw hK
  obtain ⟨xs,hq,hx⟩:=hg
  obtain ⟨its,rv,p,hz⟩:=I.list hq
  obtain ⟨old,he,hi⟩:=st
  have hl:=rv.length
  refine wpAny_pyNext_enum_end (I.ok.hd hc) he hi p.isList (by simp;omega) fun h' eb=>⟨rfl,Inv.turnedL (t':=s.toks) (ch:=[it + 1,it]) I (fun b o hb e=>eb b o (fun z=>hb (by simp [z])) e) hf⟩
 self:=fun _ _ _ _ _ st h=>by
  obtain ⟨old,he,_⟩:=st
  exact wpAny_pyIter_enum he h
section
variable {X:Cx} {fl:List Fl} {a:Expr} {f:FE} {pos:Pos}
noncomputable def Ve (K:PySem.W.Frag) (tl:TE):TI:=fun σ H R=>tl σ H fun x H1=>∃ a,x = .ref a∧(∃ xs,SqL K H1 a xs)∧R (Ite K a) H1
theorem M7 {elts:List Expr} {x1} {tpos p:Pos} {tl:TE} (hg:Gl X "enumerate") (hm:X.mg "enumerate" = none) (hl:PE X a tl) (he:starEach [a] X.env=(false,eval a X.env) :: starEach [] X.env:=by rfl)
 (hpl:(backTo pos (starEach [] X.env)).any (·.1)=false:=by rfl):PI X (.Tuple elts x1 tpos) (.Call (.Name "enumerate" p) [a] [] pos) (Ve X.K tl):=by
 intro pins s σ H R I h
 refine wpAny_Call_Name_kw (qb I hg hm boot_enumerate (PyProof.Rows.callWith_type1 (thn ((jW hl pq he) pos pins s σ H (fun vs H1=>match vs with | [x]=>∃ a,x = .ref a∧(∃ xs,SqL X.K H1 a xs)∧R (Ite X.K a) H1 | _=>False) I h) fun us s1 ⟨vs,H1,I1,r1,q1⟩=>?_) he hpl))
 cases r1 with
 | nil=>exact q1.elim
 | cons r rr =>
  cases rr with
  | cons _ _=>exact q1.elim
  | nil =>
  obtain ⟨l,e,⟨xs,hq⟩,q⟩:=q1
  subst e
  cases r
  obtain ⟨its,rv,pl,hz⟩:=I1.list hq
  refine call_enumerate_list pl.isList fun h' he' hi' hsz hk=>?_
  have I2:Inv X pins σ H1 { s1 with heap:=h' }:=I1.kept (t':=s1.toks) hk
  refine wpAny_pyIter_enum (s:={ s1 with heap:=h' }) he' ?_
  refine ⟨s1.heap.objs.size + 1,[s1.heap.objs.size + 1,s1.heap.objs.size],_,_,H1,rfl,I2,GX l s1.heap.objs.size,⟨_,he',hi'⟩,fun b hb=>?_,q⟩
  have hb':s1.heap.objs.size ≤ b:=by
   rcases aR.mp hb with z | z
   ·rw [z];exact pR _
   ·rw [show b=s1.heap.objs.size by simpa using z];exact aQ _
  exact I1.fpOk hb' (I1.hok.fresh hb')
theorem Eo {elts:List Expr} {x1} {tpos p:Pos} {L:List Nat} (h:DE X fl (.B L) a f) (hg:Gl X "enumerate") (hm:X.mg "enumerate" = none) (he:starEach [a] X.env=(false,eval a X.env) :: starEach [] X.env:=by rfl)
 (hpl:(backTo pos (starEach [] X.env)).any (·.1)=false:=by rfl):DI X fl L (.Tuple elts x1 tpos) (.Call (.Name "enumerate" p) [a] [] pos) (Av f):=PI.imp (M7 hg hm h he hpl) fun σ H R' h=>by
 obtain ⟨G,ow,δ,l,R,hf,q⟩:=h
 obtain ⟨d,e1,e2⟩:=bind1 hf
 cases d <;> first | (cases e2;done) | skip
 next l0 =>
 cases e2
 refine ⟨G,ow,δ,_,R,e1,fun v H1 s r=>?_⟩
 obtain ⟨a,xs,rfl,hx,keep⟩:=vX (R.grow s) r
 refine ⟨a,rfl,⟨xs,hx⟩,q _ _ s fun H2 k2 i=>?_⟩
 obtain ⟨k3,k4⟩:=keep H2 k2
 refine ⟨fun d hd=>?_,fun hl=>⟨xs,k3,by rw [k4.length];simpa [qj] using hl⟩⟩
 have hd':(l0[i]?).map (fun x=>PyData.tuple [.int (i:Int),x])=some d:=by
  have:=hd
  unfold qj at this
  rw [mj] at this
  exact this
 cases e:l0[i]? with
 | none=>rw [e] at hd';cases hd'
 | some x0 =>
  rw [e] at hd'
  cases hd'
  obtain ⟨y,hy,ry⟩:=k4.get e
  refine ⟨⟨xs,y,k3,hy⟩,fun x H3 hyl=>?_⟩
  obtain ⟨p,y',hp,rfl,rfl,hz⟩:=hyl
  have:some y=some y':=hy.symm.trans (hz xs k3)
  cases this
  have g:=fX hp (.tup [.int (i:Int),y])
  exact ⟨g,.tup fG (.cons (.int _) (.cons (ry.same g) .nil))⟩
end
structure Bl (mg:Str→Option Value):Prop where
 len_:mg "len" = none
 range_:mg "range" = none
 abs_:mg "abs" = none
 isinstance_:mg "isinstance" = none
 int_:mg "int" = none
 bool_:mg "bool" = none
 tuple_:mg "tuple" = none
 list_:mg "list" = none
 str_:mg "str" = none
 max_:mg "max" = none
 min_:mg "min" = none
 sorted_:mg "sorted" = none
 sum_:mg "sum" = none
 reversed_:mg "reversed" = none
 enumerate_:mg "enumerate" = none
 zip_:mg "zip" = none
 set_:mg "set" = none
 any_:mg "any" = none
 all_:mg "all" = none
 dict_:mg "dict" = none
end D3
namespace D3
open PySem PySem.Spec PyProof.Rows L2 My
structure FunD (K:PySem.W.Frag) (x:Str) (st:Stmt) (f:Addr) (fd:FuncData):Prop where
 ex:∃ (oc:Value) (od:Option Addr) (dV kV doc pm:Value) (an:Option Addr) (cdv ct:Value) (osl:Array (Option Value)),
  fd=PySem.W.fnOf x x (nQ st) (jM st) (bG st) dV kV doc pm an cdv ct∧K.lookup f=some ⟨oc,od,.func fd,osl⟩∧PySem.W.codeIn K cdv x=true
 kp:PySem.W.keepIn K (.ref f)=true
structure Dg (K:PySem.W.Frag) (mg:Str→Option Value) (x:Str) (st:Stmt) (ps:List Str):Prop where
 ex:∃ (f:Addr) (fd:FuncData),FunD K x st f fd∧Binds K fd ps []∧mg x=some (.ref f)
theorem Rk {K:PySem.W.Frag} {h:Heap} {mg:Str→Option Value} {f T:Addr} {oc kV dc pm cd ct:Value} {od an:Option Addr} {sl:Array (Option Value)} {x:Str} {st:Stmt} {ps:List Str} {o:Obj} {items:Array Value} {n:Nat} (X:K.In h) (G:h.Ns mainGlobals mg)
 (hb:∀ (kV doc pm:Value) (an:Option Addr) (cdv ct:Value) (us:List Value),us.length=ps.length→∃ k,bindArgs (PySem.W.fnOf x x (nQ st) (jM st) (bG st) (.ref T) kV doc pm an cdv ct) ⟨us,[]⟩=(seqItems? (.ref T) >>= k)∧k (some items)=pure (ps.zip us))
 (a:PySem.W.nsIn K mainGlobals x=some (some (.ref f))) (l:K.lookup f=some ⟨oc,od,.func (PySem.W.fnOf x x (nQ st) (jM st) (bG st) (.ref T) kV dc pm an cd ct),sl⟩) (c:PySem.W.codeIn K cd x=true) (k:PySem.W.keepIn K (.ref f)=true)
 (hT:K.lookup T=some o) (hs:o.data = .seq items n):Dg K mg x st ps :=
 ⟨_,_,⟨⟨oc,od,.ref T,kV,dc,pm,an,cd,ct,sl,rfl,l,c⟩,k⟩,fun s us KX hl=>by
  rw [cR] at hl ⊢
  obtain ⟨k,h1,h2⟩:=hb kV dc pm an cd ct us hl
  exact BindsTo.of_defaults (T:=T) rfl (KX T o hT) hs h1 h2,PySem.W.mg_of X G a⟩
theorem fZ {K:PySem.W.Frag} {h:Heap} {mg:Str→Option Value} {f:Addr} {oc kV dc pm cd ct:Value} {od an:Option Addr} {sl:Array (Option Value)} {x:Str} {st:Stmt} {ps:List Str} (X:K.In h) (G:h.Ns mainGlobals mg)
 (hb:∀ (kV doc pm:Value) (an:Option Addr) (cdv ct:Value) (us:List Value),us.length=ps.length→bindArgs (PySem.W.fnOf x x (nQ st) (jM st) (bG st) .none kV doc pm an cdv ct) ⟨us,[]⟩=pure (ps.zip us))
 (a:PySem.W.nsIn K mainGlobals x=some (some (.ref f))) (l:K.lookup f=some ⟨oc,od,.func (PySem.W.fnOf x x (nQ st) (jM st) (bG st) .none kV dc pm an cd ct),sl⟩) (c:PySem.W.codeIn K cd x=true) (k:PySem.W.keepIn K (.ref f)=true):Dg K mg x st ps :=
 ⟨_,_,⟨⟨oc,od,.none,kV,dc,pm,an,cd,ct,sl,rfl,l,c⟩,k⟩,.all (hb kV dc pm an cd ct),PySem.W.mg_of X G a⟩
structure Dl (K:PySem.W.Frag) (mg:Str→Option Value) (x y:Str) (st:Stmt):Prop where
 ex:∃ (f:Addr) (fd:FuncData),FunD K x st f fd∧(∀ (s:Shared) (u:Value),BindsTo s fd ⟨[u],[]⟩ [(y,u)])∧mg x=some (.ref f)
theorem Vf {K:PySem.W.Frag} {h:Heap} {mg:Str→Option Value} {f:Addr} {oc kV dc pm cd ct:Value} {od an:Option Addr} {sl:Array (Option Value)} {x y:Str} {st:Stmt} (X:K.In h) (G:h.Ns mainGlobals mg)
 (hb:∀ (kV doc pm:Value) (an:Option Addr) (cdv ct:Value) (u:Value),bindArgs (PySem.W.fnOf x x (nQ st) (jM st) (bG st) .none kV doc pm an cdv ct) ⟨[u],[]⟩=pure [(y,u)])
 (a:PySem.W.nsIn K mainGlobals x=some (some (.ref f))) (l:K.lookup f=some ⟨oc,od,.func (PySem.W.fnOf x x (nQ st) (jM st) (bG st) .none kV dc pm an cd ct),sl⟩) (c:PySem.W.codeIn K cd x=true) (k:PySem.W.keepIn K (.ref f)=true):Dl K mg x y st :=
 ⟨_,_,⟨⟨oc,od,.none,kV,dc,pm,an,cd,ct,sl,rfl,l,c⟩,k⟩,fun s u=>.of_eq (hb kV dc pm an cd ct u),PySem.W.mg_of X G a⟩
section
variable {P:Program} {w:World} {K:PySem.W.Frag} {mg:Str→Option Value} {base:Heap} {x:Str} {ps N:List Str} {st:Stmt} {k n:Nat} {fs:FS} {fl:List Fl}
theorem FunD.ok {f:Addr} {fd:FuncData} {sp:Sp} (F:FunD K x st f fd) (S:FnScope N ps (bG st)) (len:∀ vs H Q E,sp vs H Q E→vs.length=ps.length)
 (hbody:∀ (cdv:Value) (A:Around) (outer:List Env) (s:Shared) (H:Hp) (vs:List V) (Q:VK) (E:XK),Room k (A.deeper (envOfC x (bG st) s.heap.objs.size f cdv))→sp vs H Q E →
  ∃ t,PSs (Ck CX0 P w K mg base N x (bG st) f cdv A outer s H E).nox (jM st) t∧t { nx:=fun _ H'=>Q .non H',rt:=Q } (L2.start N vs) H):FnOk P w K mg base CX0 (k + 1) f fd ps sp:=by
 obtain ⟨oc,od,dV,kV,doc,pm,an,cdv,ct,osl,rfl,lk,hcd⟩:=F.ex
 refine Uz lk hcd S len fun A outer s H vs Q E hr hsp=>?_
 obtain ⟨t,h,q⟩:=hbody cdv A outer s H vs Q E hr hsp
 exact ⟨t,h.nox,q⟩
theorem Jx {f:Addr} {fd:FuncData} (Fn:FunD K x st f fd) (S:FnScope N ps (bG st)) (hp:∀ i,i < ps.length→fl[i]? = some .A) (hN:ps.length ≤ N.length)
 (hbody:∀ (f:Addr) (cdv:Value) (A:Around) (outer:List Env) (s:Shared) (H:Hp) (E:XK),Room k (A.deeper (envOfC x (bG st) s.heap.objs.size f cdv))→DSs (cx P w K mg base N x st f cdv A outer s H E) fl (jM st) fs) :
 FnOk P w K mg base CX0 (k + 1) f fd ps (spD K (fnD ps.length (N.length - ps.length) fs)):=by
 refine Fn.ok S (fun vs H Q E h=>?_) (fun cdv A outer s H vs Q E hr h=>?_)
 ·obtain ⟨ds,d,r,hf,_⟩:=h
  unfold fnD at hf
  by_cases z:ds.length=ps.length
  ·rw [r.2.length];exact z
  ·rw [if_neg z] at hf;cases hf
 ·obtain ⟨ds,d,r,hf,q⟩:=h
  refine ⟨_,hbody f cdv A outer s H E hr,?_⟩
  unfold fnD at hf
  by_cases z:ds.length=ps.length
  ·rw [if_pos z] at hf
   split at hf
   ·next d' e =>
    cases hf
    exact ⟨_,_,_,_,oW ps.length hp z hN r,e,fun v H' s r=>q v H' s r⟩
   ·next δ' e =>
    cases hf
    exact ⟨_,_,_,_,oW ps.length hp z hN r,e,fun ow' σ' H' R'=>q .non H' R'.same0 .non⟩
   ·cases hf
  ·rw [if_neg z] at hf;cases hf
theorem f9 (Dd:Dg K mg x st ps) (S:FnScope N ps (bG st)) (hp:∀ i,i < ps.length→fl[i]? = some .A) (hN:ps.length ≤ N.length)
 (hbody:∀ (f:Addr) (cdv:Value) (A:Around) (outer:List Env) (s:Shared) (H:Hp) (E:XK),Room k (A.deeper (envOfC x (bG st) s.heap.objs.size f cdv))→DSs (cx P w K mg base N x st f cdv A outer s H E) fl (jM st) fs) :
 Has P w K mg base (k + 1) x ps (spD K (fnD ps.length (N.length - ps.length) fs)):=by
 obtain ⟨f,fd,Fn,b,m⟩:=Dd.ex
 exact ⟨f,fd,Jx Fn S hp hN hbody,b,Fn.kp,m⟩
end
noncomputable def Jy (K:PySem.W.Frag):Sp:=fun vs H Q _=>∃ (a:Addr) (ns:List Int),Tb H∧vs=[.ref a]∧SqL K H a (ns.map V.int)∧ns.length ≤ 63∧∀ H',Q (.bl true) H'
theorem pG {K:PySem.W.Frag} {ok:Ok} {pl:Bool} {H:Hp}:∀ ns:List Int,RAs K ok pl H (ns.map V.int) (ns.map PyData.int)
 | []=>.nil
 | n :: r=>.cons (.int n) (pG r)
theorem M8 {K:PySem.W.Frag} {F:List D→Option D} (hF:∀ ns:List Int,ns.length ≤ 63→F [.list (ns.map .int)]=some (.bool true)) (vs:List V) (H:Hp) (Q:VK) (E:XK) (h:Jy K vs H Q E):spD K F vs H Q E:=by
 obtain ⟨a,ns,tb,rfl,hS,hl,q⟩:=h
 refine ⟨_,_,⟨tb,.cons ?_ .nil⟩,hF ns hl,fun v H' s r=>?_⟩
 ·rcases hS with (h | ⟨o,h⟩) | h
  ·exact .lst h trivial (pG ns)
  ·exact .lsk (.inl ⟨o,h⟩) rfl (pG ns)
  ·exact .lsk (.inr h) rfl (pG ns)
 ·obtain rfl:=r.blE
  exact q H'
end D3
namespace D3
open PySem PySem.Spec PyProof.Rows L2 My
section
variable {prog:Program} {w:World} {A:Around} {E:Value→Shared→Prop} {s:Shared}
end
section
variable {X:Cx} {fl:List Fl} {a:Expr} {f:FE} {pos p p2 pos2:Pos}
end
section
variable {X:Cx} {fl:List Fl} {a b:Expr} {pos p p2 pos2:Pos} {fa:FA}
end
end D3
namespace D3
open PySem PySem.Spec PyProof.Rows L2 My
section
variable {X:Cx}
theorem qQ:∀ {ns:List Int} {its:List Value},Vals (ns.map V.int) its→IntsAre its ns
 | [],_,.nil=>.nil
 | n :: r,_,.cons h t=>by
  obtain ⟨k,rfl⟩:=h
  exact .cons _ _ (qQ t)
theorem oX {K:PySem.W.Frag} {ok:Ok} {pl:Bool} {H:Hp}:∀ {l:List D} {ns:List Int} {ys:List V},mD l=some ns→RAs K ok pl H ys l→ys=ns.map V.int
 | [],_,_,e,.nil=>by cases e;rfl
 | d :: r,ns,_,e,.cons h t=>by
  cases d <;> first | (cases e;done) | skip
  obtain rfl:=h.intE
  cases e2:mD r with
  | none=>rw [mD,e2] at e;cases e
  | some m =>
   rw [mD,e2] at e
   cases e
   rw [oX e2 t]
   rfl
theorem PL {K:PySem.W.Frag}:BrC K (fun xs H Q=>∃ (p:Addr) (ns:List Int),xs=[.ref p]∧SqL K H p (ns.map V.int)∧Q (.int ns.sum) H) U8:=by
 intro H xs ds d Q r e q
 unfold U8 at e
 split at e
 ·next l =>
  cases e2:mD l with
  | none=>rw [e2] at e;cases e
  | some ns =>
   rw [e2] at e
   cases e
   cases r with
   | cons r1 r2 =>
    cases r2
    obtain ⟨a,ys,rfl,hx,hr⟩:=r1.lstE
    obtain rfl:=oX e2 hr
    exact ⟨a,ns,rfl,hx,q _ rfl (.int _)⟩
 ·cases e
theorem GZ (hc:X.calm=true):nq X (.builtin "max") (fun xs H Q=>∃ (p:Addr) (i:Int) (r:List Int),xs=[.ref p]∧SqL X.K H p ((i :: r).map V.int)∧Q (.int (mxI i r)) H):=by
 intro pins s σ H xs us Q I r h
 obtain ⟨p,i,r0,rfl,hx,q⟩:=h
 obtain ⟨u,rfl,rx⟩:=vals1 r
 cases rx
 obtain ⟨its,rvs,pl,hz⟩:=I.list hx
 have hi:=qQ rvs
 obtain ⟨xs,e⟩:=hi.allInts.items
 have hns:i :: r0=xs.toList.map (·.1):=by rw [← hi.numsOf,← nums_intItems,← e]
 have hsz:0 < xs.size:=by
  have h3:0 < (i :: r0).length:=by simp
  rw [hns,aH,aJ] at h3;exact h3
 have hl:s.heap.IsList p (intItems xs):=e ▸ pl.isList
 refine max_intList (I.ok.hd hc) hl hsz fun v h' tk hv hk=>?_
 obtain ⟨t,rfl⟩:=intItems_at hv
 obtain ⟨h1,h2⟩:=argBest_gt (numAt xs) (xs.size - 1)
 have m1:numAt xs (argBest (fun i j=>decide (numAt xs i > numAt xs j)) (xs.size - 1)) ∈ i :: r0:=by
  rw [hns,numAt_eq];exact getD_mem (by rw [aH,aJ];omega)
 have m2:∀ a ∈ i :: r0,a ≤ numAt xs (argBest (fun i j=>decide (numAt xs i > numAt xs j)) (xs.size - 1)):=fun a ha=>by
  rw [hns] at ha
  obtain ⟨j,hj,rfl⟩:=mem_getD ha
  rw [aH,aJ] at hj
  rw [← numAt_eq];exact h2 j (by omega)
 have sp:=vR r0 i
 have eq:numAt xs (argBest (fun i j=>decide (numAt xs i > numAt xs j)) (xs.size - 1))=mxI i r0:=pK (sp.2 _ m1) (m2 _ sp.1)
 rw [eq]
 exact ⟨.int _,H,I.kept hk,⟨_,rfl⟩,q⟩
theorem Rm {K:PySem.W.Frag}:BrC K (fun xs H Q=>∃ (p:Addr) (i:Int) (r:List Int),xs=[.ref p]∧SqL K H p ((i :: r).map V.int)∧Q (.int (mxI i r)) H) Ed:=by
 intro H xs ds d Q r e q
 unfold Ed at e
 split at e
 ·next l =>
  split at e
  ·next i r0 e2 =>
   cases e
   cases r with
   | cons r1 r2 =>
    cases r2
    obtain ⟨a,ys,rfl,hx,hr⟩:=r1.lstE
    obtain rfl:=oX e2 hr
    exact ⟨a,i,r0,rfl,hx,q _ rfl (.int _)⟩
  ·cases e
 ·cases e
theorem rC:∀ {l m:List Int},l.Perm m→l.Pairwise (· ≤ ·)→m.Pairwise (· ≤ ·)→l=m
 | [],m,p,_,_=>p.nil_eq
 | a :: l,m,p,h1,h2=>by
  cases m with
  | nil=>exact absurd p.length_eq (by simp)
  | cons b m =>
   obtain ⟨a1,a2⟩:=cO.mp h1
   obtain ⟨b1,b2⟩:=cO.mp h2
   have e:a=b:=by
    have x1:a ∈ b :: m:=p.mem_iff.mp aP
    have x2:b ∈ a :: l:=p.mem_iff.mpr aP
    rcases aR.mp x1 with z | z
    ·exact z
    ·rcases aR.mp x2 with y | y
     ·exact y.symm
     ·exact pK (a1 b y) (b1 a z)
   subst e
   rw [rC (List.Perm.cons_inv p) a2 b2]
theorem lH:∀ {ns:List Int} {its:List Value},IntsAre its ns→Vals (ns.map V.int) its
 | _,_,.nil=>.nil
 | _,_,.cons n t r=>.cons ⟨t,rfl⟩ (lH r)
theorem yW:nq X (.builtin "sorted") (fun xs H Q=>∃ (p:Addr) (ns:List Int),xs=[.ref p]∧SqL X.K H p (ns.map V.int)∧ns.length < 64∧∀ l,H l=none→Q (.ref l) (upd H l (.lst ((j5 ns).map V.int)))):=by
 intro pins s σ H xs us Q I r h
 obtain ⟨p,ns,rfl,hx,h64,q⟩:=h
 obtain ⟨u,rfl,rx⟩:=vals1 r
 cases rx
 obtain ⟨its,rvs,pl,hz⟩:=I.list hx
 have hi:=qQ rvs
 refine sorted_ints pl.isList hi (by rw [hi.length];exact h64) fun out ns' a1 a2 a3=>?_
 obtain rfl:=rC (a2.trans (iu ns).symm) a3 (nU ns)
 obtain ⟨e,he⟩:=sortedAll_at s.heap its out
 have hn:H (s.heap.objs.size + 1)=none:=I.hok.fresh (pR _)
 have ll:(j5 ns).length=ns.length:=(iu ns).length_eq
 have I2:=I.laid (h':=sortedAll s.heap its out) (t':=s.toks) (a:=s.heap.objs.size + 1) (o:=.lst ((j5 ns).map V.int)) (fun b u e=>sortedAll_old e) (pR _)
  ⟨by rw [aH,ll];exact bV (eY h64) (by decide),out.toList,e,lH a1,by simpa [seqObj] using he⟩
 exact ⟨.ref _,_,I2,rfl,q _ hn⟩
theorem uI {fl:List Fl} {e:Expr} {fa:FA} {p pos:Pos} (ha:DB X fl .P [e] fa) (hg:Gl X "sorted") (hm:X.mg "sorted" = none)
 (he:starEach [e] X.env=(false,eval e X.env) :: starEach [] X.env:=by rfl) (hpl:(backTo pos (starEach [] X.env)).any (·.1)=false:=by rfl):DE X fl .FC (.Call (.Name "sorted" p) [e] [] pos) (dCall qg fa) :=
 PE.imp (tL yW hg hm (show bootBuiltins "sorted" = some (.builtin "sorted") by decide +kernel) ha (by decide) (by decide) he hpl) fun σ H Q h=>by
 obtain ⟨G,ow,δ,d,R,hf,q⟩:=h
 obtain ⟨ds,e1,e2⟩:=bind1 hf
 refine ⟨G,ow,δ,ds,R,e1,fun vs H' s r'=>?_⟩
 unfold qg at e2
 split at e2
 ·next l =>
  cases e3:mD l with
  | none=>rw [e3] at e2;cases e2
  | some ns =>
   rw [e3,aK] at e2
   by_cases h64:ns.length < 64
   ·rw [if_pos h64] at e2
    cases e2
    cases r' with
    | cons r1 r2 =>
     cases r2
     obtain ⟨a,ys,rfl,hx,hr⟩:=r1.lstE
     obtain rfl:=oX e3 hr
     exact ⟨a,ns,rfl,hx,h64,fun l hn=>q _ _ (s.trans (fX hn _)) (.inr ⟨_,_,_,rfl,rfl,s.free hn,fG,pG _⟩)⟩
   ·rw [if_neg h64] at e2;cases e2
 ·cases e2
end
end D3
namespace D3
open PySem PySem.Spec PyProof.Rows L2 My
noncomputable def gK (n:Nat) (us ws:List α):List α:=if ws.length=n then us++ws else []
structure HasD (P:Program) (w:World) (K:PySem.W.Frag) (mg:Str→Option Value) (base:Heap) (n:Nat) (x:Str) (ps:List Str) (sp:Sp) (dvs:List V) (ks:List Str):Prop where
 ex:∃ (f:Addr) (fd:FuncData) (ds:List Value),FnOk P w K mg base CX0 n f fd ps sp∧Binds K fd ps ds∧Vals dvs ds∧KBinds K fd ps ks (gK ks.length) (gK ks.length)∧PySem.W.keepIn K (.ref f)=true∧mg x=some (.ref f)
structure DgD (K:PySem.W.Frag) (mg:Str→Option Value) (x:Str) (st:Stmt) (ps:List Str) (dvs:List V) (ks:List Str):Prop where
 ex:∃ (f:Addr) (fd:FuncData) (ds:List Value),FunD K x st f fd∧Binds K fd ps ds∧Vals dvs ds∧KBinds K fd ps ks (gK ks.length) (gK ks.length)∧mg x=some (.ref f)
section
variable {P:Program} {w:World} {K:PySem.W.Frag} {mg:Str→Option Value} {base:Heap} {x:Str} {ps N ks:List Str} {st:Stmt} {k n:Nat} {fs:FS} {fl:List Fl} {dvs:List V}
end
section
variable {X:Cx} {fl:List Fl} {e ke:Expr} {es:List Expr} {pos p kpos:Pos} {x kn:Str} {ps:List Str} {n:Nat} {F:List D→Option D} {fa:FA} {fk:FE} {i:Int} {dvs:List V}
theorem Rn {K:PySem.W.Frag}:BrC K (fun xs H Q=>(∃ i,xs=[.int i]∧Q (.int i) H)∨∃ k,xs=[.bl k]∧Q (.int (if k then 1 else 0)) H) Cv:=by
 intro H xs ds d Q r e q
 unfold Cv at e
 split at e
 ·cases e
  cases r with
  | cons r1 r2 =>
   cases r2
   obtain rfl:=r1.intE
   exact .inl ⟨_,rfl,q _ rfl (.int _)⟩
 ·cases e
  cases r with
  | cons r1 r2 =>
   cases r2
   obtain rfl:=r1.blE
   exact .inr ⟨_,rfl,q _ rfl (.int _)⟩
 ·cases e
theorem yX {j pos'} {a:Expr} {f:FE} (h:DE X fl .P a f):DT X fl (.Compare a [.Is] [.Constant .none j pos'] pos) (bI (dUn uF f)):=PT.imp (HY (HX h)) fun σ H Q h=>by
 obtain ⟨G,ow,δ,c,R,hf,q⟩:=h
 obtain ⟨d,e1,e2⟩:=bind1 hf
 obtain ⟨x,e3,e4⟩:=bind1 e1
 cases e4
 cases e2
 refine ⟨G,ow,δ,x,R,e3,fun v H1 s1 r1=>?_⟩
 refine ⟨decide (v = .non),rfl,?_⟩
 rw [CP (RA.same (Same.refl H1) r1)]
 exact q H1 s1
theorem Ep {p:Pos} (ha:DB X fl .P [e] fa) (hg:Gl X "int") (hm:X.mg "int" = none)
 (he:starEach [e] X.env=(false,eval e X.env) :: starEach [] X.env:=by rfl) (hpl:(backTo pos (starEach [] X.env)).any (·.1)=false:=by rfl):DE X fl .FC (.Call (.Name "int" p) [e] [] pos) (dCall Cv fa) :=
 PE.imp (uE Gw hg hm boot_int ha (by decide) (by decide) he hpl) fun σ H Q h=>by
 obtain ⟨G,ow,δ,d,R,hf,q⟩:=h
 obtain ⟨ds,e1,e2⟩:=bind1 hf
 exact ⟨G,ow,δ,ds,R,e1,fun vs H' s r'=>Rn H' vs ds d Q r' e2 fun v hv rv=>q v H' s (.inl ⟨hv,rv⟩)⟩
end
end D3
namespace D3
open PySem PySem.Spec PyProof.Rows L2 My
section
variable {X:Cx}
theorem G3 (hc:X.calm=true):nq X (.builtin "min") (fun xs H Q=>∃ (p:Addr) (i:Int) (r:List Int),xs=[.ref p]∧SqL X.K H p ((i :: r).map V.int)∧Q (.int (mnI i r)) H):=by
 intro pins s σ H xs us Q I r h
 obtain ⟨p,i,r0,rfl,hx,q⟩:=h
 obtain ⟨u,rfl,rx⟩:=vals1 r
 cases rx
 obtain ⟨its,rvs,pl,hz⟩:=I.list hx
 have hi:=qQ rvs
 obtain ⟨xs,e⟩:=hi.allInts.items
 have hns:i :: r0=xs.toList.map (·.1):=by rw [← hi.numsOf,← nums_intItems,← e]
 have hsz:0 < xs.size:=by
  have h3:0 < (i :: r0).length:=by simp
  rw [hns,aH,aJ] at h3;exact h3
 have hl:s.heap.IsList p (intItems xs):=e ▸ pl.isList
 refine min_intList (I.ok.hd hc) hl hsz fun v h' tk hv hk=>?_
 obtain ⟨t,rfl⟩:=intItems_at hv
 obtain ⟨h1,h2⟩:=argBest_lt (numAt xs) (xs.size - 1)
 have m1:numAt xs (argBest (fun i j=>decide (numAt xs i < numAt xs j)) (xs.size - 1)) ∈ i :: r0:=by
  rw [hns,numAt_eq];exact getD_mem (by rw [aH,aJ];omega)
 have m2:∀ a ∈ i :: r0,numAt xs (argBest (fun i j=>decide (numAt xs i < numAt xs j)) (xs.size - 1)) ≤ a:=fun a ha=>by
  rw [hns] at ha
  obtain ⟨j,hj,rfl⟩:=mem_getD ha
  rw [aH,aJ] at hj
  rw [← numAt_eq];exact h2 j (by omega)
 have sp:=vQ r0 i
 have eq:numAt xs (argBest (fun i j=>decide (numAt xs i < numAt xs j)) (xs.size - 1))=mnI i r0:=pK (m2 _ sp.1) (sp.2 _ m1)
 rw [eq]
 exact ⟨.int _,H,I.kept hk,⟨_,rfl⟩,q⟩
theorem Ro {K:PySem.W.Frag}:BrC K (fun xs H Q=>∃ (p:Addr) (i:Int) (r:List Int),xs=[.ref p]∧SqL K H p ((i :: r).map V.int)∧Q (.int (mnI i r)) H) Eh:=by
 intro H xs ds d Q r e q
 unfold Eh at e
 split at e
 ·next l =>
  split at e
  ·next i r0 e2 =>
   cases e
   cases r with
   | cons r1 r2 =>
    cases r2
    obtain ⟨a,ys,rfl,hx,hr⟩:=r1.lstE
    obtain rfl:=oX e2 hr
    exact ⟨a,i,r0,rfl,hx,q _ rfl (.int _)⟩
  ·cases e
 ·cases e
theorem Ay:∀ {bs:List Bool} {its:List Value},Vals (bs.map V.bl) its→its=bs.map Value.bool
 | [],_,.nil=>rfl
 | b :: r,_,.cons h t=>by
  cases h
  rw [Ay t]
  rfl
theorem all_range (bs:List Bool):(aX bs.length).all (fun i=>bs.getD i false)=bs.all id:=by
 rw [pL,fD,fD]
 constructor
 ·intro h b hb
  obtain ⟨i,hi,rfl⟩:=cH hb
  have:=h i (bO.mpr hi)
  rw [bQ,aN hi] at this
  exact this
 ·intro h i hi
  have hi:=bO.mp hi
  rw [bQ,aN hi]
  exact h _ (dZ hi)
theorem Az {prog:Program} {w:World} {A:Around} (bs:List Bool):TruthOf prog w A (fun i v=>(bs.map Value.bool).toArray[i]? = some v) (fun i=>bs.getD i false):=by
 intro i v s Q E hv hQ
 have hv':(bs.map Value.bool)[i]? = some v:=by simpa using hv
 rw [bf] at hv'
 cases e:bs[i]? with
 | none=>rw [e] at hv';cases hv'
 | some b =>
  rw [e] at hv'
  cases hv'
  have eb:bs.getD i false=b:=by rw [bQ,e];rfl
  have hQ':Q (bs.getD i false) s:=hQ
  rw [eb] at hQ'
  exact wpAny_truthy_bool hQ'
theorem rD (hc:X.calm=true):nq X (.builtin "all") (fun xs H Q=>∃ (p:Addr) (bs:List Bool),xs=[.ref p]∧SqL X.K H p (bs.map V.bl)∧Q (.bl (bs.all id)) H):=by
 intro pins s σ H xs us Q I r h
 obtain ⟨p,bs,rfl,hx,q⟩:=h
 obtain ⟨u,rfl,rx⟩:=vals1 r
 cases rx
 obtain ⟨its,rvs,pl,hz⟩:=I.list hx
 obtain rfl:=Ay rvs
 have hl:s.heap.IsList p (bs.map Value.bool).toArray:=pl.isList
 have hlt:p < s.heap.objs.size:=by obtain ⟨_,e,_⟩:=id hl;exact Heap.lt_size e
 refine call_all_walk (wpAny_pyIter_list hl ?_)
 refine ⟨_,_,_,_,_,_,_,rfl,Walks.list (A:=X.A.in1) (I.ok.hd hc) _ p (bN hlt) (bs.map Value.bool).toArray,⟨⟨_,Heap.get?_push_size _ rfl,rfl,rfl⟩,hl.push _⟩,Az bs,fun h' tk hk=>?_⟩
 have e:(bs.map Value.bool).toArray.size=bs.length:=by simp
 rw [e,all_range]
 exact ⟨.bl _,H,I.kept (old_kept hk),rfl,q⟩
theorem yc {K:PySem.W.Frag} {ok:Ok} {pl:Bool} {H:Hp}:∀ {l:List D} {bs:List Bool} {ys:List V},oH l=some bs→RAs K ok pl H ys l→ys=bs.map V.bl
 | [],_,_,e,.nil=>by cases e;rfl
 | d :: r,bs,_,e,.cons h t=>by
  cases d <;> first | (cases e;done) | skip
  obtain rfl:=h.blE
  cases e2:oH r with
  | none=>rw [oH,e2] at e;cases e
  | some m =>
   rw [oH,e2] at e
   cases e
   rw [yc e2 t]
   rfl
theorem yd {K:PySem.W.Frag}:BrC K (fun xs H Q=>∃ (p:Addr) (bs:List Bool),xs=[.ref p]∧SqL K H p (bs.map V.bl)∧Q (.bl (bs.all id)) H) yN:=by
 intro H xs ds d Q r e q
 unfold yN at e
 split at e
 ·next l =>
  cases e2:oH l with
  | none=>rw [e2] at e;cases e
  | some bs =>
   rw [e2] at e
   cases e
   cases r with
   | cons r1 r2 =>
    cases r2
    obtain ⟨a,ys,rfl,hx,hr⟩:=r1.lstE
    obtain rfl:=yc e2 hr
    exact ⟨a,bs,rfl,hx,q _ rfl (.bl _)⟩
 ·cases e
end
section
variable {X:Cx} {fl:List Fl} {a:Expr} {f:FE} {pos:Pos} {ta:TE}
end
section
variable {X:Cx} {fl:List Fl} {a b c:Expr} {f fa fb fc:FE} {pos:Pos}
theorem A_ {op op':CmpOp} {r r':R2} {g g':D→D→Option D} (ho:OpR X (compareOp op) r) (ho':OpR X (compareOp op') r') (hb:BrO X.K r g) (hb':BrO X.K r' g') (h1:DE X fl .P a fa) (h2:DE X fl .P b fb) (h3:DE X fl .P c fc)
 (hm:lastMarks [op,op'] [b,c]=false:=by with_unfolding_all rfl):DT X fl (.Compare a [op,op'] [b,c] pos) (bI (oF g g' fa fb fc)):=PT.imp (Ir ho ho' h1 h2 h3 hm) fun σ H Q h=>by
 obtain ⟨G,ow,δ,bb,R,hf,q⟩:=h
 obtain ⟨d,hf,hd⟩:=bind1 hf
 have hd':d = .bool bb:=by cases d <;> first | (cases hd;rfl) | (cases hd;done)
 subst hd'
 obtain ⟨x,e1,hf⟩:=bind1 hf
 obtain ⟨y,e2,hf⟩:=bind1 hf
 obtain ⟨z,e3,hf⟩:=bind1 hf
 refine ⟨G,ow,δ,x,R,e1,fun v H1 s1 r1=>⟨G,ow,δ,y,R.grow s1,e2,fun u H2 s2 r2=>?_⟩⟩
 refine hb H2 v u x y z _ (RA.same s2 r1) r2 e3 fun zv hz rz=>?_
 split at hf
 ·obtain rfl:=rz.blE
  obtain ⟨w,e4,e5⟩:=bind1 hf
  refine ⟨true,rfl,Al ⟨G,ow,δ,w,R.grow (s1.trans s2),e4,fun wv H3 s3 r3=>?_⟩⟩
  refine hb' H3 u wv y w _ _ (RA.same s3 r2) r3 e5 fun z hz rz=>?_
  obtain rfl:=rz.blE
  exact ⟨_,rfl,q H3 (s1.trans (s2.trans s3))⟩
 ·obtain rfl:=rz.blE
  cases hf
  exact ⟨false,rfl,Ak ⟨_,rfl,q H2 (s1.trans s2)⟩⟩
 ·cases hf
theorem tX {j pos'} (h:DE X fl .P a f):DT X fl (.Compare a [.IsNot] [.Constant .none j pos'] pos) (bI (dUn rY f)):=PT.imp (HY (Lq h)) fun σ H Q h=>by
 obtain ⟨G,ow,δ,bb,R,hf,q⟩:=h
 obtain ⟨d,hf,hd⟩:=bind1 hf
 obtain ⟨x,e1,e2⟩:=bind1 hf
 cases e2
 cases hd
 refine ⟨G,ow,δ,x,R,e1,fun v H1 s1 r1=>?_⟩
 refine ⟨!decide (v = .non),rfl,?_⟩
 rw [CP (RA.same (Same.refl H1) r1)]
 exact q H1 s1
end
noncomputable def Itz (K:PySem.W.Frag) (a b:Addr):It :=
 ⟨fun i H=>∃ xs ys x y,SqL K H a xs∧SqL K H b ys∧xs[i]? = some x∧ys[i]? = some y,
  fun i H x H'=>∃ p u v,H p=none∧H'=upd H p (.tup [u,v])∧x = .ref p∧(∀ xs,SqL K H a xs→xs[i]? = some u)∧∀ ys,SqL K H b ys→ys[i]? = some v,
  fun i H=>∃ xs ys,SqL K H a xs∧SqL K H b ys∧(xs.length ≤ i∨ys.length ≤ i)⟩
theorem yg {h:Heap} {z TI TO i1 i2 l1 l2:Addr} {k1 k2:Nat} {f0 a b:Value} {x y:Value} {xs ys:Array Value} (hz:IsZip h z TI TO f0) (hTI:IsPair h TI x y) (hTO:IsPair h TO a b) (h1:h.IsListIter i1 l1 k1) (h2:h.IsListIter i2 l2 k2) (hl1:h.IsList l1 xs) (hl2:h.IsList l2 ys) (nT:TI ≠ TO) (ni:i1 ≠ i2) :
 ZipApart z TI TO i1 i2 l1 l2:=by
 obtain ⟨o1,e1,c1,d1⟩:=h1
 obtain ⟨o2,e2,c2,d2⟩:=h2
 obtain ⟨p1,g1,k1,m1⟩:=hl1
 obtain ⟨p2,g2,k2,m2⟩:=hl2
 have ne:∀ {u v:Addr} {o o':Obj},h.get? u=some o→h.get? v=some o'→o.cls ≠ o'.cls→u ≠ v:=fun e e' n z=>by
  subst z
  rw [e] at e'
  cases e'
  exact n rfl
 exact ⟨ne hTI hz (by simp),ne hTO hz (by simp),ne e1 hz (by rw [c1];simp),ne e2 hz (by rw [c2];simp),nT,ne hTI e1 (by rw [c1];simp),ne hTI e2 (by rw [c2];simp),ne hTO e1 (by rw [c1];simp),ne hTO e2 (by rw [c2];simp),ni,
  ne g1 hz (by rw [k1];simp),ne g1 hTO (by rw [k1];simp),ne g1 e1 (by rw [k1,c1];simp),ne g1 e2 (by rw [k1,c2];simp),ne g2 hz (by rw [k2];simp),ne g2 hTO (by rw [k2];simp),ne g2 e1 (by rw [k2,c1];simp),ne g2 e2 (by rw [k2,c2];simp)⟩
theorem Jz {P:Program} {w:World} {K:PySem.W.Frag} {elts:List Expr} {x1} {tpos:Pos} (a b z TI TO i1 i2:Addr) (nT:TI ≠ TO) (ni:i1 ≠ i2) :
 Turn P w K (.Tuple elts x1 tpos) (Itz K a b) [z,TI,TO,i1,i2] z (fun i h=>IsZip h z TI TO .none∧IsPair h TI (.ref i1) (.ref i2)∧(∃ u v,IsPair h TO u v)∧h.IsListIter i1 a i∧h.IsListIter i2 b i) where
 mem:=by simp
 obj:=fun i h st c hc=>by
  obtain ⟨hz,hTI,⟨u,v,hTO⟩,⟨o1,e1,c1,d1⟩,⟨o2,e2,c2,d2⟩⟩:=st
  simp only [aR,aV,d7,or_false] at hc
  rcases hc with rfl | rfl | rfl | rfl | rfl
  ·exact ⟨_,hz,fun v z=>by cases z⟩
  ·exact ⟨_,hTI,fun v z=>by cases z⟩
  ·exact ⟨_,hTO,fun v z=>by cases z⟩
  ·exact ⟨o1,e1,fun v z=>by rw [d1] at z;cases z⟩
  ·exact ⟨o2,e2,fun v z=>by rw [d2] at z;cases z⟩
 keep:=fun i h h' st k=>by
  obtain ⟨hz,hTI,⟨u,v,hTO⟩,h1,h2⟩:=st
  exact ⟨k _ (by simp) _ hz,k _ (by simp) _ hTI,⟨u,v,k _ (by simp) _ hTO⟩,h1.at fun o e=>k i1 (by simp) o e,h2.at fun o e=>k i2 (by simp) o e⟩
 item:=by
  intro X hP hw hK hc i pins s σ H E I hf st hg
  subst hP hw hK
  obtain ⟨xs,ys,x,y,hqa,hqb,hx,hy⟩:=hg
  obtain ⟨itsa,rva,pa,hza⟩:=I.list hqa
  obtain ⟨itsb,rvb,pb,hzb⟩:=I.list hqb
  obtain ⟨ua,hua,rua⟩:=rva.get hx
  obtain ⟨ub,hub,rub⟩:=rvb.get hy
  obtain ⟨hz,hTI,⟨u,v,hTO⟩,h1,h2⟩:=st
  have D:=yg hz hTI hTO h1 h2 pa.isList pb.isList nT ni
  have lts:∀ c ∈ [z,TI,TO,i1,i2],c < s.heap.objs.size:=fun c hc=>by
   simp only [aR,aV,d7,or_false] at hc
   rcases hc with rfl | rfl | rfl | rfl | rfl
   ·exact Heap.lt_size hz
   ·exact Heap.lt_size hTI
   ·exact Heap.lt_size hTO
   ·obtain ⟨o,e,_⟩:=h1;exact Heap.lt_size e
   ·obtain ⟨o,e,_⟩:=h2;exact Heap.lt_size e
  refine wpAny_pyNext_zip_item D hz hTI hTO h1 h2 pa.isList pb.isList (x:=ua) (y:=ub) (by simpa using hua) (by simpa using hub) fun hh g1 g2 g3 g4 g5 g6 g7=>?_
  refine ⟨_,rfl,wpAny_letOwnedTupleGo_zip g1 fun hh2 e1 e2=>?_⟩
  replace e2:Heap.SameBut z hh hh2:=e2
  have hn:H s.heap.objs.size=none:=I.hok.fresh (aQ _)
  have I0:Inv X pins σ (upd H s.heap.objs.size (.tup [x,y])) { s with heap:=s.heap.push { cls:=.type "tuple", data:=.seq #[ua,ub] } } :=
   I.laid (t':=s.toks) (fun b o e=>Heap.get?_push_of_some _ e) (aQ _) ⟨show 2 ≤ sizeLine by decide,[ua,ub],.cons rua (.cons rub .nil),⟨_,Heap.get?_push_size _ rfl,rfl,_,rfl⟩⟩
  have ne:∀ c,c ∈ [z,TI,TO,i1,i2]→c ≠ s.heap.objs.size:=fun c hc=>bN (lts c hc)
  have I1:Inv X pins σ (upd H s.heap.objs.size (.tup [x,y])) { s with heap:=hh2,toks:=s.toks }:=by
   refine Inv.turnedL (s:={ s with heap:=s.heap.push { cls:=.type "tuple", data:=.seq #[ua,ub] } }) (ch:=[z,TI,TO,i1,i2]) I0 (fun c o hc e=>?_) fun c hc=>⟨by rw [dU (ne c hc)];exact (hf c hc).1,(hf c hc).2⟩
   have b1:c ≠ z:=fun q=>hc (by simp [q])
   have b2:c ≠ TO:=fun q=>hc (by simp [q])
   have b3:c ≠ i1:=fun q=>hc (by simp [q])
   have b4:c ≠ i2:=fun q=>hc (by simp [q])
   rcases Heap.get?_push_cases e with ⟨e3,e4⟩ | e3
   ·subst e3 e4
    exact (e2.2 _ b1).trans g5
   ·exact (e2.2 _ b1).trans (g7 c o b1 b2 b3 b4 e3)
  refine ⟨.ref s.heap.objs.size,_,I1,rfl,⟨_,x,y,hn,rfl,rfl,fun zs hz'=>by rw [I.list_inj hz' hqa];exact hx,fun zs hz'=>by rw [I.list_inj hz' hqb];exact hy⟩,⟨e1,(e2.2 _ D.TIz).trans (g7 _ _ D.TIz D.TITO D.TIi1 D.TIi2 hTI),⟨_,_,(e2.2 _ D.TOz).trans g2⟩,g3.at fun o e=>(e2.2 _ D.i1z).trans e,g4.at fun o e=>(e2.2 _ D.i2z).trans e⟩,fun c hc=>?_⟩
  rw [dU (ne c hc)]
  exact (hf c hc).1
 done:=by
  intro X hP hw hK hc i pins s σ H E I hf st hg
  subst hP hw hK
  obtain ⟨xs,ys,hqa,hqb,hx⟩:=hg
  obtain ⟨itsa,rva,pa,hza⟩:=I.list hqa
  obtain ⟨itsb,rvb,pb,hzb⟩:=I.list hqb
  obtain ⟨hz,hTI,⟨u,v,hTO⟩,h1,h2⟩:=st
  have D:=yg hz hTI hTO h1 h2 pa.isList pb.isList nT ni
  have la:=rva.length
  have lb:=rvb.length
  refine wpAny_pyNext_zip_end (I.ok.hd hc) D hz hTI hTO h1 h2 pa.isList pb.isList ?_ fun h' eb=>⟨rfl,Inv.turnedL (t':=s.toks) (ch:=[z,TI,TO,i1,i2]) I (fun c o hc e=>eb c o (fun q=>hc (by simp [q])) (fun q=>hc (by simp [q])) (fun q=>hc (by simp [q])) (fun q=>hc (by simp [q])) e) hf⟩
  rcases hx with hx | hx
  ·exact .inl (by simp;omega)
  ·exact .inr (by simp;omega)
 self:=fun _ _ _ _ _ st h=>wpAny_pyIter_zip st.1 h
section
variable {X:Cx} {fl:List Fl} {a b:Expr} {f g:FE} {pos:Pos}
noncomputable def Xh (K:PySem.W.Frag) (ta tb:TE):TI:=fun σ H R=>ta σ H fun x H1=>tb σ H1 fun y H2=>∃ p q,x = .ref p∧y = .ref q∧(∃ xs,SqL K H2 p xs)∧(∃ ys,SqL K H2 q ys)∧R (Itz K p q) H2
theorem boot_zip:bootBuiltins "zip" = some (.type "zip"):=by decide +kernel
theorem Rp {elts:List Expr} {x1} {tpos p:Pos} {ta tb:TE} (hg:Gl X "zip") (hm:X.mg "zip" = none) (ha:PE X a ta) (hb:PE X b tb) (he:starEach [a,b] X.env=(false,eval a X.env) :: starEach [b] X.env:=by rfl) (he2:starEach [b] X.env=(false,eval b X.env) :: starEach [] X.env:=by rfl)
 (hpl:(backTo pos (starEach [b] X.env)).any (·.1)=false:=by rfl):PI X (.Tuple elts x1 tpos) (.Call (.Name "zip" p) [a,b] [] pos) (Xh X.K ta tb):=by
 intro pins s σ H R I h
 refine wpAny_Call_Name_kw (qb I hg hm boot_zip (PyProof.Rows.callWith_type1 (thn ((jW ha (jW hb pq he2) he) pos pins s σ H (fun vs H1=>match vs with | [x,y]=>∃ p q,x = .ref p∧y = .ref q∧(∃ xs,SqL X.K H1 p xs)∧(∃ ys,SqL X.K H1 q ys)∧R (Itz X.K p q) H1 | _=>False) I h) fun us s1 ⟨vs,H1,I1,r1,q1⟩=>?_) he hpl))
 cases r1 with
 | nil=>exact q1.elim
 | cons r rr =>
  cases rr with
  | nil=>exact q1.elim
  | cons r' rr' =>
  cases rr' with
  | cons _ _=>exact q1.elim
  | nil =>
  obtain ⟨l,m,e,e',⟨xs,hq⟩,⟨ys,hq'⟩,q⟩:=q1
  subst e e'
  cases r
  cases r'
  obtain ⟨its,rv,pl,hz⟩:=I1.list hq
  obtain ⟨its',rv',pl',hz'⟩:=I1.list hq'
  refine call_zip_2 pl.isList pl'.isList fun h' g1 g2 g3 g4 g5 g6 hk=>?_
  have I2:Inv X pins σ H1 { s1 with heap:=h' }:=I1.kept (t':=s1.toks) hk
  refine wpAny_pyIter_zip (s:={ s1 with heap:=h' }) g1 ?_
  refine ⟨s1.heap.objs.size + 4,[s1.heap.objs.size + 4,s1.heap.objs.size + 2,s1.heap.objs.size + 3,s1.heap.objs.size,s1.heap.objs.size + 1],_,_,H1,rfl,I2,Jz l m (s1.heap.objs.size + 4) (s1.heap.objs.size + 2) (s1.heap.objs.size + 3) s1.heap.objs.size (s1.heap.objs.size + 1) (bN (lF _)) (bN (lF _)),⟨g1,g2,⟨_,_,g3⟩,g4,g5⟩,fun b hb=>?_,q⟩
  have hb':s1.heap.objs.size ≤ b:=by
   simp only [aR,aV,d7,or_false] at hb
   rcases hb with rfl | rfl | rfl | rfl | rfl <;> omega
  exact I1.fpOk hb' (I1.hok.fresh hb')
theorem Ba:∀ (l m:List D) (i:Nat),(sH l m)[i]? = (l[i]?).bind fun x=>(m[i]?).map fun y=>PyData.tuple [x,y]
 | [],_,i=>by simp [sH]
 | _ :: _,[],i=>by cases i <;> simp [sH]
 | x :: l,y :: m,0=>by simp [sH]
 | x :: l,y :: m,i + 1=>by simp [sH,Ba l m i]
theorem Bb:∀ (l m:List D),(sH l m).length=min l.length m.length
 | [],_=>by simp [sH]
 | _ :: _,[]=>by simp [sH]
 | x :: l,y :: m=>by simp [sH,Bb l m]
theorem RsB.same {K:PySem.W.Frag} {G:Gh} {ow:Ow} {Hb H H':Hp} {L:List Nat} {v:V} {d:D} (e:Same H H') (h:Rs K G.H0 ow Hb H (.B L) v d):Rs K G.H0 ow Hb H' (.B L) v d:=by
 rcases h with h | ⟨i,hi,a,xs,ds,h1,h2,h3,h4,h5⟩
 ·exact .inl (RA.same e h)
 ·exact .inr ⟨i,hi,a,xs,ds,h1,h2,h3,e _ _ h4,h5.same e⟩
theorem Rq {elts:List Expr} {x1} {tpos p:Pos} {L1 L2 L:List Nat} (ha:DE X fl (.B L1) a f) (hb:DE X fl (.B L2) b g) (hg:Gl X "zip") (hm:X.mg "zip" = none) (hL:L=L1++L2:=by rfl)
 (he:starEach [a,b] X.env=(false,eval a X.env) :: starEach [b] X.env:=by rfl) (he2:starEach [b] X.env=(false,eval b X.env) :: starEach [] X.env:=by rfl)
 (hpl:(backTo pos (starEach [b] X.env)).any (·.1)=false:=by rfl):DI X fl L (.Tuple elts x1 tpos) (.Call (.Name "zip" p) [a,b] [] pos) (Mt f g):=PI.imp (Rp hg hm ha hb he he2 hpl) fun σ H R' h=>by
 subst hL
 obtain ⟨G,ow,δ,l,R,hf,q⟩:=h
 obtain ⟨d,e1,hf⟩:=bind1 hf
 obtain ⟨d',e2,hf⟩:=bind1 hf
 obtain ⟨l0,rfl⟩:∃ l0,d = .list l0:=by cases d <;> first | exact ⟨_,rfl⟩ | (cases hf;done)
 obtain ⟨m0,rfl⟩:∃ m0,d' = .list m0:=by cases d' <;> first | exact ⟨_,rfl⟩ | (cases hf;done)
 cases hf
 refine ⟨G,ow,δ,_,R,e1,fun v H1 s1 r1=>⟨G,ow,δ,_,R.grow s1,e2,fun v' H2 s2 r2=>?_⟩⟩
 have r1':=RsB.same s2 r1
 obtain ⟨pa,xs,rfl,hx,keepa⟩:=vX ((R.grow s1).grow s2) r1'
 obtain ⟨pb,ys,rfl,hy,keepb⟩:=vX ((R.grow s1).grow s2) r2
 refine ⟨pa,pb,rfl,rfl,⟨xs,hx⟩,⟨ys,hy⟩,q _ _ (s1.trans s2) fun H3 k3 i=>?_⟩
 obtain ⟨a1,a2⟩:=keepa H3 fun b o e z=>k3 b o e fun i w=>cV _ (z i w)
 obtain ⟨b1,b2⟩:=keepb H3 fun b o e z=>k3 b o e fun i w=>bL _ (z i w)
 refine ⟨fun d hd=>?_,fun hl=>⟨xs,ys,a1,b1,?_⟩⟩
 ·rw [Ba] at hd
  cases ea:l0[i]? with
  | none=>rw [ea] at hd;cases hd
  | some x0 =>
   cases eb:m0[i]? with
   | none=>rw [ea,eb] at hd;cases hd
   | some y0 =>
    rw [ea,eb] at hd
    cases hd
    obtain ⟨x,hx1,rx⟩:=a2.get ea
    obtain ⟨y,hy1,ry⟩:=b2.get eb
    refine ⟨⟨xs,ys,x,y,a1,b1,hx1,hy1⟩,fun z H4 hyl=>?_⟩
    obtain ⟨p',u,v,hp,rfl,rfl,hu,hv⟩:=hyl
    have eu:some x=some u:=hx1.symm.trans (hu xs a1)
    have ev:some y=some v:=hy1.symm.trans (hv ys b1)
    cases eu
    cases ev
    have gg:=fX hp (.tup [x,y])
    exact ⟨gg,.tup fG (.cons (rx.same gg) (.cons (ry.same gg) .nil))⟩
 ·rw [Bb] at hl
  rw [a2.length,b2.length]
  omega
end
end D3
namespace D3
open PySem PySem.Spec PyProof.Rows L2 My
section
variable {X:Cx} {fl:List Fl} {e a b c:Expr} {es rest:List Expr} {k:Kd} {f fa fb fc:FE} {ft gt:FT} {pos:Pos}
theorem yZ:DE X fl .T (.Dict [] [] pos) (dC (.dict [])):=PE.imp Jd fun σ H Q h=>by
 obtain ⟨G,ow,δ,d,R,hf,q⟩:=h
 cases hf
 intro p hp
 exact q _ _ (fX hp _) ⟨[p],.dic fG (.inl ⟨rfl,rfl⟩),dF.mpr ⟨d7,.nil⟩,fun x hx=>by rw [aV.mp hx];exact hp⟩
theorem Vg (h:DE X fl .T e f):DE X fl .C e f:=mX h fun Hb H G ow σ δ v d R r=>by
 obtain ⟨as,h1,h2,h3⟩:=r
 exact h1.ra h3
theorem zc (i:Nat) (hn:isN fl[i]? = true) {x:Str} (hN:X.N[i]? = some x:=by rfl) (hv:Vis X.env.scope x:=by first | exact Or.inl rfl | exact Or.inr (Or.inl rfl) | exact Or.inr (Or.inr rfl)) (hd:(x == ("__debug__" : Str))=false:=by decide)
 (hcd:(x == ("__classdict__" : Str))=false:=by decide):DE X fl .P (.Name x pos) (aG i):=by
 refine PE.imp (oA hN hv hd hcd) fun σ H Q h=>?_
 obtain ⟨G,ow,δ,d,R,hf,q⟩:=h
 obtain ⟨v,h1,h2,_⟩:=R.nr i d hn (rm hf)
 exact ⟨v,h1,q v H (Same.refl H) (h2.ra fun _ _=>trivial)⟩
end
section
variable {K:PySem.W.Frag} {fl:List Fl}
noncomputable def owN (ow:Ow) (i:Nat) (as:List Addr):Ow:=⟨ow.s,fun j=>if j=i then as else ow.n j⟩
theorem lN {ow:Ow} {i:Nat} {as:List Addr}:(owN ow i as).n i=as:=if_pos rfl
theorem j7 {ow:Ow} {i j:Nat} {as:List Addr} (h:j ≠ i):(owN ow i as).n j=ow.n j:=if_neg h
theorem Rel.setN {G:Gh} {ow:Ow} {σ:St} {H H':Hp} {δ:DS} {i:Nat} {v:V} {d:D} (R:Rel K fl G ow σ H δ) (s:Same H H') (hfl:fl[i]? = some .N) (hi:i < σ.length) (r:Rs K G.H0 ow H H' .T v d) :
 ∃ ow',Rel K fl G ow' (σ.set i (some v)) H' (δ.set i (some (.d d))):=by
 have R':=R.grow s
 obtain ⟨as,h1,h2,h3⟩:=r
 have no:∀ a,ow i ≠ some a:=fun a z=>by
  obtain ⟨_,hz,_⟩:=R.own i a z
  rw [hfl] at hz
  rcases hz with ⟨z,_⟩ | ⟨z,_⟩ <;> cases z
 have sub:∀ b,okA ow b∧H b ≠ none→okA (owN ow i as) b:=fun b z=>⟨z.1.1,fun j e=>by
  by_cases hj:j=i
  ·subst hj
   rw [lN] at e
   exact z.2 (h3 b e)
  ·rw [j7 hj] at e
   exact z.1.2 j e⟩
 have old:∀ {v:V} {d:D},RA K (okA ow) true H v d→RA K (okA (owN ow i as)) true H' v d:=fun r=>(r.track.imp sub (fun z=>z)).same s
 have olds:∀ {v:List V} {d:List D},RAs K (okA ow) true H v d→RAs K (okA (owN ow i as)) true H' v d:=fun r=>(r.track.imp sub (fun z=>z)).same s
 refine ⟨owN ow i as,R'.s0,R'.s1,by rw [cT,cT];exact R.len,fun j a h=>?_,R.inj,R.pin,fun j d' g1 gn g2=>?_,fun j d' g1 gn g2 g3=>?_,fun j a h=>?_,fun j j' a h h'=>?_,fun j j' a h=>?_,fun j h=>?_,fun j d' gn g1=>?_⟩
 ·have hj:j ≠ i:=fun z=>no a (z ▸ h)
  obtain ⟨h0,hf,xs,ds,g1,g2,g3,g4⟩:=R.own j a h
  exact ⟨h0,hf,xs,ds,by rw [bF (Ne.symm hj)];exact g1,s _ _ g2,olds g3,by rw [bF (Ne.symm hj)];exact g4⟩
 ·rcases iJ g1 with ⟨rfl,e⟩ | ⟨hj,e⟩
  ·rw [hfl] at gn;cases gn
  ·obtain ⟨v',g3,g4⟩:=R.dat j d' e gn g2
   exact ⟨v',by rw [bF (Ne.symm hj)];exact g3,old g4⟩
 ·rcases iJ g1 with ⟨rfl,e⟩ | ⟨hj,e⟩
  ·rw [hfl] at gn;cases gn
  ·exact R.oo j d' e gn g2 g3
 ·by_cases hj:j=i
  ·subst hj
   rw [lN] at h
   exact ⟨R.same0.free (h3 a h),h1.chd a h,.inl ⟨hfl,R.s1.free (h3 a h)⟩⟩
  ·rw [j7 hj] at h
   exact R'.nt j a h
 ·by_cases hj:j=i
  ·by_cases hj':j'=i
   ·rw [hj,hj']
   ·subst hj
    rw [lN] at h
    rw [j7 hj'] at h'
    exact absurd (h3 a h) (R.nt j' a h').2.1.ne
  ·rw [j7 hj] at h
   by_cases hj':j'=i
   ·subst hj'
    rw [lN] at h'
    exact absurd (h3 a h') (R.nt j a h).2.1.ne
   ·rw [j7 hj'] at h'
    exact R.nd j j' a h h'
 ·by_cases hj:j=i
  ·subst hj
   rw [lN] at h
   exact fun z=>by
    obtain ⟨_,_,_,_,_,g2,_⟩:=R.own j' a z
    rw [h3 a h] at g2
    cases g2
  ·rw [j7 hj] at h
   exact R.ns j j' a h
 ·have hj:j ≠ i:=fun z=>by subst z;rw [hfl] at h;cases h
  rw [j7 hj]
  exact R.np j h
 ·rcases iJ g1 with ⟨rfl,e⟩ | ⟨hj,e⟩
  ·cases e
   exact ⟨v,by rw [dD hi],by rw [lN];exact h1,by rw [lN];exact h2⟩
  ·obtain ⟨v',g3,g4⟩:=R'.nr j d' gn e
   exact ⟨v',by rw [bF (Ne.symm hj)];exact g3,by rw [j7 hj];exact g4⟩
theorem Rel.mutN {G:Gh} {ow:Ow} {σ:St} {H:Hp} {δ:DS} {i:Nat} {a:Addr} {u u':HO} [cu:Chg u] [cu':Chg u'] {d:D} {v:V} {as:List Addr} (R:Rel K fl G ow σ H δ) (hfl:fl[i]? = some .N) (hi:i < δ.length) (ha:a ∈ ow.n i) (hx:H a=some u) (hv:σ[i]? = some (some v))
 (hr:RT K (upd H a u') v d as) (hs:∀ b ∈ as,b ∈ ow.n i) (hd:as.Nodup):∃ ow',Rel K fl G ow' σ (upd H a u') (δ.set i (some (.d d))):=by
 have na:¬ okA ow a:=fun z=>z.2 i ha
 have hF:G.HF a=none:=by
  rcases (R.nt i a ha).2.2 with ⟨_,z⟩ | z
  ·exact z
  ·rw [hfl] at z;cases z
 have no:∀ a,ow i ≠ some a:=fun a z=>by
  obtain ⟨_,hz,_⟩:=R.own i a z
  rw [hfl] at hz
  rcases hz with ⟨z,_⟩ | ⟨z,_⟩ <;> cases z
 have sub:∀ b,okA ow b→okA (owN ow i as) b:=fun b z=>⟨z.1,fun j e=>by
  by_cases hj:j=i
  ·subst hj
   rw [lN] at e
   exact z.2 j (hs b e)
  ·rw [j7 hj] at e
   exact z.2 j e⟩
 have tr:∀ b,Chd (H b)→Chd (upd H a u' b):=fun b z=>by
  by_cases hb:b=a
  ·rw [hb,fG];exact ⟨_,rfl,cu'⟩
  ·rw [dU hb];exact z
 refine ⟨owN ow i as,R.s0,fun b o hb=>?_,by rw [cT];exact R.len,fun j b h=>?_,R.inj,R.pin,fun j d' g1 gn g2=>?_,fun j d' g1 gn g2 g3=>?_,fun j b h=>?_,fun j j' b h h'=>?_,fun j j' b h=>?_,fun j h=>?_,fun j d' gn g1=>?_⟩
 ·rw [dU (fun z=>by subst z;rw [hF] at hb;cases hb)]
  exact R.s1 b o hb
 ·have hj:j ≠ i:=fun z=>no b (z ▸ h)
  obtain ⟨h0,hf,zs,ds,g1,g2,g3,g4⟩:=R.own j b h
  have hb:b ≠ a:=fun z=>R.ns i j a ha (z ▸ h)
  exact ⟨h0,hf,zs,ds,g1,by rw [dU hb];exact g2,(g3.upd hx na).imp sub (fun z=>z),by rw [bF (Ne.symm hj)];exact g4⟩
 ·rcases iJ g1 with ⟨rfl,e⟩ | ⟨hj,e⟩
  ·rw [hfl] at gn;cases gn
  ·obtain ⟨v',g3,g4⟩:=R.dat j d' e gn g2
   exact ⟨v',g3,(g4.upd hx na).imp sub (fun z=>z)⟩
 ·rcases iJ g1 with ⟨rfl,e⟩ | ⟨hj,e⟩
  ·rw [hfl] at gn;cases gn
  ·exact R.oo j d' e gn g2 g3
 ·by_cases hj:j=i
  ·subst hj
   rw [lN] at h
   obtain ⟨g1,g2,g3⟩:=R.nt j b (hs b h)
   exact ⟨g1,tr b g2,g3⟩
  ·rw [j7 hj] at h
   obtain ⟨g1,g2,g3⟩:=R.nt j b h
   exact ⟨g1,tr b g2,g3⟩
 ·have old:∀ j b,b ∈ (owN ow i as).n j→b ∈ ow.n j:=fun j b h=>by
   by_cases hj:j=i
   ·subst hj;rw [lN] at h;exact hs b h
   ·rw [j7 hj] at h;exact h
  exact R.nd j j' b (old j b h) (old j' b h')
 ·by_cases hj:j=i
  ·subst hj;rw [lN] at h;exact R.ns j j' b (hs b h)
  ·rw [j7 hj] at h;exact R.ns j j' b h
 ·have hj:j ≠ i:=fun z=>by subst z;rw [hfl] at h;cases h
  rw [j7 hj]
  exact R.np j h
 ·rcases iJ g1 with ⟨rfl,e⟩ | ⟨hj,e⟩
  ·cases e
   exact ⟨v,hv,by rw [lN];exact hr,by rw [lN];exact hd⟩
  ·obtain ⟨v',g3,g4,g5⟩:=R.nr j d' gn e
   exact ⟨v',g3,by rw [j7 hj];exact g4.upd hx (fun z=>hj (R.nd j i a z ha)),by rw [j7 hj];exact g5⟩
end
section
variable {K:PySem.W.Frag} {H:Hp}
theorem RTs.snoc {w:V} {d:D} (r:RT K H w d []):∀ {vs:List V} {ds:List D} {as:List Addr},RTs K H vs ds as→RTs K H (vs++[w]) (ds++[d]) as
 | _,_,_,.nil=>by
  have:=RTs.cons r (.nil (K:=K) (H:=H))
  simpa using this
 | _,_,_,.cons e q=>.cons e (RTs.snoc r q)
end
section
variable {X:Cx} {fl:List Fl} {e ke:Expr} {f fk:FE} {pos:Pos}
theorem Er {i:Nat} {x:Str} {pos':Pos} (hfl:fl[i]? = some .N) (hN:X.N.Nodup) (hi:X.N[i]? = some x) (hv:X.env.scope.names.lookup x=some .local∨X.env.scope.names.lookup x=some .cell) (h:DE X fl .T e f)
 (hs:swapsWith e (some (.Name x pos')) pos.line X.env=pure false:=by rfl) (hfn:X.fn x=true∨X.env.scope.names.lookup x=some .local:=by first | exact .inl rfl | exact .inr rfl) :
 DS1 X fl (.Assign [.Name x pos'] e pos) (bZ i f):=PS.imp (Ce (i:=i) hN hi hv h hs hfn) fun Dn σ H h=>by
 obtain ⟨G,ow,δ,o,R,hf,q⟩:=h
 unfold bZ at hf
 by_cases hl:i < δ.length
 ·rw [if_pos hl] at hf
  obtain ⟨d,e1,e2⟩:=bind1 hf
  cases e2
  refine ⟨G,ow,δ,d,R,e1,fun v H' s r=>?_⟩
  obtain ⟨ow',R'⟩:=R.setN s hfl (rA R hl) r
  exact q ow' _ H' R'
 ·rw [if_neg hl] at hf
  cases hf
end
end D3
namespace D3
open PySem
noncomputable def qM (g:List D→Option (List D)) (i:Nat) (x:Option D) (δ:DS):Option Oc:=match x with
 | some (.list l)=>match g l with
  | some m=>some (.nx (δ.set i (some (.d (.list m)))))
  | none=>none
 | _=>none
noncomputable def wV (n:Nat) (j:Int):Nat:=if j < 0 then (j + n).toNat else min j.toNat n
noncomputable def G4 (j:Int) (l:List D):Option (List D):=if l.length ≤ 1000000 then (pIx l.length j).map fun n=>l.eraseIdx n else none
noncomputable def Bc (j:Int) (d:D) (l:List D):Option (List D):=if l.length < 1000000∧-(2 ^ 62) ≤ j∧j < 2 ^ 62 then some (l.take (wV l.length j)++d :: l.drop (wV l.length j)) else none
noncomputable def Rr (i:Nat):FS:=fun δ=>qM (fun l=>some l.reverse) i (aG i δ) δ
noncomputable def qPo (i:Nat) (k x:Option D) (δ:DS):Option Oc:=match k with
 | some (.int j)=>qM (G4 j) i x δ
 | _=>none
noncomputable def Es (i:Nat) (fk:FE):FS:=fun δ=>qPo i (fk δ) (aG i δ) δ
noncomputable def qIn (i:Nat) (k d x:Option D) (δ:DS):Option Oc:=match k,d with
 | some (.int j),some d=>qM (Bc j d) i x δ
 | _,_=>none
noncomputable def zf (i:Nat) (fk f:FE):FS:=fun δ=>qIn i (fk δ) (f δ) (aG i δ) δ
noncomputable def Bd:D→Bool
 | .list _=>true
 | .tuple _=>true
 | .dict _=>true
 | _=>false
noncomputable def iiD:List (D × D)→Option (List (Int × Int))
 | []=>some []
 | (.int i,.int j) :: r=>(iiD r).map ((i,j) :: ·)
 | _=>none
mutual
noncomputable def noK:D→Bool
 | .none=>true
 | .bool _=>true
 | .int _=>true
 | .str _=>true
 | .list xs=>CT xs
 | .tuple xs=>CT xs
 | .dict kvs=>(iiD kvs).isSome
noncomputable def CT:List D→Bool
 | []=>true
 | x :: r=>noK x && CT r
end
theorem tY:∀ l:List D,(∀ d ∈ l,noK d=true)→CT l=true
 | [],_=>rfl
 | a :: r,h=>by
  rw [CT,h a (aP ..),tY r fun d hd=>h d (aL _ hd)]
  rfl
noncomputable def tZ:D→D→Option D:=fun x y=>if (SeqAt.shaped x && SeqAt.shaped y)=true then some (.bool (PyData.eqv x y)) else @ite _ (x=y∧Bd x=true∧x.depth ≤ 64∧noK x=true) (Classical.propDecidable _) (some (.bool true)) none
theorem uY {x y d:D} (h:gEq x y=some d):tZ x y=some d:=by
 unfold gEq at h
 unfold tZ
 split at h
 ·next z=>rw [if_pos z];exact h
 ·cases h
theorem JB {x:D} (hs:SeqAt.shaped x=false) (hb:Bd x=true) (hd:x.depth ≤ 64) (hn:noK x=true):tZ x x=some (.bool true):=by
 unfold tZ
 rw [hs,if_neg (by decide),if_pos ⟨rfl,hb,hd,hn⟩]
noncomputable def PN:D→Option (List D)
 | .list l=>some l
 | .tuple l=>some l
 | _=>none
noncomputable def qSq (x:Option D):Option (List D):=x.bind PN
noncomputable def Rt (f:FE):FA:=fun δ=>(f δ).bind PN
theorem Ru {f:FE} {δ:DS}:Rt f δ=qSq (f δ):=rfl
theorem JC {l:List D}:qSq (some (.list l))=some l:=rfl
theorem Rv {l:List D}:qSq (some (.tuple l))=some l:=rfl
noncomputable def Et:D→Option D
 | .list l=>some (.tuple l)
 | .tuple l=>some (.tuple l)
 | _=>none
theorem CV {l:List D}:Et (.list l)=some (.tuple l):=rfl
theorem CW {g:List D→Option (List D)} {i:Nat} {x:Option D} {δ:DS} {o:Oc} (h:qM g i x δ=some o):∃ l m,x=some (.list l)∧g l=some m∧o = .nx (δ.set i (some (.d (.list m)))):=by
 unfold qM at h
 split at h
 ·next l =>
  split at h
  ·next m e=>cases h;exact ⟨l,m,rfl,e,rfl⟩
  ·cases h
 ·cases h
theorem Vh {i:Nat} {δ:DS}:Rr i δ=qM (fun l=>some l.reverse) i (aG i δ) δ:=rfl
theorem Rw {i:Nat} {fk:FE} {δ:DS}:Es i fk δ=qPo i (fk δ) (aG i δ) δ:=rfl
theorem JD {i:Nat} {j:Int} {x:Option D} {δ:DS}:qPo i (some (.int j)) x δ=qM (G4 j) i x δ:=rfl
theorem JF {i:Nat} {fk f:FE} {δ:DS}:zf i fk f δ=qIn i (fk δ) (f δ) (aG i δ) δ:=rfl
theorem zj {i:Nat} {j:Int} {d:D} {x:Option D} {δ:DS}:qIn i (some (.int j)) (some d) x δ=qM (Bc j d) i x δ:=rfl
theorem Vi {g:List D→Option (List D)} {i:Nat} {l m:List D} {δ:DS} (h:g l=some m):qM g i (some (.list l)) δ=some (.nx (δ.set i (some (.d (.list m))))):=by
 show (match g l with
  | some m=>some (Oc.nx (δ.set i (some (.d (.list m)))))
  | none=>none)=_
 rw [h]
noncomputable def gIn:D→D→Option D:=fun x y=>match y with
 | .list l=>if (SeqAt.shaped x && SeqAt.shaped (.list l))=true then some (.bool (l.any fun z=>PyData.eqv z x)) else none
 | .tuple l=>if (SeqAt.shaped x && SeqAt.shaped (.tuple l))=true then some (.bool (l.any fun z=>PyData.eqv z x)) else none
 | _=>none
noncomputable def nA:D→D→Option D:=fun x y=>match y with
 | .list l=>if (SeqAt.shaped x && SeqAt.shaped (.list l))=true then some (.bool (!l.any fun z=>PyData.eqv z x)) else none
 | .tuple l=>if (SeqAt.shaped x && SeqAt.shaped (.tuple l))=true then some (.bool (!l.any fun z=>PyData.eqv z x)) else none
 | _=>none
noncomputable def qRL (a:Option D):Option Oc:=match a with
 | some d=>some (.ex "" "" d)
 | none=>none
noncomputable def Bf (fe:FE):FS:=fun δ=>(fe δ).bind fun d=>some (.ex "" "" d)
theorem pH {fe:FE} {δ:DS}:Bf fe δ=qRL (fe δ):=by
 unfold Bf qRL
 cases fe δ <;> rfl
theorem lu {d:D}:qRL (some d)=some (.ex "" "" d):=rfl
noncomputable def M9 (o:Option Oc):Option D:=match o with
 | some (.rt d)=>some d
 | some (.ex _ _ d)=>some d
 | some (.nx _)=>some .none
 | _=>none
noncomputable def fnL (p q:Nat) (b:FS):List D→Option D:=fun ds=>if ds.length=p then M9 (b (ds.map (fun d=>some (.d d))++bD q none)) else none
theorem t_ {p q:Nat} {b:FS} {ds:List D}:fnL p q b ds=if ds.length=p then M9 (b (ds.map (fun d=>some (.d d))++bD q none)) else none:=rfl
theorem lA {c f:Str} {d:D}:M9 (some (.ex c f d))=some d:=rfl
end D3
namespace D3
open PySem PySem.Spec PyProof.Rows L2 My
section
variable {X:Cx}
noncomputable def M_:V→List V→Hp→VK→Prop:=fun x vs H Q=>∃ l xs i y,x = .ref l∧vs=[.int i,y]∧H l=some (.lst xs)∧-(2 ^ 63) ≤ i∧i < 2 ^ 63∧xs.length < sizeLine∧Q .non (upd H l (.lst (xs.take (wV xs.length i)++y :: xs.drop (wV xs.length i))))
theorem Nb (li:List Value) (k:Nat) (y:Value):(li.toArray.extract 0 k).push y++li.toArray.extract k=(li.take k++y :: li.drop k).toArray:=by
 apply Array.ext'
 simp [List.extract_eq_drop_take]
 exact cY (by simp)
theorem G5:MtM X "list.insert" M_:=by
 intro pins s σ H x vs v us Q I rx rv h
 obtain ⟨l,xs,i,y,rfl,rfl,hH,h1,h2,hz,q⟩:=h
 cases rx
 obtain ⟨u1,u2,rfl,ru1,ru2⟩:=rv.two
 obtain ⟨t,rfl⟩:=ru1
 obtain ⟨z,its,n,r,hl,e⟩:=I.lstM hH
 refine call_meets F.slot_list_insert ⟨_,e,rfl⟩ F.entry_list_insert (F.args_list_insert_3 _ _ _) (AutoSeq1.list_insert_list_int_val_1 l its.toArray n i t u2 (by simp [fitsIndex_both h1 h2]) (by rw [bx];omega)) ⟨e,?_⟩
 refine ⟨.non,_,I.lset (its':=its.take (wV xs.length i)++u2 :: its.drop (wV xs.length i)) hH e ?_ ((r.take _).append (.cons ru2 (r.drop _))) ?_,rfl,q⟩
 ·show (its.toArray.extract 0 (if i < 0 then (i + (its.toArray.size:Int)).toNat else min i.toNat its.toArray.size)).push u2++its.toArray.extract (if i < 0 then (i + (its.toArray.size:Int)).toNat else min i.toNat its.toArray.size)=_
  rw [hl]
  exact Nb its (wV its.length i) u2
 ·rw [bB,bK,fB,cL]
  omega
end
section
variable {X:Cx} {fl:List Fl} {e ke:Expr} {f fk:FE} {pos:Pos}
theorem RAs.erase {K:PySem.W.Frag} {ok:Ok} {pl:Bool} {H:Hp} {v:List V} {d:List D} (n:Nat) (r:RAs K ok pl H v d):RAs K ok pl H (v.eraseIdx n) (d.eraseIdx n):=by
 rw [dW,dW]
 exact (r.take n).append (r.drop (n + 1))
theorem Nf {n:Nat} {i:Int} {j:Nat} (h:pIx n i=some j):seqIndex? i n=some j∧j < n∧-(n:Int) ≤ i∧i < n:=by
 unfold pIx at h
 unfold seqIndex?
 by_cases c:0 ≤ i
 ·rw [if_pos c] at h
  by_cases c2:i < n
  ·rw [if_pos c2] at h
   cases h
   simp only [show ¬ i < 0 by omega,if_false,dTr c,dTr c2,rQ,if_true]
   exact ⟨trivial,by omega,by omega,by omega⟩
  ·rw [if_neg c2] at h;cases h
 ·rw [if_neg c] at h
  by_cases c2 : -(n:Int) ≤ i
  ·rw [if_pos c2] at h
   cases h
   simp only [show i < 0 by omega,if_true,dTr (show 0 ≤ i + (n:Int) by omega),dTr (show i + (n:Int) < n by omega),rQ]
   exact ⟨trivial,by omega,by omega,by omega⟩
  ·rw [if_neg c2] at h;cases h
theorem Rx {i:Nat} {x:Str} {vpos apos cpos:Pos} (hfl:fl[i]? = some .O) (hN:X.N[i]? = some x) (hv:Vis X.env.scope x:=by first | exact Or.inl rfl | exact Or.inr (Or.inl rfl) | exact Or.inr (Or.inr rfl)) (hd:(x == ("__debug__" : Str))=false:=by decide)
 (hcd:(x == ("__classdict__" : Str))=false:=by decide)
 (hs:swapsWith (.Call (.Attribute (.Name x vpos) "reverse" apos) [] [] cpos) none pos.line X.env=pure false:=by rfl)
 (hbase:attributeBase (.Name x vpos) "reverse" X.env (eval (.Name x vpos) X.env)=eval (.Name x vpos) X.env:=by rfl)
 (hline:(apos.endLine == cpos.line)=true:=by rfl) :
 DS1 X fl (.Expr (.Call (.Attribute (.Name x vpos) "reverse" apos) [] [] cpos) pos) (Rr i) :=
 PS.imp (tK (QZ PySem.F.plainAttrs_list PySem.F.slot_list_reverse PySem.F.type_list_reverse Cp (oA hN hv hd hcd) hbase hline) hs) fun Dn σ H hh=>by
 obtain ⟨G,ow,δ,o,R,hf,q⟩:=hh
 obtain ⟨l,m,e1,e2,rfl⟩:=CW hf
 cases e2
 obtain ⟨a,xs,ho,h1,h2,h3⟩:=vW R hfl e1
 exact ⟨_,h1,.inl ⟨rfl,_,SqL.of h2⟩,a,xs,rfl,rfl,h2,q ow σ _ (R.mut hfl ho h3.reverse)⟩
theorem Ng {i:Nat} {x:Str} {vpos apos cpos:Pos} (hfl:fl[i]? = some .O) (hk:DE X fl .P ke fk) (hN:X.N[i]? = some x) (hv:Vis X.env.scope x:=by first | exact Or.inl rfl | exact Or.inr (Or.inl rfl) | exact Or.inr (Or.inr rfl)) (hd:(x == ("__debug__" : Str))=false:=by decide)
 (hcd:(x == ("__classdict__" : Str))=false:=by decide)
 (hs:swapsWith (.Call (.Attribute (.Name x vpos) "pop" apos) [ke] [] cpos) none pos.line X.env=pure false:=by rfl)
 (hbase:attributeBase (.Name x vpos) "pop" X.env (eval (.Name x vpos) X.env)=eval (.Name x vpos) X.env:=by rfl)
 (hfew:((backTo cpos (starEach [ke] X.env)).all (fun x=>!x.1) && (backToKw cpos (keywordEach [] X.env)).all (fun x=>x.1.isSome)
  && decide (([ke]:List Expr).length + ([]:List Keyword).length + (if ([]:List Keyword).isEmpty then 0 else 1) < 30))=true:=by rfl)
 (hline:(apos.endLine == cpos.line)=true:=by rfl) (hst:starEach [ke] X.env=(false,eval ke X.env) :: starEach [] X.env:=by exact lW rfl) (hplain:(backTo cpos (starEach [] X.env)).any (·.1)=false:=by rfl) :
 DS1 X fl (.Expr (.Call (.Attribute (.Name x vpos) "pop" apos) [ke] [] cpos) pos) (Es i fk) :=
 PS.imp (tK (Iz PySem.F.plainAttrs_list PySem.F.slot_list_pop PySem.F.type_list_pop IV (oA hN hv hd hcd) (jW hk pq hst) hbase hfew hline hst hplain) hs) fun Dn σ H hh=>by
 obtain ⟨G,ow,δ,o,R,hf,q⟩:=hh
 unfold Es qPo at hf
 split at hf
 case h_2=>cases hf
 next j ek =>
 obtain ⟨l,m,e1,e2,rfl⟩:=CW hf
 unfold G4 at e2
 by_cases hl:l.length ≤ 1000000
 case neg=>rw [if_neg hl] at e2;cases e2
 rw [if_pos hl] at e2
 cases ep:pIx l.length j with
 | none=>rw [ep] at e2;cases e2
 | some n =>
  rw [ep] at e2
  cases e2
  obtain ⟨a,xs,ho,h1,h2,h3⟩:=vW R hfl e1
  obtain ⟨p1,p2,p3,p4⟩:=Nf ep
  refine ⟨_,h1,.inl ⟨rfl,_,SqL.of h2⟩,G,ow,δ,_,R,ek,fun v H' s r=>?_⟩
  obtain rfl:=RA.intE r
  have hn:n < xs.length:=by rw [h3.length];exact p2
  exact ⟨a,xs,j,n,xs[n],rfl,rfl,s _ _ h2,by omega,by omega,by rw [h3.length];exact p1,aN hn,q ow σ _ ((R.grow s).mut hfl ho ((h3.same s).erase n))⟩
theorem CZ {i:Nat} {x:Str} {vpos apos cpos:Pos} (hfl:fl[i]? = some .O) (hk:DE X fl .P ke fk) (h:DE X fl .A e f) (hN:X.N[i]? = some x) (hv:Vis X.env.scope x:=by first | exact Or.inl rfl | exact Or.inr (Or.inl rfl) | exact Or.inr (Or.inr rfl)) (hd:(x == ("__debug__" : Str))=false:=by decide)
 (hcd:(x == ("__classdict__" : Str))=false:=by decide)
 (hs:swapsWith (.Call (.Attribute (.Name x vpos) "insert" apos) [ke,e] [] cpos) none pos.line X.env=pure false:=by rfl)
 (hbase:attributeBase (.Name x vpos) "insert" X.env (eval (.Name x vpos) X.env)=eval (.Name x vpos) X.env:=by rfl)
 (hfew:((backTo cpos (starEach [ke,e] X.env)).all (fun x=>!x.1) && (backToKw cpos (keywordEach [] X.env)).all (fun x=>x.1.isSome)
  && decide (([ke,e]:List Expr).length + ([]:List Keyword).length + (if ([]:List Keyword).isEmpty then 0 else 1) < 30))=true:=by rfl)
 (hline:(apos.endLine == cpos.line)=true:=by rfl) (hst:starEach [ke,e] X.env=(false,eval ke X.env) :: starEach [e] X.env:=by exact lW rfl) (hst2:starEach [e] X.env=(false,eval e X.env) :: starEach [] X.env:=by exact lW rfl) (hplain:(backTo cpos (starEach [e] X.env)).any (·.1)=false:=by exact En rfl) :
 DS1 X fl (.Expr (.Call (.Attribute (.Name x vpos) "insert" apos) [ke,e] [] cpos) pos) (zf i fk f) :=
 PS.imp (tK (Iz PySem.F.plainAttrs_list PySem.F.slot_list_insert PySem.F.type_list_insert G5 (oA hN hv hd hcd) (jW hk (jW h pq hst2) hst) hbase hfew hline hst hplain) hs) fun Dn σ H hh=>by
 obtain ⟨G,ow,δ,o,R,hf,q⟩:=hh
 unfold zf qIn at hf
 split at hf
 case h_2=>cases hf
 next j d ek ed =>
 obtain ⟨l,m,e1,e2,rfl⟩:=CW hf
 unfold Bc at e2
 by_cases hl:l.length < 1000000∧-(2 ^ 62) ≤ j∧j < 2 ^ 62
 case neg=>rw [if_neg hl] at e2;cases e2
 rw [if_pos hl] at e2
 cases e2
 obtain ⟨a,xs,ho,h1,h2,h3⟩:=vW R hfl e1
 refine ⟨_,h1,.inl ⟨rfl,_,SqL.of h2⟩,G,ow,δ,_,R,ek,fun v H' s r=>?_⟩
 obtain rfl:=RA.intE r
 refine ⟨G,ow,δ,d,R.grow s,ed,fun u H2 s2 r2=>?_⟩
 have S:=s.trans s2
 refine ⟨a,xs,j,u,rfl,rfl,S _ _ h2,by omega,by omega,by rw [h3.length];exact mQ hl.1 (by decide),?_⟩
 have R':=R.grow S
 have h3':=h3.same S
 refine q ow σ _ (R'.mut hfl ho ?_)
 rw [h3.length]
 exact (h3'.take _).append (.cons r2 (h3'.drop _))
end
section
variable {X:Cx} {fl:List Fl} {a:Expr} {pos p p2 pos2:Pos} {fa:FA}
end
end D3
namespace D3
open PySem PySem.Spec PyProof.Rows L2 My
section
variable {X:Cx} {pins:List (Addr × Obj)} {σ:L2.St} {H:Hp} {s:Shared}
theorem JG:∀ {kvs:List (D × D)} {qs:List (Int × Int)},iiD kvs=some qs→dk0 kvs=qs.map fun q=>(.inl q.1,.int q.2)
 | [],_,e=>by cases e;rfl
 | (k,v) :: r,qs,e=>by
  unfold iiD at e
  split at e
  ·next h=>cases h
  ·next i j r' h =>
   cases h
   cases e3:iiD r with
   | none=>rw [e3] at e;cases e
   | some q2 =>
    rw [e3] at e
    cases e
    rw [dk0,JG e3]
    rfl
  ·cases e
theorem JH:∀ {kvs:List (D × D)} {qs:List (Int × Int)},iiD kvs=some qs→wR kvs=true
 | [],_,_=>rfl
 | (a,b) :: r,qs,h=>by
  unfold iiD at h
  split at h
  ·next e=>cases e
  ·next e =>
   cases e
   cases e3:iiD r with
   | none=>rw [e3] at h;cases h
   | some S=>exact (show wR r=true from JH e3)
  ·cases h
theorem uZ {kvs:List (D × D)} (h:(iiD kvs).isSome=true):wR kvs=true:=by
 obtain ⟨_,h⟩:=jQ.mp h
 exact JH h
theorem Ry {kvs:List (D × D)} {qs:List (Int × Int)} (h:iiD kvs=some qs):dh0 kvs = .dK (dk0 kvs):=by
 cases kvs with
 | nil=>rfl
 | cons q r =>
  obtain ⟨k,v⟩:=q
  unfold dh0
  cases k with
  | int i=>rfl
  | _=>unfold iiD at h;cases h
theorem yh {P P':Program} {w w':World}:∀ {es:List DictEntry} {kvs:List (Key × Value)},Pairs (dH P w) es kvs→Pairs (dH P' w') es kvs
 | _,_,.nil=>.nil
 | _,_,.cons h1 h2 q=>.cons h1 h2 (yh q)
theorem yj {P:Program} {w:World}:∀ {es:List DictEntry} {kvs:List (Key × Value)},Pairs (dH P w) es kvs→∀ x ∈ es,∃ kv ∈ kvs,(dH P w).is kv.1 x.key=true
 | _,_,.nil,_,h=>by cases h
 | _,_,.cons h1 h2 q,x,h=>by
  rcases aR.mp h with rfl | z
  ·exact ⟨_,aP,h1⟩
  ·obtain ⟨kv,m,e⟩:=yj q x z
   exact ⟨kv,aL _ m,e⟩
theorem C_ {h:Heap} {a:Addr} {P P':Program} {w w':World} {kvs:List (Key × Value)} (hi:∀ kv ∈ kvs,∃ i,kv.1 = .inl i) (d:h.DictOf (dH P w) a kvs):h.DictOf (dH P' w') a kvs:=by
 obtain ⟨o,es,ep,e,c1,c2,c3,c4,c5⟩:=d
 refine ⟨o,es,ep,e,c1,c2,fun x hx=>?_,yh c4,c5⟩
 obtain ⟨k,k1,k2⟩:=c3 x hx
 obtain ⟨kv,m,k3⟩:=yj c4 x (Array.mem_def.mp hx)
 have ek:=(dH P w).inj _ _ _ k1 k3
 obtain ⟨i,ei⟩:=hi kv m
 rw [ek,ei] at k1 k2
 exact ⟨.inl i,k1,k2⟩
theorem nY:∀ {qs:List (Int × Int)} {vs:List (Key × Value)},KV (qs.map fun q=>((.inl q.1,.int q.2):Key × V)) vs→vs.map (·.1)=qs.map (fun q=>.inl q.1)∧∀ k v,(k,v) ∈ vs→∃ i j t,k = .inl i∧v = .int j t∧(i,j) ∈ qs
 | [],_,h=>by cases h;exact ⟨rfl,fun _ _ h=>by cases h⟩
 | q :: qs,_,h=>by
  cases h with
  | cons h1 h2 =>
   rename_i b bs
   obtain ⟨e1,e2⟩:=nY h2
   obtain ⟨e3,e4⟩:=h1
   obtain ⟨t,e4⟩:=e4
   refine ⟨by rw [bM,bM,e1,← e3],fun k v hm=>?_⟩
   rcases aR.mp hm with z | z
   ·subst z
    exact ⟨q.1,q.2,t,e3.symm,e4,aP⟩
   ·obtain ⟨i,j,t',z1,z2,z3⟩:=e2 k v z
    exact ⟨i,j,t',z1,z2,aL _ z3⟩
theorem PX (I:L2.Inv X pins σ H s) {a:Addr} {kvs:List (D × D)} {qs:List (Int × Int)} (hq:iiD kvs=some qs) (h:L2.Rd H a (dh0 kvs)):(a == sysModules)=false∧∃ vs,KV (qs.map fun q=>((.inl q.1,.int q.2):Key × V)) vs∧∀ P w,s.heap.DictOf (dH P w) a vs:=by
 rw [Ry hq,JG hq] at h
 obtain ⟨_,hs,vs,kv,hd⟩:=(show iI X.prog X.w H s.heap a (.dK _) from h.ok I.hok)
 exact ⟨hs,vs,kv,fun P w=>C_ (fun x hx=>by obtain ⟨i,_,_,z,_⟩:=(nY kv).2 x.1 x.2 hx;exact ⟨i,z⟩) hd⟩
theorem JK {A:Around} {s:Shared} {qs:List (Int × Int)} {ka kb:List (Key × Value)} (ra:KV (qs.map fun q=>((.inl q.1,.int q.2):Key × V)) ka) (rb:KV (qs.map fun q=>((.inl q.1,.int q.2):Key × V)) kb) (hn:(kb.map (·.1)).Nodup):PySem.W.KeqHits A s kb ka true:=by
 have hnq:(qs.map fun q=>(Sum.inl q.1:Key)).Nodup:=by rw [← (nY rb).1];exact hn
 have step:∀ (l:List (Key × Value)),(∀ x ∈ l,x ∈ ka)→PySem.W.KeqHits A s kb l true:=by
  intro l
  induction l with
  | nil=>intro _;exact .nil
  | cons x l ih =>
   intro hl
   obtain ⟨k,v⟩:=x
   obtain ⟨i,j,t,rfl,rfl,hm⟩:=(nY ra).2 k v (hl _ aP)
   have hk:(Sum.inl i:Key) ∈ kb.map (·.1):=by rw [(nY rb).1];exact bT.mpr ⟨(i,j),hm,rfl⟩
   obtain ⟨⟨k',y⟩,hy,ek⟩:=bT.mp hk
   have ek:k' = .inl i:=ek
   subst ek
   obtain ⟨i',j',t',e1,rfl,hm'⟩:=(nY rb).2 _ y hy
   cases e1
   have ej:j'=j:=by
    have inj:∀ {l:List (Int × Int)},(l.map fun q=>(Sum.inl q.1:Key)).Nodup→(i,j) ∈ l→(i,j') ∈ l→j'=j:=by
     intro l hnd h1 h2
     induction l with
     | nil=>cases h1
     | cons p l ih =>
      rw [bM,dF] at hnd
      rcases aR.mp h1 with z1 | z1 <;> rcases aR.mp h2 with z2 | z2
      ·rw [← z1] at z2;cases z2;rfl
      ·subst z1;exact absurd (bT.mpr ⟨_,z2,rfl⟩) hnd.1
      ·subst z2;exact absurd (bT.mpr ⟨_,z1,rfl⟩) hnd.1
      ·exact ih hnd.2 z1 z2
    exact inj hnq hm hm'
   subst ej
   obtain ⟨n,hn',en⟩:=List.mem_iff_getElem.mp hy
   have hv:valueAt kb (.inl i)=some (.int j' t'):=valueAt_of_get hn (i:=n) (by rw [aN hn',en])
   have:=SeqAt.EqAt.int_int (A:=A) (s:=s) j' t j' t'
   rw [beq_self_eq_true] at this
   have q:=PySem.W.KeqHits.hit hv this (ih fun x hx=>hl x (aL _ hx))
   rwa [Bool.and_true] at q
 exact step ka fun _ h=>h
theorem yp (I:L2.Inv X pins σ H s) {a b:Addr} {kvs:List (D × D)} (hk:(iiD kvs).isSome=true) (ha:L2.Rd H a (dh0 kvs)) (hb:L2.Rd H b (dh0 kvs)) {A:Around} (hu:A.units < cLine):SeqAt.RcAt A s (.ref a) (.ref b) true:=by
 obtain ⟨qs,hq⟩:=jQ.mp hk
 obtain ⟨ma,va,ka,da⟩:=PX I hq ha
 obtain ⟨mb,vb,kb,db⟩:=PX I hq hb
 intro prog w E Q h
 have hn:(vb.map (·.1)).Nodup:=by obtain ⟨_,_,_,_,_,_,_,_,c⟩:=db prog w;exact c
 refine PySem.W.keq_eq (knd:=dH prog w) (r:=true) ma mb (da prog w) (db prog w) hu (fun _=>JK ka kb hn) ?_
 have e:va.length=vb.length:=by
  have h1:=congrArg pQ (nY ka).1
  have h2:=congrArg pQ (nY kb).1
  simp at h1 h2
  omega
 rw [e,beq_self_eq_true,jz]
 exact h
theorem G6 (I:L2.Inv X pins σ H s) {a b:Addr} {kvs:List (D × D)} (hk:(iiD kvs).isSome=true) (ha:L2.Rd H a (dh0 kvs)) (hb:L2.Rd H b (dh0 kvs)) {A:Around} (hu:A.units < cLine):SeqAt.EqAt A s (.ref a) (.ref b) true:=by
 by_cases e:a=b
 ·subst e;exact SeqAt.EqAt.same _
 ·exact SeqAt.EqAt.of_refs e (yp I hk ha hb hu)
mutual
theorem Nh (I:L2.Inv X pins σ H s) {ok ok':Ok} {pl pl':Bool}:∀ (d:D) {x y:V} (r1:RA X.K ok pl H x d) (r2:RA X.K ok' pl' H y d) {v u:Value} (_:RelV x v) (_:RelV y u) (A:Around) (hu:A.units + d.depth < cLine) (hn:noK d=true),SeqAt.EqAt A s v u true
 | .none,_,_,r1,r2,_,_,h1,h2,A,hu,hn=>by cases r1;cases r2;cases h1;cases h2;exact SeqAt.EqAt.same _
 | .bool b,_,_,r1,r2,_,_,h1,h2,A,hu,hn=>by cases r1;cases r2;cases h1;cases h2;exact SeqAt.EqAt.same _
 | .int i,_,_,r1,r2,_,_,h1,h2,A,hu,hn=>by
  cases r1;cases r2
  obtain ⟨t,rfl⟩:=h1
  obtain ⟨t',rfl⟩:=h2
  have:=SeqAt.EqAt.int_int (A:=A) (s:=s) i t i t'
  rwa [beq_self_eq_true] at this
 | .str z,_,_,r1,r2,_,_,h1,h2,A,hu,hn=>by
  cases r1;cases r2
  obtain ⟨t,rfl⟩:=h1
  obtain ⟨t',rfl⟩:=h2
  have:=SeqAt.EqAt.str_str (A:=A) (s:=s) z t z t'
  rwa [beq_self_eq_true] at this
 | .list ds,_,_,r1,r2,_,_,h1,h2,A,hu,hn=>by
  obtain ⟨a,xs,rfl,s1,q1⟩:=r1.lstE
  obtain ⟨b,ys,rfl,s2,q2⟩:=r2.lstE
  cases h1;cases h2
  by_cases e:a=b
  ·subst e;exact SeqAt.EqAt.same _
  obtain ⟨its,v1,p1,z1⟩:=I.list s1
  obtain ⟨its2,v2,p2,z2⟩:=I.list s2
  have hd:(PyData.list ds).depth=PyData.depthAll ds + 1:=by simp [PyData.depth]
  have l1:its.length=ds.length:=by rw [← v1.length,q1.length]
  have l2:its2.length=ds.length:=by rw [← v2.length,q2.length]
  refine SeqAt.EqAt.of_refs e ?_
  have R:=SeqAt.RcAt.lists (A:=A) (e:=fun _=>true) p1.isList p2.isList (by rw [bx,bx,l1,l2]) (by omega) (fun j g1 g2=>qW I ds q1 q2 v1 v2 A.in1 (by simp only [Around.in1_units];omega) hn j (by simpa using g1) (by simpa using g2))
  rwa [show (aX its.toArray.size).all (fun _=>true)=true by simp] at R
 | .tuple ds,_,_,r1,r2,_,_,h1,h2,A,hu,hn=>by
  obtain ⟨a,xs,rfl,s1,q1⟩:=r1.tupE
  obtain ⟨b,ys,rfl,s2,q2⟩:=r2.tupE
  cases h1;cases h2
  by_cases e:a=b
  ·subst e;exact SeqAt.EqAt.same _
  obtain ⟨its,v1,p1,z1⟩:=I.tuple s1
  obtain ⟨its2,v2,p2,z2⟩:=I.tuple s2
  have hd:(PyData.tuple ds).depth=PyData.depthAll ds + 1:=by simp [PyData.depth]
  have l1:its.length=ds.length:=by rw [← v1.length,q1.length]
  have l2:its2.length=ds.length:=by rw [← v2.length,q2.length]
  refine SeqAt.EqAt.of_refs e ?_
  have R:=SeqAt.RcAt.tuples (A:=A) (e:=fun _=>true) p1 p2 (by omega) (fun j g1 g2=>qW I ds q1 q2 v1 v2 A.in1 (by simp only [Around.in1_units];omega) hn j (by simpa using g1) (by simpa using g2))
  rwa [show ((aX (min its.toArray.size its2.toArray.size)).all (fun _=>true) && its.toArray.size == its2.toArray.size)=true by simp [l1,l2]] at R
 | .dict kvs,_,_,r1,r2,_,_,h1,h2,A,hu,hn=>by
  obtain ⟨a,rfl,ha⟩:=r1.dicE (uZ hn)
  obtain ⟨b,rfl,hb⟩:=r2.dicE (uZ hn)
  cases h1;cases h2
  exact G6 I hn ha hb (by omega)
theorem qW (I:L2.Inv X pins σ H s) {ok ok':Ok} {pl pl':Bool}:∀ (ds:List D) {xs ys:List V} (_:RAs X.K ok pl H xs ds) (_:RAs X.K ok' pl' H ys ds) {us ws:List Value} (_:Vals xs us) (_:Vals ys ws) (A:Around) (_:A.units + PyData.depthAll ds < cLine) (_:CT ds=true) (j:Nat) (g1:j < us.length) (g2:j < ws.length),SeqAt.EqAt A s us[j] ws[j] true
 | [],_,_,q1,q2,_,_,v1,v2,A,hu,hn,j,g1,g2=>by
  cases q1;cases v1
  exact absurd g1 (jr _)
 | d :: ds,_,_,q1,q2,_,_,v1,v2,A,hu,hn,j,g1,g2=>by
  cases q1 with
  | cons a1 b1 =>
   cases q2 with
   | cons a2 b2 =>
    cases v1 with
    | cons c1 d1 =>
     cases v2 with
     | cons c2 d2 =>
      have hd:PyData.depthAll (d :: ds)=max d.depth (PyData.depthAll ds):=by simp [PyData.depthAll]
      rw [CT,aO] at hn
      cases j with
      | zero=>exact Nh I d a1 a2 c1 c2 A (by omega) hn.1
      | succ j=>exact qW I ds b1 b2 d1 d2 A (by omega) hn.2 j (by simpa using g1) (by simpa using g2)
end
end
section
variable {X:Cx} {K:PySem.W.Frag}
theorem Ni {pins:List (Addr × Obj)} {σ:L2.St} {H:Hp} {s:Shared} (I:L2.Inv X pins σ H s) {ok ok':Ok} {pl pl':Bool} {d:D} {x y:V} (r1:RA X.K ok pl H x d) (r2:RA X.K ok' pl' H y d) {v u:Value} (h1:RelV x v) (h2:RelV y u) (hb:Bd d=true) (hn:noK d=true) (A:Around) (hu:A.units + d.depth < cLine):SeqAt.RcAt A s v u true:=by
 cases d with
 | none=>cases hb
 | bool _=>cases hb
 | int _=>cases hb
 | str _=>cases hb
 | list ds =>
  obtain ⟨a,xs,rfl,s1,q1⟩:=r1.lstE
  obtain ⟨b,ys,rfl,s2,q2⟩:=r2.lstE
  cases h1;cases h2
  obtain ⟨its,v1,p1,z1⟩:=I.list s1
  obtain ⟨its2,v2,p2,z2⟩:=I.list s2
  have hd:(PyData.list ds).depth=PyData.depthAll ds + 1:=by simp [PyData.depth]
  have l1:its.length=ds.length:=by rw [← v1.length,q1.length]
  have l2:its2.length=ds.length:=by rw [← v2.length,q2.length]
  have R:=SeqAt.RcAt.lists (A:=A) (e:=fun _=>true) p1.isList p2.isList (by rw [bx,bx,l1,l2]) (by omega) (fun j g1 g2=>qW I ds q1 q2 v1 v2 A.in1 (by simp only [Around.in1_units];omega) hn j (by simpa using g1) (by simpa using g2))
  rwa [show (aX its.toArray.size).all (fun _=>true)=true by simp] at R
 | tuple ds =>
  obtain ⟨a,xs,rfl,s1,q1⟩:=r1.tupE
  obtain ⟨b,ys,rfl,s2,q2⟩:=r2.tupE
  cases h1;cases h2
  obtain ⟨its,v1,p1,z1⟩:=I.tuple s1
  obtain ⟨its2,v2,p2,z2⟩:=I.tuple s2
  have hd:(PyData.tuple ds).depth=PyData.depthAll ds + 1:=by simp [PyData.depth]
  have l1:its.length=ds.length:=by rw [← v1.length,q1.length]
  have l2:its2.length=ds.length:=by rw [← v2.length,q2.length]
  have R:=SeqAt.RcAt.tuples (A:=A) (e:=fun _=>true) p1 p2 (by omega) (fun j g1 g2=>qW I ds q1 q2 v1 v2 A.in1 (by simp only [Around.in1_units];omega) hn j (by simpa using g1) (by simpa using g2))
  rwa [show ((aX (min its.toArray.size its2.toArray.size)).all (fun _=>true) && its.toArray.size == its2.toArray.size)=true by simp [l1,l2]] at R
 | dict kvs =>
  obtain ⟨a,rfl,ha⟩:=r1.dicE (uZ hn)
  obtain ⟨b,rfl,hb'⟩:=r2.dicE (uZ hn)
  cases h1;cases h2
  exact yp I hn ha hb' (by omega)
noncomputable def Vj (K:PySem.W.Frag):R2:=fun x y H Q=>Q6 K x y H Q∨∃ d,RA K ok1 true H x d∧RA K ok1 true H y d∧Bd d=true∧d.depth ≤ 64∧noK d=true∧Q (.bl true) H
theorem Dc (hu:X.A.units + 64 < cLine):OpR X (compareOp .Eq) (Vj X.K):=by
 intro pins s σ H x y v u Q I rx ry h
 rcases h with h | ⟨d,r1,r2,hb,hd,hn,q⟩
 ·exact jA hu pins s σ H x y v u Q I rx ry h
 ·exact Ni I r1 r2 rx ry hb hn X.A (by omega) _ _ _ _ ⟨.bl true,H,I,rfl,q⟩
theorem JL:BrO K (Vj K) tZ:=by
 intro H x y dx dy d Q rx ry e q
 unfold tZ at e
 by_cases z:(SeqAt.shaped dx && SeqAt.shaped dy)=true
 ·rw [if_pos z] at e
  cases e
  rw [aO] at z
  exact .inl ⟨dx,dy,rx.rd (SeqAt.canLay_of_shaped z.1),ry.rd (SeqAt.canLay_of_shaped z.2),z.1,z.2,q _ rfl (.bl _)⟩
 ·rw [if_neg z] at e
  split at e
  ·next c =>
   obtain ⟨c1,c2,c3,c4⟩:=c
   subst c1
   cases e
   exact .inr ⟨dx,rx,ry,c2,c3,c4,q _ rfl (.bl _)⟩
  ·cases e
end
section
variable {X:Cx} {fl:List Fl} {es:List Expr} {pos:Pos}
end
section
variable {X:Cx} {fl:List Fl} {e:Expr} {f:FE}
theorem Vk {tg l:Expr} {t1 t2:TI} (h1:PI X tg l t1) (h2:PI X tg l t2):PI X tg l (fun σ H R=>t1 σ H R∨t2 σ H R):=fun pins s σ H R I h=>by
 rcases h with h | h
 ·exact h1 pins s σ H R I h
 ·exact h2 pins s σ H R I h
theorem Rz {K:PySem.W.Frag} {G:Gh} {ow:Ow} {σ:St} {H Hb:Hp} {δ:DS} {L:List Nat} {v:V} {l:List D} (R:Rel K fl G ow σ H δ) (r:Rs K G.H0 ow Hb H (.B L) v (.tuple l)):∃ a xs,v = .ref a∧SqT K H a xs ∧
 ∀ H2:Hp,(∀ b o,H b=some o→(∀ i,ow i=some b→i ∈ L)→(∀ i,b ∉ ow.n i)→H2 b=some o)→SqT K H2 a xs∧RAs K (fun b=>okA ow b∧H b ≠ none) true H2 xs l:=by
 rcases r with r | ⟨i,hi,a,xs,ds,ho,rfl,e,hx,hr⟩
 ·cases r with
  | tup e q =>
   refine ⟨_,_,rfl,e.sq,fun H2 hk=>⟨?_,RAs.keep hk R.ownL R.ownC (fun b z=>z.1) q.track⟩⟩
   exact .inl (.inl (hk _ _ e (nm R.ownL e (by intro xs z;cases z)) (nm2 R.ownC e Chg.tup)))
 ·cases e
theorem RB {tg:Expr} {L:List Nat} (h:DE X fl (.B L) e f):DI X fl L tg e (Rt f):=PI.imp (Vk (D_ h) (QG h)) fun σ H R' h=>by
 obtain ⟨G,ow,δ,l,R,hf,q⟩:=h
 obtain ⟨d,e1,e2⟩:=bind1 hf
 cases d with
 | list l' =>
  cases e2
  refine .inl ⟨G,ow,δ,_,R,e1,fun v H1 s r=>?_⟩
  obtain ⟨a,xs,rfl,hx,keep⟩:=vX (R.grow s) r
  refine ⟨a,rfl,⟨xs,hx⟩,q _ _ s fun H2 k2 i=>?_⟩
  obtain ⟨k3,k4⟩:=keep H2 k2
  refine ⟨fun d hd=>?_,fun hl=>⟨xs,k3,by rw [k4.length];exact hl⟩⟩
  obtain ⟨y,hy,ry⟩:=k4.get hd
  refine ⟨⟨xs,y,k3,hy⟩,fun x H3 hyl=>?_⟩
  obtain ⟨e,hz⟩:=hyl
  subst e
  have:some y=some x:=hy.symm.trans (hz xs k3)
  cases this
  exact ⟨Same.refl _,ry⟩
 | tuple l' =>
  cases e2
  refine .inr ⟨G,ow,δ,_,R,e1,fun v H1 s r=>?_⟩
  obtain ⟨a,xs,rfl,hx,keep⟩:=Rz (R.grow s) r
  refine ⟨a,rfl,⟨xs,hx⟩,q _ _ s fun H2 k2 i=>?_⟩
  obtain ⟨k3,k4⟩:=keep H2 k2
  refine ⟨fun d hd=>?_,fun hl=>⟨xs,k3,by rw [k4.length];exact hl⟩⟩
  obtain ⟨y,hy,ry⟩:=k4.get hd
  refine ⟨⟨xs,y,k3,hy⟩,fun x H3 hyl=>?_⟩
  obtain ⟨e,hz⟩:=hyl
  subst e
  have:some y=some x:=hy.symm.trans (hz xs k3)
  cases this
  exact ⟨Same.refl _,ry⟩
 | none=>cases e2
 | bool _=>cases e2
 | int _=>cases e2
 | str _=>cases e2
 | dict _=>cases e2
end
section
variable {X:Cx} {fl:List Fl} {a:Expr} {f:FE} {pos p:Pos}
theorem Nj {L:List Nat} (h:DE X fl (.B L) a f) (hg:Gl X "tuple") (hm:X.mg "tuple" = none)
 (he:starEach [a] X.env=(false,eval a X.env) :: starEach [] X.env:=by exact lW rfl) (hpl:(backTo pos (starEach [] X.env)).any (·.1)=false:=by rfl):DE X fl .A (.Call (.Name "tuple" p) [a] [] pos) (dUn Et f) :=
 PE.imp (uE wO hg hm boot_tuple (jW h pq he) (by decide) (by decide) he hpl) fun σ H Q h=>by
 obtain ⟨G,ow,δ,d,R,hf,q⟩:=h
 obtain ⟨x,e1,e2⟩:=bind1 hf
 refine ⟨G,ow,δ,x,R,e1,fun v H1 s1 r1=>?_⟩
 unfold Et at e2
 split at e2
 ·cases e2
  obtain ⟨p,xs,rfl,hx,hr⟩:=vY r1
  exact ⟨p,xs,rfl,.inl ⟨hx,fun pn hp=>q _ _ (s1.trans (fX hp _)) (.tup fG (hr.same (fX hp _)))⟩⟩
 ·cases e2
  rcases r1 with r1 | ⟨i,hi,a,xs,ds,ho,rfl,e,hx,hr⟩
  ·obtain ⟨p,xs,rfl,hx,hr⟩:=r1.tupE0
   exact ⟨p,xs,rfl,.inr ⟨hx.sq,q _ _ s1 (.tup hx hr)⟩⟩
  ·cases e
 ·cases e2
end
section
variable {X:Cx} {fl:List Fl} {a b:Expr} {fa fb:FE} {pos:Pos}
end
end D3
namespace D3
open PySem PySem.Spec PyProof.Rows L2 My
section
variable {X:Cx} {K:PySem.W.Frag}
noncomputable def Vl (K:PySem.W.Frag):R2:=fun x y H Q=>∃ da l,RdV K H x da∧((RdV K H y (.list l)∧SeqAt.shaped (.list l)=true)∨(RdV K H y (.tuple l)∧SeqAt.shaped (.tuple l)=true))∧SeqAt.shaped da=true∧Q (.bl (l.any fun z=>PyData.eqv z da)) H
noncomputable def Eu (K:PySem.W.Frag):R2:=fun x y H Q=>∃ da l,RdV K H x da∧((RdV K H y (.list l)∧SeqAt.shaped (.list l)=true)∨(RdV K H y (.tuple l)∧SeqAt.shaped (.tuple l)=true))∧SeqAt.shaped da=true∧Q (.bl (!l.any fun z=>PyData.eqv z da)) H
theorem u_ {A:Around} {l:List D} {d:D} (hu:A.units + 64 < cLine) (h:PyData.depthAll l + 1 ≤ 64):A.units + 1 + min (PyData.depthAll l) d.depth < cLine:=by
 have:=Nat.min_le_left (PyData.depthAll l) d.depth
 omega
theorem nZ {l:List D} (h:SeqAt.shaped (.list l)=true):PyData.canLayAll0 l=true∧PyData.depthAll l + 1 ≤ 64:=by
 unfold SeqAt.shaped at h
 rw [aO] at h
 refine ⟨by simpa [PyData.canLay0] using h.1,?_⟩
 have:=of_decide_eq_true h.2
 simpa [PyData.depth] using this
theorem mZ {l:List D} (h:SeqAt.shaped (.tuple l)=true):PyData.canLayAll0 l=true∧PyData.depthAll l + 1 ≤ 64:=by
 unfold SeqAt.shaped at h
 rw [aO] at h
 refine ⟨by simpa [PyData.canLay0] using h.1,?_⟩
 have:=of_decide_eq_true h.2
 simpa [PyData.depth] using this
theorem RD (hu:X.A.units + 64 < cLine):OpR X (compareOp .In) (Vl X.K):=by
 intro pins s σ H x y v u Q I rx ry h
 obtain ⟨da,l,ha,hb,sa,q⟩:=h
 obtain ⟨as,za⟩:=ha.reads I rx
 rcases hb with ⟨hb,sb⟩ | ⟨hb,sb⟩
 ·obtain ⟨bs,zb⟩:=hb.reads I ry
  exact SeqAt.in_list_reads zb za (nZ sb).1 (SeqAt.canLay_of_shaped sa) (u_ hu (nZ sb).2) ⟨.bl _,H,I,rfl,q⟩
 ·obtain ⟨bs,zb⟩:=hb.reads I ry
  exact SeqAt.in_tuple_reads zb za (mZ sb).1 (SeqAt.canLay_of_shaped sa) (u_ hu (mZ sb).2) ⟨.bl _,H,I,rfl,q⟩
theorem rE (hu:X.A.units + 64 < cLine):OpR X (compareOp .NotIn) (Eu X.K):=by
 intro pins s σ H x y v u Q I rx ry h
 obtain ⟨da,l,ha,hb,sa,q⟩:=h
 obtain ⟨as,za⟩:=ha.reads I rx
 rcases hb with ⟨hb,sb⟩ | ⟨hb,sb⟩
 ·obtain ⟨bs,zb⟩:=hb.reads I ry
  exact SeqAt.notIn_list_reads zb za (nZ sb).1 (SeqAt.canLay_of_shaped sa) (u_ hu (nZ sb).2) ⟨.bl _,H,I,rfl,q⟩
 ·obtain ⟨bs,zb⟩:=hb.reads I ry
  exact SeqAt.notIn_tuple_reads zb za (mZ sb).1 (SeqAt.canLay_of_shaped sa) (u_ hu (mZ sb).2) ⟨.bl _,H,I,rfl,q⟩
theorem Xi:BrO K (Vl K) gIn:=by
 intro H x y dx dy d Q rx ry e q
 cases dy with
 | list l =>
  by_cases z:(SeqAt.shaped dx && SeqAt.shaped (.list l))=true
  ·have e:(if (SeqAt.shaped dx && SeqAt.shaped (.list l))=true then some (PyData.bool (l.any fun z=>PyData.eqv z dx)) else none)=some d:=e
   rw [if_pos z] at e
   cases e
   rw [aO] at z
   exact ⟨dx,l,rx.rd (SeqAt.canLay_of_shaped z.1),.inl ⟨ry.rd (SeqAt.canLay_of_shaped z.2),z.2⟩,z.1,q _ rfl (.bl _)⟩
  ·have e:(if (SeqAt.shaped dx && SeqAt.shaped (.list l))=true then some (PyData.bool (l.any fun z=>PyData.eqv z dx)) else none)=some d:=e
   rw [if_neg z] at e
   cases e
 | tuple l =>
  by_cases z:(SeqAt.shaped dx && SeqAt.shaped (.tuple l))=true
  ·have e:(if (SeqAt.shaped dx && SeqAt.shaped (.tuple l))=true then some (PyData.bool (l.any fun z=>PyData.eqv z dx)) else none)=some d:=e
   rw [if_pos z] at e
   cases e
   rw [aO] at z
   exact ⟨dx,l,rx.rd (SeqAt.canLay_of_shaped z.1),.inr ⟨ry.rd (SeqAt.canLay_of_shaped z.2),z.2⟩,z.1,q _ rfl (.bl _)⟩
  ·have e:(if (SeqAt.shaped dx && SeqAt.shaped (.tuple l))=true then some (PyData.bool (l.any fun z=>PyData.eqv z dx)) else none)=some d:=e
   rw [if_neg z] at e
   cases e
 | _=>cases e
theorem vd:BrO K (Eu K) nA:=by
 intro H x y dx dy d Q rx ry e q
 cases dy with
 | list l =>
  by_cases z:(SeqAt.shaped dx && SeqAt.shaped (.list l))=true
  ·have e:(if (SeqAt.shaped dx && SeqAt.shaped (.list l))=true then some (PyData.bool (!l.any fun z=>PyData.eqv z dx)) else none)=some d:=e
   rw [if_pos z] at e
   cases e
   rw [aO] at z
   exact ⟨dx,l,rx.rd (SeqAt.canLay_of_shaped z.1),.inl ⟨ry.rd (SeqAt.canLay_of_shaped z.2),z.2⟩,z.1,q _ rfl (.bl _)⟩
  ·have e:(if (SeqAt.shaped dx && SeqAt.shaped (.list l))=true then some (PyData.bool (!l.any fun z=>PyData.eqv z dx)) else none)=some d:=e
   rw [if_neg z] at e
   cases e
 | tuple l =>
  by_cases z:(SeqAt.shaped dx && SeqAt.shaped (.tuple l))=true
  ·have e:(if (SeqAt.shaped dx && SeqAt.shaped (.tuple l))=true then some (PyData.bool (!l.any fun z=>PyData.eqv z dx)) else none)=some d:=e
   rw [if_pos z] at e
   cases e
   rw [aO] at z
   exact ⟨dx,l,rx.rd (SeqAt.canLay_of_shaped z.1),.inr ⟨ry.rd (SeqAt.canLay_of_shaped z.2),z.2⟩,z.1,q _ rfl (.bl _)⟩
  ·have e:(if (SeqAt.shaped dx && SeqAt.shaped (.tuple l))=true then some (PyData.bool (!l.any fun z=>PyData.eqv z dx)) else none)=some d:=e
   rw [if_neg z] at e
   cases e
 | _=>cases e
end
section
variable {X:Cx} {fl:List Fl} {a:Expr} {f:FE} {pos:Pos}
end
noncomputable def spL (K:PySem.W.Frag) (F:List D→Option D):Sp:=fun vs H Q _=>∃ ds d,(Tb H∧RAs K ok1 true H vs ds)∧F ds=some d∧∀ v H',Same H H'→RA K ok1 true H' v d→Q v H'
section
variable {X:Cx} {fl:List Fl} {e:Expr} {es:List Expr} {f:FE} {pos p:Pos} {x:Str} {n:Nat} {F:List D→Option D} {fa:FA}
theorem Ew (h:DE X fl .P e f):DS1 X fl (.Return (some e) pos) (Bf f):=PS.imp (Ia h) fun Dn σ H h=>by
 obtain ⟨G,ow,δ,o,R,hf,q⟩:=h
 obtain ⟨d,e1,e2⟩:=bind1 hf
 cases e2
 exact ⟨G,ow,δ,d,R,e1,fun v H' s r=>q v H' (R.same0.trans s) r⟩
theorem Xj (hA:(fl.all fun x=>decide (x = .A))=true) (h:DE X fl .P e f):DE X fl .A e f:=mX h fun Hb H G ow σ δ v d R r=>by
 have hA':∀ (i:Nat) (c:Fl),fl[i]? = some c→c=Fl.A:=fun i c e=>by simpa using fD.mp hA c (cW e)
 have ok:∀ a,okA ow a:=fun a=>by
  constructor
  ·intro i z
   rcases (R.own i a z).2.1 with ⟨w,_⟩ | ⟨w,_⟩
   ·cases hA' i _ w
   ·cases hA' i _ w
  ·intro i z
   rcases (R.nt i a z).2.2 with ⟨w,_⟩ | w
   ·cases hA' i _ w
   ·cases hA' i _ w
 exact RA.imp (fun a _=>ok a) (fun z=>z) r
theorem JM {ps:List Str} (h:Has X.prog X.w X.K X.mg X.base n x ps (spL X.K F)) (hr:Room n X.A) (ha:DB X fl .P (e :: es) fa) (hg:Gl X x:=by rfl) (hdb:(x == ("__debug__" : Str))=false:=by decide)
 (he:starEach (e :: es) X.env=(false,eval e X.env) :: starEach es X.env:=by exact lW rfl) (hpl:(backTo pos (starEach es X.env)).any (·.1)=false:=by exact En rfl) :
 DE X fl .P (.Call (.Name x p) (e :: es) [] pos) (dCall F fa):=PE.imp (Am h hr ha hg hdb he hpl) fun σ H Q h=>by
 obtain ⟨G,ow,δ,d,R,hf,q⟩:=h
 obtain ⟨ds,e1,e2⟩:=bind1 hf
 refine ⟨G,ow,δ,ds,R,e1,fun vs H' s r=>?_⟩
 show spL X.K F (vs++[]) H' Q E0
 rw [cR]
 exact ⟨ds,d,⟨R.tb.same s,r⟩,e2,fun v H2 s2 r2=>q v H2 (s.trans s2) r2⟩
end
section
variable {P:Program} {w:World} {K:PySem.W.Frag} {mg:Str→Option Value} {base:Heap} {x:Str} {ps N:List Str} {st:Stmt} {k n:Nat} {fs:FS} {fl:List Fl}
theorem Nk {f:Addr} {fd:FuncData} (Fn:FunD K x st f fd) (S:FnScope N ps (bG st)) (hp:∀ i,i < ps.length→fl[i]? = some .A) (hN:ps.length ≤ N.length)
 (hbody:∀ (f:Addr) (cdv:Value) (A:Around) (outer:List Env) (s:Shared) (H:Hp) (E:XK),Room k (A.deeper (envOfC x (bG st) s.heap.objs.size f cdv))→DSs (cx P w K mg base N x st f cdv A outer s H E) fl (jM st) fs) :
 FnOk P w K mg base CX0 (k + 1) f fd ps (spL K (fnL ps.length (N.length - ps.length) fs)):=by
 refine Fn.ok S (fun vs H Q E h=>?_) (fun cdv A outer s H vs Q E hr h=>?_)
 ·obtain ⟨ds,d,r,hf,_⟩:=h
  unfold fnL at hf
  by_cases z:ds.length=ps.length
  ·rw [r.2.length];exact z
  ·rw [if_neg z] at hf;cases hf
 ·obtain ⟨ds,d,r,hf,q⟩:=h
  refine ⟨_,hbody f cdv A outer s H E hr,?_⟩
  unfold fnL M9 at hf
  by_cases z:ds.length=ps.length
  ·rw [if_pos z] at hf
   split at hf
   ·next d' e =>
    cases hf
    exact ⟨_,_,_,_,oW ps.length hp z hN r,e,fun v H' s r=>q v H' s (RA.imp (fun _ _=>trivial) (fun _=>rfl) r)⟩
   ·next c' f' d' e =>
    cases hf
    exact ⟨_,_,_,_,oW ps.length hp z hN r,e,fun v H' s r=>q v H' s r⟩
   ·next δ' e =>
    cases hf
    exact ⟨_,_,_,_,oW ps.length hp z hN r,e,fun ow' σ' H' R'=>q .non H' R'.same0 .non⟩
   ·cases hf
  ·rw [if_neg z] at hf;cases hf
theorem RG (Dd:Dg K mg x st ps) (S:FnScope N ps (bG st)) (hp:∀ i,i < ps.length→fl[i]? = some .A) (hN:ps.length ≤ N.length)
 (hbody:∀ (f:Addr) (cdv:Value) (A:Around) (outer:List Env) (s:Shared) (H:Hp) (E:XK),Room k (A.deeper (envOfC x (bG st) s.heap.objs.size f cdv))→DSs (cx P w K mg base N x st f cdv A outer s H E) fl (jM st) fs) :
 Has P w K mg base (k + 1) x ps (spL K (fnL ps.length (N.length - ps.length) fs)):=by
 obtain ⟨f,fd,Fn,b,m⟩:=Dd.ex
 exact ⟨f,fd,Nk Fn S hp hN hbody,b,Fn.kp,m⟩
end
section
variable {P:Program} {w:World} {K:PySem.W.Frag} {mg:Str→Option Value} {base:Heap} {x:Str} {ps:List Str} {st:Stmt} {n:Nat}
end
end D3
namespace D3
open PySem PySem.Spec PyProof.Rows L2 My
section
variable {K:PySem.W.Frag} {fl flA:List Fl} {G:Gh} {ow:Ow} {σ σ':St} {H H1:Hp} {δ:DS} {T:List Nat}
end
section
variable {X:Cx} {fl flA:List Fl} {e:Expr} {es:List Expr} {f:FE} {fa:FA} {pos:Pos}
end
section
variable {X:Cx} {fl:List Fl} {pos:Pos}
end
end D3
namespace D3
open PySem
noncomputable def X5:D→Option (List (Int × Int))
 | .dict kvs=>iiD kvs
 | _=>none
noncomputable def isL:D→Bool
 | .list _=>true
 | _=>false
end D3
namespace D3
open PySem
end D3
namespace D3
open PySem
end D3
namespace D3
open PySem
end D3
namespace D3
open PySem
noncomputable def dsB (S:List Int):D:=.dict (S.map fun i=>(.int i,.bool true))
noncomputable def bsD:List (D × D)→Option (List Int)
 | []=>some []
 | (.int i,.bool true) :: r=>(bsD r).map (i :: ·)
 | _=>none
noncomputable def Dh:D→Option (List Int)
 | .dict kvs=>bsD kvs
 | _=>none
noncomputable def uT:D→D→Option D:=fun y x=>(Dh x).bind fun S=>match y with
 | .int i=>some (.bool (decide (i ∈ S)))
 | .none=>some (.bool false)
 | _=>none
noncomputable def oK (S:List Int) (i:Int):List Int:=if i ∈ S then S else S++[i]
noncomputable def rZ (i:Nat) (fk:FE):FS:=fun δ=>(aG i δ).bind fun x=>(fk δ).bind fun y=>(Dh x).bind fun S=>match y with
 | .int k=>if S.length < 1000000 then some (.nx (δ.set i (some (.d (dsB (oK S k)))))) else none
 | _=>none
theorem Ey:∀ S:List Int,bsD (S.map fun i=>((.int i,.bool true):D × D))=some S
 | []=>rfl
 | i :: S=>by
  rw [bM,bsD,Ey S]
  rfl
theorem vf (S:List Int):Dh (dsB S)=some S:=Ey S
end D3
namespace D3
open PySem
noncomputable def ddI:List Int→List Int
 | []=>[]
 | x :: r=>if x ∈ r then ddI r else x :: ddI r
theorem zm:∀ {l:List Int} {x:Int},x ∈ ddI l↔x ∈ l
 | [],x=>Iff.rfl
 | y :: r,x=>by
  unfold ddI
  by_cases c:y ∈ r
  ·rw [if_pos c,zm,aR]
   exact ⟨.inr,fun z=>by
    rcases z with rfl | z
    ·exact c
    ·exact z⟩
  ·rw [if_neg c,aR,aR,zm]
theorem vZ:∀ l:List Int,(ddI l).Nodup
 | []=>pW
 | y :: r=>by
  unfold ddI
  by_cases c:y ∈ r
  ·rw [if_pos c];exact vZ r
  ·rw [if_neg c]
   exact dF.mpr ⟨fun z=>c (zm.mp z),vZ r⟩
noncomputable def uJ:List D→Option D
 | [.list l]=>(mD l).bind fun ns=>if ns.length ≤ 300 then some (.list ((j5 (ddI ns)).map .int)) else none
 | _=>none
end D3
namespace D3
open PySem
noncomputable def wg:List D→Option D
 | [x]=>(Dh x).bind fun S=>if S.length < 64 then some (.list ((j5 S).map .int)) else none
 | _=>none
end D3
namespace Srt
open PySem PyProof.Rows
noncomputable def uc:Bool→Keyed→Array Keyed→Nat→Nat→Nat→StateT SortSt Sem (Option Nat):=sortPriv% PySem.Builtin.gallop
noncomputable def bey (left:Bool) (key:Keyed) (arr:Array Keyed) (base i:Nat):StateT SortSt Sem (Option Bool):=do
 let x ← elem' arr (base + i)
 if left then lt' x key else return (← lt' key x).map (!·)
section
variable {prog:Program} {w:World} {A:Around} {E:Value→Shared→Prop} {s:Shared}
noncomputable def mO (x:Keyed):Prop:=∃ n t,x.1 = .int n t
theorem mO.eq {x:Keyed} (h:mO x):∃ t,x=(.int (numOf x.1) t,x.2):=by
 obtain ⟨n,t,e⟩:=h
 refine ⟨t,Prod.ext ?_ rfl⟩
 show x.1 = .int (numOf x.1) t
 rw [e]
 rfl
theorem zp {st:SortSt} {x y:Keyed} {Q:Option Bool→SortSt→Prop} (hk:kindOf st=oneType') (hx:mO x) (hy:mO y) (h:Q (some (decide (numOf x.1 < numOf y.1))) st):wpS (model prog w) A E s (lt' x y) Q st:=by
 obtain ⟨n,t,ex⟩:=hx
 obtain ⟨m,u,ey⟩:=hy
 rw [ex,ey] at h
 rw [lt'_eq]
 refine wpS_bind (wpS_get ?_)
 rw [hk,keyLt'_oneType,ex,ey]
 exact wpS_bind (wpS_lift (wpAny_attempt (oneLt_int ⟨rfl,wpS_pure h⟩)))
theorem eX {st:SortSt} {arr:Array Keyed} {i:Nat} {x:Keyed} {Q:Keyed→SortSt→Prop} (hx:arr[i]? = some x) (h:Q x st):wpS (model prog w) A E s (elem' arr i) Q st:=by
 rw [elem'_eq,hx]
 exact wpS_pure h
noncomputable def Pb (left:Bool) (key:Keyed) (arr:Array Keyed) (base i:Nat):Bool:=if left then decide (K arr (base + i) < numOf key.1) else !decide (numOf key.1 < K arr (base + i))
theorem ud {st:SortSt} {left:Bool} {key:Keyed} {arr:Array Keyed} {base i:Nat} {Q:Option Bool→SortSt→Prop} (hk:kindOf st=oneType') (hy:mO key) (ha:∀ p ∈ arr.toList,mO p) (hi:base + i < arr.size) (h:Q (some (Pb left key arr base i)) st):wpS (model prog w) A E s (bey left key arr base i) Q st:=by
 have e:arr[base + i]? = some arr[base + i]:=getElem?_pos arr (base + i) hi
 have hx:mO arr[base + i]:=ha _ (by simp)
 have hK:K arr (base + i)=numOf arr[base + i].1:=by unfold K;rw [e]
 unfold bey
 refine wpS_bind (eX e ?_)
 unfold Pb at h
 rw [hK] at h
 cases left with
 | true=>exact zp hk hx hy h
 | false=>exact wpS_bind (zp hk hy hx (wpS_pure h))
theorem lO {st:SortSt} {left:Bool} {key:Keyed} {arr:Array Keyed} {base n hint:Nat} {Q:Option Nat→SortSt→Prop} (hk:kindOf st=oneType') (hy:mO key) (ha:∀ p ∈ arr.toList,mO p) (hb:base + n ≤ arr.size) (hh:hint < n)
 (mono:∀ i j,i ≤ j→j < n→Pb left key arr base j=true→Pb left key arr base i=true)
 (h:∀ k,k ≤ n→(∀ i,i < k→Pb left key arr base i=true)→(∀ i,k ≤ i→i < n→Pb left key arr base i=false)→Q (some k) st) :
 wpS (model prog w) A E s (uc left key arr base n hint) Q st:=by
 have mono':∀ i j,i ≤ j→j < n→Pb left key arr base i=false→Pb left key arr base j=false:=fun i j h1 h2 h3=>by
  cases e:Pb left key arr base j with
  | false=>rfl
  | true=>rw [mono i j h1 h2 e] at h3;cases h3
 refine wpS_bind (m:=bey left key arr base hint) (ud hk hy ha (by omega) ?_)
 dsimp only
 cases e:Pb left key arr base hint with
 | true =>
  rw [if_pos rfl]
  refine wpS_bind (wpS_mono (wpS_forRange (I:=fun x c st'=>st'=st∧∃ la o,c=(none,la,o)∧la < o∧x + 1 ≤ o∧hint + la < n∧Pb left key arr base (hint + la)=true)
   (Q:=fun c st'=>st'=st∧∃ la o,c=(none,la,o)∧la < o∧hint + la < n∧Pb left key arr base (hint + la)=true∧(o ≥ n - hint∨(hint + o < n∧Pb left key arr base (hint + o)=false))) ?step ?fin ⟨rfl,0,1,rfl,by omega,by omega,by omega,e⟩) ?post)
  case fin =>
   rintro c st' ⟨rfl,la,o,rfl,g1,g2,g3,g4⟩
   exact ⟨rfl,la,o,rfl,g1,g3,g4,.inl (by omega)⟩
  case step =>
   rintro x c st' _ hx ⟨rfl,la,o,rfl,g1,g2,g3,g4⟩
   dsimp only
   by_cases hge:o ≥ n - hint
   ·rw [if_pos hge]
    exact wpS_pure ⟨rfl,la,o,rfl,g1,g3,g4,.inl hge⟩
   ·rw [if_neg hge]
    refine wpS_bind (ud hk hy ha (by omega) ?_)
    dsimp only
    cases e2:Pb left key arr base (hint + o) with
    | true =>
     rw [if_neg (by decide)]
     exact wpS_pure ⟨rfl,o,2 * o + 1,rfl,by omega,by omega,by omega,e2⟩
    | false =>
     rw [if_pos (by decide)]
     exact wpS_pure ⟨rfl,la,o,rfl,g1,g3,g4,.inr ⟨by omega,e2⟩⟩
  case post =>
   rintro c st' ⟨rfl,la,o,rfl,g1,g3,g4,g5⟩
   have h1:hint + la + 1 ≤ hint + min o (n - hint):=by omega
   have h2:hint + min o (n - hint) ≤ n:=by omega
   have h3:∀ i,i < hint + la + 1→Pb left key arr base i=true:=fun i hi=>mono i _ (by omega) g3 g4
   have h4:∀ i,hint + min o (n - hint) ≤ i→i < n→Pb left key arr base i=false:=fun i i1 i2=>by
    rcases g5 with g5 | ⟨g5,g6⟩
    ·omega
    ·exact mono' _ i (by omega) i2 g6
   dsimp only
   generalize hint + la + 1=lo0 at h1 h3 ⊢
   generalize hint + min o (n - hint)=hi0 at h1 h2 h4 ⊢
   refine wpS_bind (wpS_mono (wpS_forRange (I:=fun x c st''=>st''=st'∧∃ hi lo,c=(none,lo,hi)∧lo ≤ hi∧hi ≤ n∧hi - lo ≤ n - x∧(∀ i,i < lo→Pb left key arr base i=true)∧(∀ i,hi ≤ i→i < n→Pb left key arr base i=false))
    (Q:=fun c st''=>st''=st'∧∃ hi lo,c=(none,lo,hi)∧hi ≤ n∧(∀ i,i < hi→Pb left key arr base i=true)∧(∀ i,hi ≤ i→i < n→Pb left key arr base i=false)) ?sT ?fT ⟨rfl,hi0,lo0,rfl,h1,h2,by omega,h3,h4⟩) ?pT)
   case fT =>
    rintro c st'' ⟨rfl,hi,lo,rfl,g1,g2,g3,g4,g5⟩
    have:lo=hi:=by omega
    subst this
    exact ⟨rfl,lo,lo,rfl,g2,g4,g5⟩
   case sT =>
    rintro x c st'' _ hx ⟨rfl,hi,lo,rfl,g1,g2,g3,g4,g5⟩
    dsimp only
    by_cases hge:lo ≥ hi
    ·rw [if_pos hge]
     have:lo=hi:=by omega
     subst this
     exact wpS_pure ⟨rfl,lo,lo,rfl,g2,g4,g5⟩
    ·rw [if_neg hge]
     have hm:lo + (hi - lo) / 2 < hi:=by omega
     refine wpS_bind (ud hk hy ha (by omega) ?_)
     dsimp only
     cases e:Pb left key arr base (lo + (hi - lo) / 2) with
     | true =>
      rw [if_pos rfl]
      exact wpS_pure ⟨rfl,hi,lo + (hi - lo) / 2 + 1,rfl,by omega,g2,by omega,fun i hi'=>mono i _ (by omega) (by omega) e,g5⟩
     | false =>
      rw [if_neg aU]
      exact wpS_pure ⟨rfl,lo + (hi - lo) / 2,lo,rfl,by omega,by omega,by omega,g4,fun i i1 i2=>mono' _ i i1 i2 e⟩
   case pT =>
    rintro c st'' ⟨rfl,hi,lo,rfl,g1,g2,g3⟩
    exact wpS_pure (h hi g1 g2 g3)
 | false =>
  rw [if_neg aU]
  refine wpS_bind (wpS_mono (wpS_forRange (I:=fun x c st'=>st'=st∧∃ la o,c=(none,la,o)∧la < o∧x + 1 ≤ o∧la ≤ hint∧Pb left key arr base (hint - la)=false)
   (Q:=fun c st'=>st'=st∧∃ la o,c=(none,la,o)∧la < o∧la ≤ hint∧Pb left key arr base (hint - la)=false∧(o ≥ hint + 1∨(o ≤ hint∧Pb left key arr base (hint - o)=true))) ?step2 ?fin2 ⟨rfl,0,1,rfl,by omega,by omega,by omega,e⟩) ?post2)
  case fin2 =>
   rintro c st' ⟨rfl,la,o,rfl,g1,g2,g3,g4⟩
   exact ⟨rfl,la,o,rfl,g1,g3,g4,.inl (by omega)⟩
  case step2 =>
   rintro x c st' _ hx ⟨rfl,la,o,rfl,g1,g2,g3,g4⟩
   dsimp only
   by_cases hge:o ≥ hint + 1
   ·rw [if_pos hge]
    exact wpS_pure ⟨rfl,la,o,rfl,g1,g3,g4,.inl hge⟩
   ·rw [if_neg hge]
    refine wpS_bind (ud hk hy ha (by omega) ?_)
    dsimp only
    cases e2:Pb left key arr base (hint - o) with
    | true =>
     rw [if_pos rfl]
     exact wpS_pure ⟨rfl,la,o,rfl,g1,g3,g4,.inr ⟨by omega,e2⟩⟩
    | false =>
     rw [if_neg aU]
     exact wpS_pure ⟨rfl,o,2 * o + 1,rfl,by omega,by omega,by omega,e2⟩
  case post2 =>
   rintro c st' ⟨rfl,la,o,rfl,g1,g3,g4,g5⟩
   have h1:hint + 1 - min o (hint + 1) ≤ hint - la:=by omega
   have h2:hint - la ≤ n:=by omega
   have h3:∀ i,i < hint + 1 - min o (hint + 1)→Pb left key arr base i=true:=fun i hi=>by
    rcases g5 with g5 | ⟨g5,g6⟩
    ·omega
    ·exact mono i _ (by omega) (by omega) g6
   have h4:∀ i,hint - la ≤ i→i < n→Pb left key arr base i=false:=fun i i1 i2=>mono' _ i i1 i2 g4
   dsimp only
   generalize hint + 1 - min o (hint + 1)=lo0 at h1 h3 ⊢
   generalize hint - la=hi0 at h1 h2 h4 ⊢
   refine wpS_bind (wpS_mono (wpS_forRange (I:=fun x c st''=>st''=st'∧∃ hi lo,c=(none,lo,hi)∧lo ≤ hi∧hi ≤ n∧hi - lo ≤ n - x∧(∀ i,i < lo→Pb left key arr base i=true)∧(∀ i,hi ≤ i→i < n→Pb left key arr base i=false))
    (Q:=fun c st''=>st''=st'∧∃ hi lo,c=(none,lo,hi)∧hi ≤ n∧(∀ i,i < hi→Pb left key arr base i=true)∧(∀ i,hi ≤ i→i < n→Pb left key arr base i=false)) ?sT ?fT ⟨rfl,hi0,lo0,rfl,h1,h2,by omega,h3,h4⟩) ?pT)
   case fT =>
    rintro c st'' ⟨rfl,hi,lo,rfl,g1,g2,g3,g4,g5⟩
    have:lo=hi:=by omega
    subst this
    exact ⟨rfl,lo,lo,rfl,g2,g4,g5⟩
   case sT =>
    rintro x c st'' _ hx ⟨rfl,hi,lo,rfl,g1,g2,g3,g4,g5⟩
    dsimp only
    by_cases hge:lo ≥ hi
    ·rw [if_pos hge]
     have:lo=hi:=by omega
     subst this
     exact wpS_pure ⟨rfl,lo,lo,rfl,g2,g4,g5⟩
    ·rw [if_neg hge]
     have hm:lo + (hi - lo) / 2 < hi:=by omega
     refine wpS_bind (ud hk hy ha (by omega) ?_)
     dsimp only
     cases e:Pb left key arr base (lo + (hi - lo) / 2) with
     | true =>
      rw [if_pos rfl]
      exact wpS_pure ⟨rfl,hi,lo + (hi - lo) / 2 + 1,rfl,by omega,g2,by omega,fun i hi'=>mono i _ (by omega) (by omega) e,g5⟩
     | false =>
      rw [if_neg aU]
      exact wpS_pure ⟨rfl,lo + (hi - lo) / 2,lo,rfl,by omega,by omega,by omega,g4,fun i i1 i2=>mono' _ i i1 i2 e⟩
   case pT =>
    rintro c st'' ⟨rfl,hi,lo,rfl,g1,g2,g3⟩
    exact wpS_pure (h hi g1 g2 g3)
end
end Srt
namespace Srt
open PySem PyProof.Rows
noncomputable def wW:Nat→StateT SortSt Sem Unit:=sortPriv% PySem.Builtin.setMinGallop
noncomputable abbrev setG (st:SortSt) (g:Nat):SortSt:=SortSt.mk' (kindOf st) (arrOf st) (pendingOf st) g (failedOf st)
noncomputable def JN:Array Keyed→Array Keyed→StateT SortSt Sem (Array Keyed):=sortPriv% PySem.Builtin.mergeLo
noncomputable def yq (a b out:Array Keyed) (ia ib:Nat):Array Keyed:=out++a.extract ia a.size++b.extract ib b.size
noncomputable def Ez (a b out:Array Keyed) (ia ib:Nat):Array Keyed:=out++b.extract ib b.size++a.extract ia a.size
noncomputable def R (x y:Keyed):Prop:=numOf x.1 ≤ numOf y.1
structure MI (a b out:Array Keyed) (ia ib:Nat):Prop where
 A:(out.toList++a.toList.drop ia).Pairwise R
 B:(out.toList++b.toList.drop ib).Pairwise R
 P:(out.toList++a.toList.drop ia++b.toList.drop ib).Perm (a.toList++b.toList)
section
variable {a b out:Array Keyed} {ia ib:Nat}
theorem uf {l:List Keyed} {i:Nat} (h:i < l.length):l.drop i=l[i] :: l.drop (i + 1):=jP h
theorem jk (h:ia < a.size):K a ia=numOf (a[ia]).1:=by unfold K;rw [getElem?_pos a ia h]
theorem MI.pushA (h:MI a b out ia ib) (hi:ia < a.size) (hle:∀ y ∈ b.toList.drop ib,R a[ia] y):MI a b (out.push a[ia]) (ia + 1) ib:=by
 have hd:a.toList.drop ia=a[ia] :: a.toList.drop (ia + 1):=uf (by simpa using hi)
 obtain ⟨h1,h2,h3⟩:=h
 rw [hd] at h1 h3
 have e:(out.push a[ia]).toList=out.toList++[a[ia]]:=kJ
 refine ⟨by rw [e,aW];exact h1,?_,by rw [e];simpa using h3⟩
 rw [e,aW]
 obtain ⟨p1,p2,p3⟩:=aM.mp h2
 obtain ⟨q1,q2,q3⟩:=aM.mp h1
 refine aM.mpr ⟨p1,cO.mpr ⟨hle,p2⟩,fun x hx y hy=>?_⟩
 rcases aR.mp hy with rfl | z
 ·exact q3 x hx _ aP
 ·exact p3 x hx y z
theorem MI.pushB (h:MI a b out ia ib) (hi:ib < b.size) (hle:∀ y ∈ a.toList.drop ia,R b[ib] y):MI a b (out.push b[ib]) ia (ib + 1):=by
 have hd:b.toList.drop ib=b[ib] :: b.toList.drop (ib + 1):=uf (by simpa using hi)
 obtain ⟨h1,h2,h3⟩:=h
 rw [hd] at h2 h3
 have e:(out.push b[ib]).toList=out.toList++[b[ib]]:=kJ
 refine ⟨?_,by rw [e,aW];exact h2,?_⟩
 ·rw [e,aW]
  obtain ⟨p1,p2,p3⟩:=aM.mp h1
  obtain ⟨q1,q2,q3⟩:=aM.mp h2
  refine aM.mpr ⟨p1,cO.mpr ⟨hle,p2⟩,fun x hx y hy=>?_⟩
  rcases aR.mp hy with rfl | z
  ·exact q3 x hx _ aP
  ·exact p3 x hx y z
 ·rw [e]
  refine List.Perm.trans ?_ h3
  rw [aW,aW,aW]
  exact List.Perm.append_left _ (by simpa using (jL (a:=b[ib]) (l₁:=a.toList.drop ia) (l₂:=b.toList.drop (ib + 1))).symm)
theorem gW {x:Array Keyed} {i j:Nat}:(x.extract i j).toList=(x.toList.drop i).take (j - i):=by
 rw [pX,nM]
theorem MI.appA (h:MI a b out ia ib) {k:Nat} (hle:∀ x ∈ (a.toList.drop ia).take k,∀ y ∈ b.toList.drop ib,R x y):MI a b (out++a.extract ia (ia + k)) (ia + k) ib:=by
 have e:(out++a.extract ia (ia + k)).toList=out.toList++(a.toList.drop ia).take k:=by
  rw [cg,gW,oM]
 have d:a.toList.drop ia=(a.toList.drop ia).take k++a.toList.drop (ia + k):=by rw [← m7,eG]
 obtain ⟨h1,h2,h3⟩:=h
 obtain ⟨p1,p2,p3⟩:=aM.mp h2
 have h1':=h1
 rw [d] at h1' h3
 obtain ⟨q1,q2,q3⟩:=aM.mp h1'
 refine ⟨by rw [e,aW];exact h1',?_,by rw [e];simpa [aW] using h3⟩
 rw [e,aW]
 refine aM.mpr ⟨p1,aM.mpr ⟨(aM.mp q2).1,p2,hle⟩,fun x hx y hy=>?_⟩
 rcases bW.mp hy with z | z
 ·exact q3 x hx y (cV _ z)
 ·exact p3 x hx y z
theorem MI.appB (h:MI a b out ia ib) {k:Nat} (hle:∀ x ∈ (b.toList.drop ib).take k,∀ y ∈ a.toList.drop ia,R x y):MI a b (out++b.extract ib (ib + k)) ia (ib + k):=by
 have e:(out++b.extract ib (ib + k)).toList=out.toList++(b.toList.drop ib).take k:=by
  rw [cg,gW,oM]
 have d:b.toList.drop ib=(b.toList.drop ib).take k++b.toList.drop (ib + k):=by rw [← m7,eG]
 obtain ⟨h1,h2,h3⟩:=h
 obtain ⟨p1,p2,p3⟩:=aM.mp h1
 have h2':=h2
 rw [d] at h2' h3
 obtain ⟨q1,q2,q3⟩:=aM.mp h2'
 refine ⟨?_,by rw [e,aW];exact h2',?_⟩
 ·rw [e,aW]
  refine aM.mpr ⟨p1,aM.mpr ⟨(aM.mp q2).1,p2,hle⟩,fun x hx y hy=>?_⟩
  rcases bW.mp hy with z | z
  ·exact q3 x hx y (cV _ z)
  ·exact p3 x hx y z
 ·rw [e]
  refine List.Perm.trans ?_ h3
  rw [aW,aW,aW]
  refine List.Perm.append_left _ ?_
  rw [← aW,← aW]
  exact List.Perm.append_right _ fW
structure Res (a b r:Array Keyed):Prop where
 P:r.toList.Perm (a.toList++b.toList)
 S:r.toList.Pairwise R
theorem MI.endB (h:MI a b out ia ib) (e:b.size ≤ ib):Res a b (yq a b out ia ib):=by
 have d:b.toList.drop ib=[]:=g_ (by simpa using e)
 have l:(yq a b out ia ib).toList=out.toList++a.toList.drop ia:=by
  unfold yq
  rw [cg,cg,gW,gW,d,List.take_nil,cR,cY (by simp)]
 obtain ⟨h1,h2,h3⟩:=h
 rw [d,cR] at h3
 exact ⟨by rw [l];exact h3,by rw [l];exact h1⟩
theorem MI.endA (h:MI a b out ia ib) (e:a.size ≤ ia):Res a b (yq a b out ia ib):=by
 have d:a.toList.drop ia=[]:=g_ (by simpa using e)
 have l:(yq a b out ia ib).toList=out.toList++b.toList.drop ib:=by
  unfold yq
  rw [cg,cg,gW,gW,d,List.take_nil,cR,cY (by simp)]
 obtain ⟨h1,h2,h3⟩:=h
 rw [d,cR] at h3
 exact ⟨by rw [l];exact h3,by rw [l];exact h2⟩
theorem MI.last (h:MI a b out ia ib) (hi:ia < a.size) (hl:∀ y ∈ b.toList,R y a[ia]) (e:ia + 1=a.size):Res a b (Ez a b out ia ib):=by
 have hd:a.toList.drop ia=[a[ia]]:=by
  rw [uf (l:=a.toList) (by simpa using hi),g_ (by simpa using sV e.symm)]
  rfl
 have l:(Ez a b out ia ib).toList=out.toList++b.toList.drop ib++[a[ia]]:=by
  unfold Ez
  rw [cg,cg,gW,gW,hd,cY (by simp),cY (by simp;omega)]
 obtain ⟨h1,h2,h3⟩:=h
 rw [hd] at h1 h3
 refine ⟨by
  rw [l]
  refine List.Perm.trans ?_ h3
  rw [aW,aW]
  exact List.Perm.append_left _ fW,?_⟩
 rw [l]
 refine aM.mpr ⟨h2,gP _ _,fun x hx y hy=>?_⟩
 rw [aV.mp hy]
 rcases bW.mp hx with z | z
 ·exact (aM.mp h1).2.2 x z _ (aV.mpr rfl)
 ·exact hl x (jG z)
theorem EY {l:List Keyed} {i:Nat} (p:(l.drop i).Pairwise R) (h:i < l.length):∀ y ∈ l.drop i,R l[i] y:=fun y hy=>by
 rw [uf h] at hy p
 rcases aR.mp hy with rfl | z
 ·exact cX _
 ·exact (cO.mp p).1 y z
end
end Srt
namespace Srt
open PySem PyProof.Rows
structure Eqv (st st':SortSt):Prop where
 k:kindOf st'=kindOf st
 a:arrOf st'=arrOf st
 p:pendingOf st'=pendingOf st
 f:failedOf st'=failedOf st
theorem Eqv.refl (st:SortSt):Eqv st st:=⟨rfl,rfl,rfl,rfl⟩
theorem Eqv.set {st st':SortSt} (h:Eqv st st') (g:Nat):Eqv st (setG st' g):=⟨h.k,h.a,h.p,h.f⟩
section
variable {prog:Program} {w:World} {A:Around} {E:Value→Shared→Prop} {s:Shared} {a b:Array Keyed}
theorem ug {st:SortSt} {g:Nat} {Q:Unit→SortSt→Prop} (h:Q () (setG st g)):wpS (model prog w) A E s (wW g) Q st:=wpS_modify h
theorem K_R {x:Array Keyed} {i j:Nat} (p:x.toList.Pairwise R) (hij:i ≤ j) (hj:j < x.size):K x i ≤ K x j:=by
 rw [jk hj,jk (jh hij hj)]
 rcases su hij with z | z
 ·have:=dB.mp p i j (by simpa using jh hij hj) (by simpa using hj) z
  unfold R at this
  simpa using this
 ·subst z;exact cX _
theorem oY {x:Array Keyed} {i k:Nat} {p:Keyed} (h:p ∈ (x.toList.drop i).take k):∃ j,j < k∧∃ hj:i + j < x.size,p=x[i + j]:=by
 obtain ⟨j,hj,e⟩:=cH h
 rw [fB,cL,aJ] at hj
 refine ⟨j,by omega,by omega,?_⟩
 rw [← e,sZ,jD]
 simp
theorem nC {x:Array Keyed} {i:Nat} {p:Keyed} (h:p ∈ x.toList.drop i):∃ j,∃ hj:i + j < x.size,p=x[i + j]:=by
 obtain ⟨j,hj,e⟩:=cH h
 rw [cL,aJ] at hj
 refine ⟨j,by omega,?_⟩
 rw [← e,jD]
 simp
theorem lX {x:Array Keyed} (h:∀ p ∈ x.toList,mO p) {i:Nat} (hi:i < x.size):mO x[i]:=h _ (by simp)
theorem Vm {st:SortSt} {Q:Option Nat→SortSt→Prop} {out:Array Keyed} {ia ib:Nat} (hk:kindOf st=oneType') (ha:∀ p ∈ a.toList,mO p) (hb:∀ p ∈ b.toList,mO p) (sa:a.toList.Pairwise R) (sb:b.toList.Pairwise R)
 (M:MI a b out ia ib) (i1:ia < a.size) (i2:ib < b.size) (h:∀ k,ia + k ≤ a.size→MI a b (out++a.extract ia (ia + k)) (ia + k) ib→(ia + k < a.size→∀ y ∈ a.toList.drop (ia + k),R b[ib] y)→Q (some k) st) :
 wpS (model prog w) A E s (uc false b[ib] a ia (a.size - ia) 0) Q st:=by
 refine lO hk (lX hb i2) ha (by omega) (by omega) (fun i j h1 h2 h3=>?_) fun k k1 k2 k3=>h k (by omega) (M.appA fun x hx y hy=>?_) fun k4 y hy=>?_
 ·unfold Pb at h3 ⊢
  have:=K_R sa (i:=ia + i) (j:=ia + j) (by omega) (by omega)
  rw [if_neg aU,iH,decide_eq_false_iff_not] at h3 ⊢
  omega
 ·obtain ⟨j,j1,j2,rfl⟩:=oY hx
  obtain ⟨l,l1,rfl⟩:=nC hy
  have:=k2 j j1
  unfold Pb at this
  rw [if_neg aU,iH,decide_eq_false_iff_not,jk j2] at this
  have q:=K_R sb (i:=ib) (j:=ib + l) (by omega) l1
  rw [jk i2,jk l1] at q
  unfold R
  omega
 ·obtain ⟨l,l1,rfl⟩:=nC hy
  have:=k3 k (aQ _) (by omega)
  unfold Pb at this
  rw [if_neg aU,m8,decide_eq_true_iff,jk k4] at this
  have q:=K_R sa (i:=ia + k) (j:=ia + k + l) (by omega) l1
  rw [jk k4,jk l1] at q
  unfold R
  omega
theorem Vo {st:SortSt} {Q:Option Nat→SortSt→Prop} {out:Array Keyed} {ia ib:Nat} (hk:kindOf st=oneType') (ha:∀ p ∈ a.toList,mO p) (hb:∀ p ∈ b.toList,mO p) (sa:a.toList.Pairwise R) (sb:b.toList.Pairwise R)
 (M:MI a b out ia ib) (i1:ia < a.size) (i2:ib < b.size) (h:∀ k,ib + k ≤ b.size→MI a b (out++b.extract ib (ib + k)) ia (ib + k)→(∀ y ∈ b.toList.drop (ib + k),R a[ia] y)→Q (some k) st) :
 wpS (model prog w) A E s (uc true a[ia] b ib (b.size - ib) 0) Q st:=by
 refine lO hk (lX ha i1) hb (by omega) (by omega) (fun i j h1 h2 h3=>?_) fun k k1 k2 k3=>h k (by omega) (M.appB fun x hx y hy=>?_) fun y hy=>?_
 ·unfold Pb at h3 ⊢
  have:=K_R sb (i:=ib + i) (j:=ib + j) (by omega) (by omega)
  rw [if_pos rfl,decide_eq_true_iff] at h3 ⊢
  omega
 ·obtain ⟨j,j1,j2,rfl⟩:=oY hx
  obtain ⟨l,l1,rfl⟩:=nC hy
  have:=k2 j j1
  unfold Pb at this
  rw [if_pos rfl,decide_eq_true_iff,jk j2] at this
  have q:=K_R sa (i:=ia) (j:=ia + l) (by omega) l1
  rw [jk i1,jk l1] at q
  unfold R
  omega
 ·obtain ⟨l,l1,rfl⟩:=nC hy
  have:=k3 (k + l) (by omega) (by omega)
  unfold Pb at this
  rw [if_pos rfl,decide_eq_false_iff_not,← rR,jk l1] at this
  unfold R
  omega
theorem Bg {st:SortSt} {Q:Array Keyed→SortSt→Prop} (hk:kindOf st=oneType') (ha:∀ p ∈ a.toList,mO p) (hb:∀ p ∈ b.toList,mO p) (a0:0 < a.size) (b0:0 < b.size) (sa:a.toList.Pairwise R) (sb:b.toList.Pairwise R)
 (hf:K b 0 < K a 0) (hl:∀ y ∈ b.toList,R y (a[a.size - 1]'(by omega))) (h:∀ r st',Res a b r→Eqv st st'→Q r st'):wpS (model prog w) A E s (JN a b) Q st:=by
 refine wpS_bind (m:=liftM (rule _)) (wpS_lift (wpAny_rule ⟨rfl,?_⟩))
 refine wpS_bind (eX (getElem?_pos b 0 b0) ?_)
 dsimp only
 have M0:MI a b #[b[0]] 0 1:=by
  have hd:b.toList=b[0] :: b.toList.drop 1:=by
   have:=uf (l:=b.toList) (i:=0) (by simpa using b0)
   rw [eO] at this
   simpa using this
  refine ⟨?_,?_,?_⟩
  ·show ([b[0]]++a.toList.drop 0).Pairwise R
   rw [eO]
   refine cO.mpr ⟨fun y hy=>?_,sa⟩
   obtain ⟨l,l1,rfl⟩:=nC (x:=a) (i:=0) (by rw [eO];exact hy)
   have q:=K_R sa (i:=0) (j:=0 + l) (by omega) l1
   rw [jk a0] at q hf
   rw [jk b0] at hf
   rw [jk l1] at q
   unfold R
   omega
  ·show (b[0] :: b.toList.drop 1).Pairwise R
   rw [← hd];exact sb
  ·show ([b[0]]++a.toList.drop 0++b.toList.drop 1).Perm (a.toList++b.toList)
   rw [eO]
   have:=(jL (a:=b[0]) (l₁:=a.toList) (l₂:=b.toList.drop 1)).symm
   rw [← hd] at this
   exact this
 by_cases c1:1=b.size
 ·rw [if_pos (by simpa using c1)]
  exact wpS_pure (h _ _ (M0.endB (by omega)) (Eqv.refl st))
 rw [if_neg (by simpa using c1)]
 have lastR:∀ (out:Array Keyed) (ia ib:Nat),MI a b out ia ib→ia + 1=a.size→Res a b (Ez a b out ia ib):=fun out ia ib M e=>M.last (by omega) (by
  have:a.size - 1=ia:=by omega
  subst this
  exact hl) e
 by_cases c2:0 + 1=a.size
 ·rw [if_pos (by simpa using c2)]
  exact wpS_pure (h _ _ (lastR _ _ _ M0 c2) (Eqv.refl st))
 rw [if_neg (by simpa using c2)]
 refine wpS_bind (wpS_get ?_)
 refine wpS_bind (wpS_mono (wpS_forRange (I:=fun x c st'=>Eqv st st'∧∃ out ia ib g,c=(none,out,ia,ib,g)∧MI a b out ia ib∧ia + 1 < a.size∧ib < b.size∧x + 1 ≤ ia + ib)
  (Q:=fun c st'=>Eqv st st'∧∃ r,c.1=some r∧Res a b r) ?ostep ?ofin ⟨Eqv.refl st,_,0,1,_,rfl,M0,by omega,by omega,by omega⟩) ?opost)
 case opost =>
  rintro c st' ⟨Eq,r,e,hr⟩
  obtain ⟨c0,c1⟩:=c
  subst e
  exact wpS_pure (h r st' hr Eq)
 case ofin =>
  rintro c st' ⟨Eq,out,ia,ib,g,rfl,M,i1,i2,ms⟩
  omega
 case ostep =>
  rintro x c st1 _ hx ⟨E1,out,ia,ib,g,rfl,M,i1,i2,ms⟩
  dsimp only
  refine wpS_bind (wpS_mono (wpS_forRange (I:=fun y c st'=>Eqv st st'∧∃ out ia' ib' ac bc,c=(none,out,ia',ib',ac,bc)∧MI a b out ia' ib'∧ia' + 1 < a.size∧ib' < b.size∧ia + ib ≤ ia' + ib')
   (Q:=fun c st'=>Eqv st st'∧((∃ r,c.1=some r∧Res a b r)∨∃ out ia' ib' ac bc,c=(none,out,ia',ib',ac,bc)∧MI a b out ia' ib'∧ia' + 1 < a.size∧ib' < b.size∧ia + ib ≤ ia' + ib')) ?step1 ?fin1 ⟨E1,out,ia,ib,0,0,rfl,M,i1,i2,aQ _⟩) ?post1)
  case fin1 =>
   rintro c st' ⟨Eq,q⟩
   exact ⟨Eq,.inr q⟩
  case step1 =>
   rintro y c st2 _ hy ⟨E2,out,ia',ib',ac,bc,rfl,M,i1,i2,ms'⟩
   dsimp only
   refine wpS_bind (eX (getElem?_pos b ib' i2) (wpS_bind (eX (getElem?_pos a ia' (by omega)) ?_)))
   have ia1:ia' < a.size:=by omega
   refine wpS_bind (zp (E2.k.trans hk) (lX hb i2) (lX ha ia1) ?_)
   dsimp only
   by_cases lt:numOf (b[ib']).1 < numOf (a[ia']).1
   ·rw [dTr lt,if_pos rfl]
    refine wpS_bind (eX (getElem?_pos b ib' i2) ?_)
    have M':=M.pushB i2 fun y hy=>by
     have:=EY (aM.mp M.A).2.1 (by simpa using ia1) y hy
     unfold R at this ⊢
     simp at this
     omega
    by_cases z:ib' + 1=b.size
    ·rw [if_pos (by simpa using z)]
     exact wpS_pure ⟨E2,.inl ⟨_,rfl,M'.endB (by omega)⟩⟩
    ·rw [if_neg (by simpa using z)]
     split
     ·exact wpS_pure ⟨E2,.inr ⟨_,_,_,_,_,rfl,M',i1,by omega,by omega⟩⟩
     ·exact wpS_pure ⟨E2,_,_,_,_,_,rfl,M',i1,by omega,by omega⟩
   ·rw [dFa lt,if_neg aU]
    refine wpS_bind (eX (getElem?_pos a ia' ia1) ?_)
    have M':=M.pushA ia1 fun y hy=>by
     have:=EY (aM.mp M.B).2.1 (by simpa using i2) y hy
     unfold R at this ⊢
     simp at this
     omega
    by_cases z:ia' + 1 + 1=a.size
    ·rw [if_pos (by simpa using z)]
     exact wpS_pure ⟨E2,.inl ⟨_,rfl,lastR _ _ _ M' z⟩⟩
    ·rw [if_neg (by simpa using z)]
     split
     ·exact wpS_pure ⟨E2,.inr ⟨_,_,_,_,_,rfl,M',by omega,i2,by omega⟩⟩
     ·exact wpS_pure ⟨E2,_,_,_,_,_,rfl,M',by omega,i2,by omega⟩
  case post1 =>
   rintro c st2 ⟨E2,⟨r,e,hr⟩ | ⟨out,ia',ib',ac,bc,rfl,M,i1,i2,ms'⟩⟩
   ·obtain ⟨c0,c1⟩:=c
    subst e
    exact wpS_pure ⟨E2,r,rfl,hr⟩
   dsimp only
   refine wpS_bind (wpS_lift (wpAny_rule ⟨rfl,?_⟩))
   refine wpS_bind (wpS_mono (wpS_forRange (I:=fun y c st'=>Eqv st st'∧∃ out ia'' ib'' g ac bc,c=(none,out,ia'',ib'',g,ac,bc)∧MI a b out ia'' ib''∧ia'' + 1 < a.size∧ib'' < b.size∧ia + ib + min y 1 ≤ ia'' + ib'')
    (Q:=fun c st'=>Eqv st st'∧((∃ r,c.1=some r∧Res a b r)∨∃ out ia'' ib'' g ac bc,c=(none,out,ia'',ib'',g,ac,bc)∧MI a b out ia'' ib''∧ia'' + 1 < a.size∧ib'' < b.size∧ia + ib + 1 ≤ ia'' + ib'')) ?step2 ?fin2 ⟨E2,out,ia',ib',_,ac,bc,rfl,M,i1,i2,by omega⟩) ?post2)
   case fin2 =>
    rintro c st' ⟨Eq,out,ia'',ib'',g,ac,bc,rfl,M,i1,i2,ms⟩
    exact ⟨Eq,.inr ⟨out,ia'',ib'',g,ac,bc,rfl,M,i1,i2,by omega⟩⟩
   case post2 =>
    rintro c st3 ⟨E3,⟨r,e,hr⟩ | ⟨out,ia'',ib'',g,ac,bc,rfl,M,i1,i2,ms⟩⟩
    ·obtain ⟨c0,c1⟩:=c
     subst e
     exact wpS_pure ⟨E3,r,rfl,hr⟩
    ·dsimp only
     exact wpS_bind (ug (wpS_pure ⟨E3.set _,_,_,_,_,rfl,M,i1,i2,by omega⟩))
   case step2 =>
    rintro y c st3 _ hy ⟨E3,out,ia2,ib2,g,ac,bc,rfl,M,i1,i2,ms2⟩
    dsimp only
    have gt:∀ g':Nat,g'=g':=fun _=>rfl
    by_cases g1:g > 1
    case' pos=>rw [if_pos g1]
    case' neg=>rw [if_neg g1]
    all_goals
     refine wpS_bind (ug (wpS_bind (eX (getElem?_pos b ib2 i2) ?_)))
     refine wpS_bind (Vm ((E3.set _).k.trans hk) ha hb sa sb M (by omega) i2 fun k k1 Mk k2=>?_)
     dsimp only
     by_cases kp:k > 0
     case' pos =>
      rw [if_pos kp]
      generalize out++a.extract ia2 (ia2 + k)=o at Mk ⊢
      generalize hi:ia2 + k=i at k1 k2 Mk ⊢
      by_cases q1:i + 1=a.size
      case pos =>
       rw [if_pos (by simpa using q1)]
       exact wpS_pure ⟨E3.set _,.inl ⟨_,rfl,lastR _ _ _ Mk q1⟩⟩
      rw [if_neg (by simpa using q1)]
      by_cases q2:i=a.size
      case pos =>
       rw [if_pos (by simpa using q2)]
       exact wpS_pure ⟨E3.set _,.inl ⟨_,rfl,Mk.endA (by omega)⟩⟩
      rw [if_neg (by simpa using q2)]
      have hk2:=k2 (by omega)
      have hle:ia2 ≤ i:=by omega
      have hi1:i + 1 < a.size:=by omega
      clear k1 k2 q1 q2 hi kp M
     case' neg =>
      rw [if_neg kp]
      have k0:k=0:=by omega
      subst k0
      have hk2:=k2 (by omega)
      rw [mR] at hk2
      have hle:ia2 ≤ ia2:=aQ _
      have hi1:=i1
      have Mk:=M
      clear k1 k2 kp M
    all_goals
     refine wpS_bind (eX (getElem?_pos b ib2 i2) ?_)
     have Mb:=Mk.pushB i2 hk2
     by_cases q3:ib2 + 1=b.size
     case pos =>
      rw [if_pos (by simpa using q3)]
      exact wpS_pure ⟨E3.set _,.inl ⟨_,rfl,Mb.endB (by omega)⟩⟩
     rw [if_neg (by simpa using q3)]
     refine wpS_bind (eX (getElem?_pos a _ (iG hi1)) ?_)
     refine wpS_bind (Vo ((E3.set _).k.trans hk) ha hb sa sb Mb (iG hi1) (by omega) fun l l1 Ml l2=>?_)
     dsimp only
     by_cases lp:l > 0
     case' pos =>
      rw [if_pos lp]
      by_cases q4:ib2 + 1 + l=b.size
      case pos =>
       rw [if_pos (by simpa using q4)]
       exact wpS_pure ⟨E3.set _,.inl ⟨_,rfl,Ml.endB (by omega)⟩⟩
      rw [if_neg (by simpa using q4)]
      have Ma:=Ml.pushA (iG hi1) l2
      have q6:ib2 + 1 + l < b.size:=by omega
     case' neg =>
      rw [if_neg lp]
      have l0:l=0:=by omega
      subst l0
      have Ma:=Mb.pushA (iG hi1) l2
      have q6:ib2 + 1 < b.size:=by omega
    all_goals
     refine wpS_bind (eX (getElem?_pos a _ (iG hi1)) ?_)
     split
     ·next q5 =>
      exact wpS_pure ⟨E3.set _,.inl ⟨_,rfl,lastR _ _ _ Ma (by simpa using q5)⟩⟩
     ·next q5 =>
      have q5:=by simpa using q5
      split
      ·exact wpS_pure ⟨E3.set _,.inr ⟨_,_,_,_,_,_,rfl,Ma,by omega,q6,by omega⟩⟩
      ·exact wpS_pure ⟨E3.set _,_,_,_,_,_,_,rfl,Ma,by omega,q6,by omega⟩
end
end Srt
namespace Srt
open PySem PyProof.Rows
noncomputable def JQ:Array Keyed→Array Keyed→StateT SortSt Sem (Array Keyed):=sortPriv% PySem.Builtin.mergeHi
noncomputable def yt (a b out:Array Keyed) (na nb:Nat):Array Keyed:=a.extract 0 na++b.extract 0 nb++out.reverse
noncomputable def zq (a b out:Array Keyed) (na nb:Nat):Array Keyed:=b.extract 0 nb++a.extract 0 na++out.reverse
structure MJ (a b out:Array Keyed) (na nb:Nat):Prop where
 A:(a.toList.take na++out.toList.reverse).Pairwise R
 B:(b.toList.take nb++out.toList.reverse).Pairwise R
 P:(a.toList.take na++(b.toList.take nb++out.toList.reverse)).Perm (a.toList++b.toList)
section
variable {a b out:Array Keyed} {na nb:Nat}
theorem vg {x:Array Keyed} {i:Nat} (h:i < x.size):x.toList.take (i + 1)=x.toList.take i++[x[i]]:=by
 rw [tu,aN (by simpa using h)]
 simp
theorem zu {l o:List Keyed} {m:List Keyed} (h:(l++o).Pairwise R) (hm:m.Pairwise R) (h1:∀ x ∈ l,∀ y ∈ m,R x y) (h2:∀ x ∈ m,∀ y ∈ o,R x y):(l++(m++o)).Pairwise R:=by
 obtain ⟨p1,p2,p3⟩:=aM.mp h
 refine aM.mpr ⟨p1,aM.mpr ⟨hm,p2,h2⟩,fun x hx y hy=>?_⟩
 rcases bW.mp hy with z | z
 ·exact h1 x hx y z
 ·exact p3 x hx y z
theorem MJ.pushA (h:MJ a b out (na + 1) nb) (hi:na < a.size) (hle:∀ x ∈ b.toList.take nb,R x a[na]):MJ a b (out.push a[na]) na nb:=by
 obtain ⟨h1,h2,h3⟩:=h
 rw [vg hi] at h1 h3
 have e:(out.push a[na]).toList.reverse=[a[na]]++out.toList.reverse:=by simp
 rw [aW] at h1 h3
 obtain ⟨q1,q2,q3⟩:=aM.mp h1
 refine ⟨by rw [e];exact h1,?_,?_⟩
 ·rw [e]
  exact zu h2 (gP _ _) (fun x hx y hy=>by rw [aV.mp hy];exact hle x hx) (fun x hx y hy=>(aM.mp q2).2.2 x hx y hy)
 ·rw [e]
  refine List.Perm.trans (List.Perm.append_left _ ?_) h3
  rw [← aW,← aW]
  exact List.Perm.append_right _ fW
theorem MJ.pushB (h:MJ a b out na (nb + 1)) (hi:nb < b.size) (hle:∀ x ∈ a.toList.take na,R x b[nb]):MJ a b (out.push b[nb]) na nb:=by
 obtain ⟨h1,h2,h3⟩:=h
 rw [vg hi] at h2 h3
 have e:(out.push b[nb]).toList.reverse=[b[nb]]++out.toList.reverse:=by simp
 rw [aW] at h2 h3
 obtain ⟨q1,q2,q3⟩:=aM.mp h2
 refine ⟨?_,by rw [e];exact h2,by rw [e];exact h3⟩
 rw [e]
 exact zu h1 (gP _ _) (fun x hx y hy=>by rw [aV.mp hy];exact hle x hx) (fun x hx y hy=>(aM.mp q2).2.2 x hx y hy)
theorem wj {l:List Keyed} {i n:Nat} (h:i ≤ n):l.take n=l.take i++(l.drop i).take (n - i):=by
 rw [← List.take_add,Nat.add_sub_cancel' h]
theorem rF {x:Array Keyed} {i n:Nat}:(out++(x.extract i n).reverse).toList.reverse=(x.toList.drop i).take (n - i)++out.toList.reverse:=by
 rw [cg,List.reverse_append,mq,List.reverse_reverse,gW]
theorem MJ.appA (h:MJ a b out na nb) {i:Nat} (hi:i ≤ na) (hle:∀ x ∈ b.toList.take nb,∀ y ∈ (a.toList.drop i).take (na - i),R x y):MJ a b (out++(a.extract i na).reverse) i nb:=by
 obtain ⟨h1,h2,h3⟩:=h
 rw [wj hi,aW] at h1 h3
 obtain ⟨q1,q2,q3⟩:=aM.mp h1
 refine ⟨by rw [rF];exact h1,?_,?_⟩
 ·rw [rF]
  exact zu h2 (aM.mp q2).1 hle (aM.mp q2).2.2
 ·rw [rF]
  refine List.Perm.trans (List.Perm.append_left _ ?_) h3
  rw [← aW,← aW]
  exact List.Perm.append_right _ fW
theorem MJ.appB (h:MJ a b out na nb) {i:Nat} (hi:i ≤ nb) (hle:∀ x ∈ a.toList.take na,∀ y ∈ (b.toList.drop i).take (nb - i),R x y):MJ a b (out++(b.extract i nb).reverse) na i:=by
 obtain ⟨h1,h2,h3⟩:=h
 rw [wj hi,aW] at h2 h3
 obtain ⟨q1,q2,q3⟩:=aM.mp h2
 refine ⟨?_,by rw [rF];exact h2,by rw [rF];exact h3⟩
 rw [rF]
 exact zu h1 (aM.mp q2).1 hle (aM.mp q2).2.2
theorem wu:(yt a b out na nb).toList=a.toList.take na++(b.toList.take nb++out.toList.reverse):=by
 unfold yt
 rw [cg,cg,gW,gW,eO,eO,o8,o8,mq,aW]
theorem MJ.endA (h:MJ a b out 0 nb):Res a b (yt a b out 0 nb):=by
 have e:=wu (a:=a) (b:=b) (out:=out) (na:=0) (nb:=nb)
 rw [jH,jq] at e
 have p:=h.P
 rw [jH,jq] at p
 exact ⟨by rw [e];exact p,by rw [e];exact h.B⟩
theorem MJ.endB (h:MJ a b out na 0):Res a b (yt a b out na 0):=by
 have e:=wu (a:=a) (b:=b) (out:=out) (na:=na) (nb:=0)
 rw [jH,jq] at e
 have p:=h.P
 rw [jH,jq] at p
 exact ⟨by rw [e];exact p,by rw [e];exact h.A⟩
theorem MJ.first (h:MJ a b out na 1) (b0:0 < b.size) (hf:∀ y ∈ a.toList,R b[0] y):Res a b (zq a b out na 1):=by
 have t:b.toList.take 1=[b[0]]:=by rw [vg b0,jH];rfl
 have e:(zq a b out na 1).toList=[b[0]]++(a.toList.take na++out.toList.reverse):=by
  unfold zq
  rw [cg,cg,gW,gW,eO,eO,o8,o8,mq,t,aW]
 have p:=h.P
 have B:=h.B
 rw [t] at p B
 refine ⟨?_,?_⟩
 ·rw [e]
  refine List.Perm.trans ?_ p
  rw [← aW,← aW]
  exact List.Perm.append_right _ fW
 ·rw [e]
  show (b[0] :: (a.toList.take na++out.toList.reverse)).Pairwise R
  have B:(b[0] :: out.toList.reverse).Pairwise R:=B
  refine cO.mpr ⟨fun y hy=>?_,h.A⟩
  rcases bW.mp hy with z | z
  ·exact hf y (mC z)
  ·exact (cO.mp B).1 y z
theorem uK {x:Array Keyed} {n:Nat} {p:Keyed} (h:p ∈ x.toList.take n):∃ j,j < n∧∃ hj:j < x.size,p=x[j]:=by
 obtain ⟨j,j1,j2,e⟩:=oY (i:=0) (by rw [eO];exact h)
 exact ⟨j,j1,by omega,by rw [e];congr 1;omega⟩
variable {prog:Program} {w:World} {A:Around} {E:Value→Shared→Prop} {s:Shared}
theorem RJ {st:SortSt} {Q:Option Nat→SortSt→Prop} (hk:kindOf st=oneType') (ha:∀ p ∈ a.toList,mO p) (hb:∀ p ∈ b.toList,mO p) (sa:a.toList.Pairwise R) (sb:b.toList.Pairwise R)
 (M:MJ a b out na nb) (i1:0 < na) (i1':na ≤ a.size) (i2:0 < nb) (i2':nb ≤ b.size) (h:∀ k,k ≤ na→MJ a b (out++(a.extract k na).reverse) k nb→(∀ x ∈ a.toList.take k,R x (b[nb - 1]'(by omega)))→Q (some k) st) :
 wpS (model prog w) A E s (uc false (b[nb - 1]'(by omega)) a 0 na (na - 1)) Q st:=by
 have hb1:nb - 1 < b.size:=by omega
 refine lO hk (lX hb hb1) ha (by omega) (by omega) (fun i j h1 h2 h3=>?_) fun k k1 k2 k3=>h k k1 (M.appA k1 fun x hx y hy=>?_) fun x hx=>?_
 ·unfold Pb at h3 ⊢
  have:=K_R sa (i:=0 + i) (j:=0 + j) (by omega) (by omega)
  rw [if_neg aU,iH,decide_eq_false_iff_not] at h3 ⊢
  omega
 ·obtain ⟨j,j1,j2,rfl⟩:=oY hy
  obtain ⟨l,l1,l2,rfl⟩:=uK hx
  have:=k3 (k + j) (by omega) (by omega)
  unfold Pb at this
  rw [if_neg aU,m8,decide_eq_true_iff,d8,jk j2] at this
  have q:=K_R sb (i:=l) (j:=nb - 1) (by omega) hb1
  rw [jk hb1,jk l2] at q
  unfold R
  omega
 ·obtain ⟨l,l1,l2,rfl⟩:=uK hx
  have:=k2 l l1
  unfold Pb at this
  rw [if_neg aU,iH,decide_eq_false_iff_not,d8,jk l2] at this
  unfold R
  omega
theorem RK {st:SortSt} {Q:Option Nat→SortSt→Prop} (hk:kindOf st=oneType') (ha:∀ p ∈ a.toList,mO p) (hb:∀ p ∈ b.toList,mO p) (sa:a.toList.Pairwise R) (sb:b.toList.Pairwise R)
 (M:MJ a b out na nb) (i1:0 < na) (i1':na ≤ a.size) (i2:0 < nb) (i2':nb ≤ b.size) (h:∀ k,k ≤ nb→MJ a b (out++(b.extract k nb).reverse) na k→(∀ x ∈ b.toList.take k,R x (a[na - 1]'(by omega)))→Q (some k) st) :
 wpS (model prog w) A E s (uc true (a[na - 1]'(by omega)) b 0 nb (nb - 1)) Q st:=by
 have ha1:na - 1 < a.size:=by omega
 refine lO hk (lX ha ha1) hb (by omega) (by omega) (fun i j h1 h2 h3=>?_) fun k k1 k2 k3=>h k k1 (M.appB k1 fun x hx y hy=>?_) fun x hx=>?_
 ·unfold Pb at h3 ⊢
  have:=K_R sb (i:=0 + i) (j:=0 + j) (by omega) (by omega)
  rw [if_pos rfl,decide_eq_true_iff] at h3 ⊢
  omega
 ·obtain ⟨j,j1,j2,rfl⟩:=oY hy
  obtain ⟨l,l1,l2,rfl⟩:=uK hx
  have:=k3 (k + j) (by omega) (by omega)
  unfold Pb at this
  rw [if_pos rfl,decide_eq_false_iff_not,d8,jk j2] at this
  have q:=K_R sa (i:=l) (j:=na - 1) (by omega) ha1
  rw [jk ha1,jk l2] at q
  unfold R
  omega
 ·obtain ⟨l,l1,l2,rfl⟩:=uK hx
  have:=k2 l l1
  unfold Pb at this
  rw [if_pos rfl,decide_eq_true_iff,d8,jk l2] at this
  unfold R
  omega
end
end Srt
namespace Srt
open PySem PyProof.Rows
section
variable {prog:Program} {w:World} {A:Around} {E:Value→Shared→Prop} {s:Shared} {a b:Array Keyed}
theorem MJ.endA' {out:Array Keyed} {na nb:Nat} (h:MJ a b out na nb) (e:na=0):Res a b (yt a b out na nb):=by subst e;exact h.endA
theorem MJ.endB' {out:Array Keyed} {na nb:Nat} (h:MJ a b out na nb) (e:nb=0):Res a b (yt a b out na nb):=by subst e;exact h.endB
theorem MJ.first' {out:Array Keyed} {na nb:Nat} (h:MJ a b out na nb) (e:nb=1) (b0:0 < b.size) (hf:∀ y ∈ a.toList,R b[0] y):Res a b (zq a b out na nb):=by subst e;exact h.first b0 hf
theorem MJ.pushA' {out:Array Keyed} {na nb:Nat} (h:MJ a b out na nb) (h0:0 < na) (hi:na - 1 < a.size) (hle:∀ x ∈ b.toList.take nb,R x a[na - 1]):MJ a b (out.push a[na - 1]) (na - 1) nb:=by
 cases na with
 | zero=>omega
 | succ n=>exact MJ.pushA (na:=n) h hi hle
theorem MJ.pushB' {out:Array Keyed} {na nb:Nat} (h:MJ a b out na nb) (h0:0 < nb) (hi:nb - 1 < b.size) (hle:∀ x ∈ a.toList.take na,R x b[nb - 1]):MJ a b (out.push b[nb - 1]) na (nb - 1):=by
 cases nb with
 | zero=>omega
 | succ n=>exact MJ.pushB (nb:=n) h hi hle
theorem Bh {st:SortSt} {Q:Array Keyed→SortSt→Prop} (hk:kindOf st=oneType') (ha:∀ p ∈ a.toList,mO p) (hb:∀ p ∈ b.toList,mO p) (a0:0 < a.size) (b0:0 < b.size) (sa:a.toList.Pairwise R) (sb:b.toList.Pairwise R)
 (hf:K b 0 < K a 0) (hl:∀ y ∈ b.toList,R y (a[a.size - 1]'(by omega))) (h:∀ r st',Res a b r→Eqv st st'→Q r st'):wpS (model prog w) A E s (JQ a b) Q st:=by
 have la:a.size - 1 < a.size:=by omega
 have hf':∀ y ∈ a.toList,R b[0] y:=fun y hy=>by
  obtain ⟨l,l1,rfl⟩:=nC (x:=a) (i:=0) (by rw [eO];exact hy)
  have q:=K_R sa (i:=0) (j:=0 + l) (by omega) l1
  rw [jk a0] at q hf
  rw [jk b0] at hf
  rw [jk l1] at q
  unfold R
  omega
 refine wpS_bind (m:=liftM (rule _)) (wpS_lift (wpAny_rule ⟨rfl,?_⟩))
 refine wpS_bind (eX (getElem?_pos a (a.size - 1) la) ?_)
 dsimp only
 have M0:MJ a b #[a[a.size - 1]] (a.size - 1) b.size:=by
  have ta:a.toList.take (a.size - 1)++[a[a.size - 1]]=a.toList:=by
   rw [← vg la,Nat.sub_add_cancel a0,cY (by simp)]
  have tb:b.toList.take b.size=b.toList:=cY (by simp)
  refine ⟨?_,?_,?_⟩
  ·show (a.toList.take (a.size - 1)++[a[a.size - 1]]).Pairwise R
   rw [ta];exact sa
  ·show (b.toList.take b.size++[a[a.size - 1]]).Pairwise R
   rw [tb]
   exact aM.mpr ⟨sb,gP _ _,fun x hx y hy=>by rw [aV.mp hy];exact hl x hx⟩
  ·show (a.toList.take (a.size - 1)++(b.toList.take b.size++[a[a.size - 1]])).Perm (a.toList++b.toList)
   rw [tb]
   have:(a.toList.take (a.size - 1)++(b.toList++[a[a.size - 1]])).Perm (a.toList.take (a.size - 1)++([a[a.size - 1]]++b.toList)):=List.Perm.append_left _ fW
   rw [← aW _ [a[a.size - 1]],ta] at this
   exact this
 by_cases c1:a.size - 1=0
 ·rw [if_pos (by simpa using c1)]
  exact wpS_pure (h _ _ (M0.endA' c1) (Eqv.refl st))
 rw [if_neg (by simpa using c1)]
 by_cases c2:b.size=1
 ·rw [if_pos (by simpa using c2)]
  exact wpS_pure (h _ _ (M0.first' c2 b0 hf') (Eqv.refl st))
 rw [if_neg (by simpa using c2)]
 refine wpS_bind (wpS_get ?_)
 refine wpS_bind (wpS_mono (wpS_forRange (I:=fun x c st'=>Eqv st st'∧∃ (na nb:Nat) (out:Array Keyed) (g:Nat),c=(none,na,nb,out,g)∧MJ a b out na nb∧0 < na∧na ≤ a.size∧1 < nb∧nb ≤ b.size∧na + nb + x + 1 ≤ a.size + b.size)
  (Q:=fun c st'=>Eqv st st'∧∃ r,c.1=some r∧Res a b r) ?ostep ?ofin ⟨Eqv.refl st,_,_,_,_,rfl,M0,by omega,by omega,by omega,by omega,by omega⟩) ?opost)
 case opost =>
  rintro c st' ⟨Eq,r,e,hr⟩
  obtain ⟨c0,c1⟩:=c
  subst e
  exact wpS_pure (h r st' hr Eq)
 case ofin =>
  rintro c st' ⟨Eq,na,nb,out,g,rfl,M,i1,i1',i2,i2',ms⟩
  omega
 case ostep =>
  rintro x c st1 _ hx ⟨E1,na,nb,out,g,rfl,M,i1,i1',i2,i2',ms⟩
  dsimp only
  refine wpS_bind (wpS_mono (wpS_forRange (I:=fun y c st'=>Eqv st st'∧∃ (na' nb':Nat) (out:Array Keyed) (ac bc:Nat),c=(none,na',nb',out,ac,bc)∧MJ a b out na' nb'∧0 < na'∧na' ≤ a.size∧1 < nb'∧nb' ≤ b.size∧na' + nb' ≤ na + nb)
   (Q:=fun c st'=>Eqv st st'∧((∃ r,c.1=some r∧Res a b r)∨∃ (na' nb':Nat) (out:Array Keyed) (ac bc:Nat),c=(none,na',nb',out,ac,bc)∧MJ a b out na' nb'∧0 < na'∧na' ≤ a.size∧1 < nb'∧nb' ≤ b.size∧na' + nb' ≤ na + nb)) ?step1 ?fin1 ⟨E1,na,nb,out,0,0,rfl,M,i1,i1',i2,i2',aQ _⟩) ?post1)
  case fin1 =>
   rintro c st' ⟨Eq,q⟩
   exact ⟨Eq,.inr q⟩
  case step1 =>
   rintro y c st2 _ hy ⟨E2,na',nb',out,ac,bc,rfl,M,j1,j1',j2,j2',ms'⟩
   dsimp only
   obtain ⟨ma,rfl⟩:∃ ma,na'=ma + 1:=⟨na' - 1,by omega⟩
   obtain ⟨mb,rfl⟩:∃ mb,nb'=mb + 1:=⟨nb' - 1,by omega⟩
   simp only [Nat.add_sub_cancel]
   have ma1:ma < a.size:=by omega
   have mb1:mb < b.size:=by omega
   refine wpS_bind (eX (getElem?_pos b mb mb1) (wpS_bind (eX (getElem?_pos a ma ma1) ?_)))
   refine wpS_bind (zp (E2.k.trans hk) (lX hb mb1) (lX ha ma1) ?_)
   dsimp only
   by_cases lt:numOf (b[mb]).1 < numOf (a[ma]).1
   ·rw [dTr lt,if_pos rfl]
    refine wpS_bind (eX (getElem?_pos a ma ma1) ?_)
    have M':=M.pushA ma1 fun x hx=>by
     obtain ⟨l,l1,l2,rfl⟩:=uK hx
     have q:=K_R sb (i:=l) (j:=mb) (by omega) mb1
     rw [jk mb1,jk l2] at q
     unfold R
     omega
    by_cases z:ma=0
    ·rw [if_pos (by simpa using z)]
     subst z
     exact wpS_pure ⟨E2,.inl ⟨_,rfl,M'.endA⟩⟩
    ·rw [if_neg (by simpa using z)]
     split
     ·exact wpS_pure ⟨E2,.inr ⟨_,_,_,_,_,rfl,M',by omega,by omega,j2,j2',by omega⟩⟩
     ·exact wpS_pure ⟨E2,_,_,_,_,_,rfl,M',by omega,by omega,j2,j2',by omega⟩
   ·rw [dFa lt,if_neg aU]
    refine wpS_bind (eX (getElem?_pos b mb mb1) ?_)
    have M':=M.pushB mb1 fun x hx=>by
     obtain ⟨l,l1,l2,rfl⟩:=uK hx
     have q:=K_R sa (i:=l) (j:=ma) (by omega) ma1
     rw [jk ma1,jk l2] at q
     unfold R
     omega
    by_cases z:mb=1
    ·rw [if_pos (by simpa using z)]
     subst z
     exact wpS_pure ⟨E2,.inl ⟨_,rfl,M'.first b0 hf'⟩⟩
    ·rw [if_neg (by simpa using z)]
     split
     ·exact wpS_pure ⟨E2,.inr ⟨_,_,_,_,_,rfl,M',j1,j1',by omega,by omega,by omega⟩⟩
     ·exact wpS_pure ⟨E2,_,_,_,_,_,rfl,M',j1,j1',by omega,by omega,by omega⟩
  case post1 =>
   rintro c st2 ⟨E2,⟨r,e,hr⟩ | ⟨na',nb',out,ac,bc,rfl,M,j1,j1',j2,j2',ms'⟩⟩
   ·obtain ⟨c0,c1⟩:=c
    subst e
    exact wpS_pure ⟨E2,r,rfl,hr⟩
   dsimp only
   refine wpS_bind (wpS_lift (wpAny_rule ⟨rfl,?_⟩))
   refine wpS_bind (wpS_mono (wpS_forRange (I:=fun y c st'=>Eqv st st'∧∃ (na'' nb'':Nat) (out:Array Keyed) (g ac bc:Nat),c=(none,na'',nb'',out,g,ac,bc)∧MJ a b out na'' nb''∧0 < na''∧na'' ≤ a.size∧1 < nb''∧nb'' ≤ b.size∧na'' + nb'' + min y 1 ≤ na + nb)
    (Q:=fun c st'=>Eqv st st'∧((∃ r,c.1=some r∧Res a b r)∨∃ (na'' nb'':Nat) (out:Array Keyed) (g ac bc:Nat),c=(none,na'',nb'',out,g,ac,bc)∧MJ a b out na'' nb''∧0 < na''∧na'' ≤ a.size∧1 < nb''∧nb'' ≤ b.size∧na'' + nb'' + 1 ≤ na + nb)) ?step2 ?fin2 ⟨E2,na',nb',out,_,ac,bc,rfl,M,j1,j1',j2,j2',by omega⟩) ?post2)
   case fin2 =>
    rintro c st' ⟨Eq,na2,nb2,out,g,ac,bc,rfl,M,j1,j1',j2,j2',ms2⟩
    exact ⟨Eq,.inr ⟨na2,nb2,out,g,ac,bc,rfl,M,j1,j1',j2,j2',by omega⟩⟩
   case post2 =>
    rintro c st3 ⟨E3,⟨r,e,hr⟩ | ⟨na2,nb2,out,g,ac,bc,rfl,M,j1,j1',j2,j2',ms2⟩⟩
    ·obtain ⟨c0,c1⟩:=c
     subst e
     exact wpS_pure ⟨E3,r,rfl,hr⟩
    ·dsimp only
     exact wpS_bind (ug (wpS_pure ⟨E3.set _,_,_,_,_,rfl,M,j1,j1',j2,j2',by omega⟩))
   case step2 =>
    rintro y c st3 _ hy ⟨E3,na2,nb2,out,g,ac,bc,rfl,M,j1,j1',j2,j2',ms2⟩
    dsimp only
    have nb1:nb2 - 1 < b.size:=by omega
    by_cases g1:g > 1
    case' pos=>rw [if_pos g1]
    case' neg=>rw [if_neg g1]
    all_goals
     refine wpS_bind (ug (wpS_bind (eX (getElem?_pos b (nb2 - 1) nb1) ?_)))
     refine wpS_bind (RJ ((E3.set _).k.trans hk) ha hb sa sb M j1 j1' (by omega) j2' fun k k1 Mk k2=>?_)
     dsimp only
     by_cases kp:na2 - k > 0
     case' pos =>
      rw [if_pos kp]
      generalize out++(a.extract k na2).reverse=o at Mk ⊢
      by_cases q1:k=0
      case pos =>
       rw [if_pos (by simpa using q1)]
       exact wpS_pure ⟨E3.set _,.inl ⟨_,rfl,Mk.endA' q1⟩⟩
      rw [if_neg (by simpa using q1)]
      have hk0:0 < k:=by omega
      have hka:k ≤ a.size:=by omega
      have hkn:k ≤ na2:=k1
     case' neg =>
      rw [if_neg kp]
      have k0:k=na2:=by omega
      subst k0
      have Mk:=M
      have hk0:0 < k:=j1
      have hka:k ≤ a.size:=j1'
      have hkn:k ≤ k:=aQ _
    all_goals
     refine wpS_bind (eX (getElem?_pos b (nb2 - 1) nb1) ?_)
     have Mb:=Mk.pushB' (by omega) nb1 k2
     by_cases q3:nb2 - 1=1
     case pos =>
      rw [if_pos (by simpa using q3)]
      exact wpS_pure ⟨E3.set _,.inl ⟨_,rfl,Mb.first' q3 b0 hf'⟩⟩
     rw [if_neg (by simpa using q3)]
     have ka1:k - 1 < a.size:=by omega
     refine wpS_bind (eX (getElem?_pos a (k - 1) ka1) ?_)
     refine wpS_bind (RK ((E3.set _).k.trans hk) ha hb sa sb Mb hk0 hka (by omega) (by omega) fun l l1 Ml l2=>?_)
     dsimp only
     by_cases lp:nb2 - 1 - l > 0
     case' pos =>
      rw [if_pos lp]
      by_cases q4:l=1
      case pos =>
       rw [if_pos (by simpa using q4)]
       exact wpS_pure ⟨E3.set _,.inl ⟨_,rfl,Ml.first' q4 b0 hf'⟩⟩
      rw [if_neg (by simpa using q4)]
      by_cases q5:l=0
      case pos =>
       rw [if_pos (by simpa using q5)]
       exact wpS_pure ⟨E3.set _,.inl ⟨_,rfl,Ml.endB' q5⟩⟩
      rw [if_neg (by simpa using q5)]
      have Ma:=Ml.pushA' hk0 ka1 l2
      have q6:1 < l:=by omega
      have q7:l ≤ b.size:=by omega
     case' neg =>
      rw [if_neg lp]
      have l0:l=nb2 - 1:=by omega
      subst l0
      have Ma:=Mb.pushA' hk0 ka1 l2
      have q6:1 < nb2 - 1:=by omega
      have q7:nb2 - 1 ≤ b.size:=by omega
    all_goals
     refine wpS_bind (eX (getElem?_pos a (k - 1) ka1) ?_)
     by_cases q9:k - 1=0
     case pos =>
      rw [if_pos (by simpa using q9)]
      exact wpS_pure ⟨E3.set _,.inl ⟨_,rfl,Ma.endA' q9⟩⟩
     rw [if_neg (by simpa using q9)]
     split
     ·exact wpS_pure ⟨E3.set _,.inr ⟨_,_,_,_,_,_,rfl,Ma,by omega,by omega,q6,q7,by omega⟩⟩
     ·exact wpS_pure ⟨E3.set _,_,_,_,_,_,_,rfl,Ma,by omega,by omega,q6,q7,by omega⟩
end
end Srt
namespace Srt
open PySem PyProof.Rows
noncomputable def SIn (xs:Array Keyed) (lo hi:Nat):Prop:=∀ i j,lo ≤ i→i ≤ j→j < hi→K xs i ≤ K xs j
structure Ch (st st':SortSt) (lo hi:Nat):Prop where
 perm:(arrOf st').Perm (arrOf st)
 kind:kindOf st'=kindOf st
 failed:failedOf st'=failedOf st
 pend:pendingOf st'=pendingOf st
 out:∀ i,i < lo∨hi ≤ i→(arrOf st')[i]? = (arrOf st)[i]?
theorem Ch.refl (st:SortSt) (lo hi:Nat):Ch st st lo hi:=⟨Array.Perm.refl _,rfl,rfl,rfl,fun _ _=>rfl⟩
theorem Ch.size {st st':SortSt} {lo hi:Nat} (h:Ch st st' lo hi):(arrOf st').size=(arrOf st).size:=h.perm.size_eq
theorem Ch.ints {st st':SortSt} {lo hi:Nat} (h:Ch st st' lo hi) (h0:IntKeys (arrOf st)):IntKeys (arrOf st'):=fun p hp=>h0 p ((jJ.mp h.perm).mem_iff.mp hp)
theorem Ch.trans {st st' st'':SortSt} {lo hi:Nat} (h:Ch st st' lo hi) (g:Ch st' st'' lo hi):Ch st st'' lo hi:=⟨g.perm.trans h.perm,g.kind.trans h.kind,g.failed.trans h.failed,g.pend.trans h.pend,fun i q=>(g.out i q).trans (h.out i q)⟩
theorem Ch.set {st:SortSt} {xs:Array Keyed} {lo hi:Nat} (hp:xs.Perm (arrOf st)) (ho:∀ i,i < lo∨hi ≤ i→xs[i]? = (arrOf st)[i]?):Ch st (setArr st xs) lo hi:=⟨hp,rfl,rfl,rfl,ho⟩
section
variable {prog:Program} {w:World} {A:Around} {E:Value→Shared→Prop} {s:Shared}
theorem rG {st:SortSt} {i j:Nat} {Q:Option Bool→SortSt→Prop} (hk:kindOf st=oneType') (h0:IntKeys (arrOf st)) (hi:i < (arrOf st).size) (hj:j < (arrOf st).size) (h:Q (some (decide (K (arrOf st) i < K (arrOf st) j))) st) :
 wpS (model prog w) A E s (ltAt' i j) Q st:=by
 obtain ⟨n,t,e1⟩:=h0 (arrOf st)[i] (by simp)
 obtain ⟨m,u,e2⟩:=h0 (arrOf st)[j] (by simp)
 rw [jk hi,jk hj,e1,e2] at h
 exact wpS_ltAt (a:=n) (b:=m) (t:=t) (u:=u) (p:=(arrOf st)[i].2) (q:=(arrOf st)[j].2) hk (by rw [getElem?_pos _ i hi];congr 1;exact Prod.ext e1 rfl) (by rw [getElem?_pos _ j hj];congr 1;exact Prod.ext e2 rfl) h
noncomputable def Gap (xs:Array Keyed) (lo k l r:Nat):Prop:=(∀ i,i < l→K xs (lo + i) ≤ K xs (lo + k))∧∀ i,r ≤ i→i < k→K xs (lo + k) < K xs (lo + i)
theorem Nm {st:SortSt} {lo n ok:Nat} {Q:Bool→SortSt→Prop} (hk:kindOf st=oneType') (h0:IntKeys (arrOf st)) (hn:lo + n ≤ (arrOf st).size) (hok:ok ≤ n) (hs:SIn (arrOf st) lo (lo + ok))
 (h:∀ st',Ch st st' lo (lo + n)→SIn (arrOf st') lo (lo + n)→Q true st'):wpS (model prog w) A E s (binarySort' lo n ok) Q st:=by
 rw [binarySort'_eq]
 refine wpS_bind (wpS_mono (wpS_forRange (I:=fun k c st'=>c=(none,())∧Ch st st' lo (lo + n)∧SIn (arrOf st') lo (lo + min k n))
  (Q:=fun c st'=>c=(none,())∧Ch st st' lo (lo + n)∧SIn (arrOf st') lo (lo + n)) ?s1 ?f1 ?z1) ?p1)
 case p1 =>
  rintro c st' ⟨rfl,ch,so⟩
  exact wpS_pure (h st' ch so)
 case z1 =>
  refine ⟨rfl,Ch.refl _ _ _,fun i j hl ij jj=>?_⟩
  by_cases h1:ok=0
  ·rw [show i=j by omega]
   exact cX _
  ·exact hs i j hl ij (by omega)
 case f1 =>
  rintro c st' ⟨ec,ch,so⟩
  refine ⟨ec,ch,?_⟩
  rwa [show min (max (max ok 1) n) n=n by omega] at so
 case s1 =>
  rintro k c st' k1 k2 ⟨rfl,ch,so⟩
  rw [show min k n=k by omega] at so
  have sz:=ch.size
  have hk':lo + k < (arrOf st').size:=by omega
  have h0':=ch.ints h0
  refine wpS_bind (wpS_mono (wpS_forRange (I:=fun x c st''=>∃ l r,((st''=st'∧c=(none,l,r))∧l ≤ r∧r ≤ k∧r - l ≤ k - x)∧Gap (arrOf st') lo k l r) (Q:=fun c st''=>∃ l r,((st''=st'∧c=(none,l,r))∧l ≤ k)∧Gap (arrOf st') lo k l l) ?s2 ?f2 ?z2) ?p2)
  case z2=>exact ⟨0,k,⟨⟨rfl,rfl⟩,by omega,by omega,by omega⟩,fun i hi=>by omega,fun i h1 h2=>by omega⟩
  case f2 =>
   rintro c st'' ⟨l,r,⟨⟨rfl,rfl⟩,q1,q2,q3⟩,q4,q5⟩
   have:l=r:=by omega
   subst this
   exact ⟨l,l,⟨⟨rfl,rfl⟩,q2⟩,q4,q5⟩
  case s2 =>
   rintro x c st'' _ xk ⟨l,r,⟨⟨rfl,rfl⟩,q1,q2,q3⟩,q4,q5⟩
   dsimp only
   by_cases gq:l ≥ r
   ·rw [if_pos gq]
    have:l=r:=by omega
    subst this
    exact wpS_pure ⟨l,l,⟨⟨rfl,rfl⟩,q2⟩,q4,q5⟩
   ·rw [if_neg gq]
    refine wpS_bind (rG (ch.kind.trans hk) h0' hk' (by omega) ?_)
    by_cases lq:K (arrOf st'') (lo + k) < K (arrOf st'') (lo + (l + r) / 2)
    ·simp only [lq,decide_true,if_true]
     refine wpS_pure ⟨l,(l + r) / 2,⟨⟨rfl,rfl⟩,by omega,by omega,by omega⟩,q4,fun i h1 h2=>?_⟩
     exact Int.lt_of_lt_of_le lq (so _ _ (by omega) (by omega) (by omega))
    ·simp only [lq,decide_false,sy,if_false]
     refine wpS_pure ⟨(l + r) / 2 + 1,r,⟨⟨rfl,rfl⟩,by omega,by omega,by omega⟩,fun i h1=>?_,q5⟩
     exact gY (so (lo + i) (lo + (l + r) / 2) (by omega) (by omega) (by omega)) (Int.not_lt.mp lq)
  case p2 =>
   rintro c st'' ⟨l,r,⟨⟨rfl,rfl⟩,hlk⟩,q4,q5⟩
   show wpS _ _ _ _ (do moveDown' (lo + k) (lo + l);pure (ForInStep.yield (none,()))) _ _
   rw [moveDown'_eq]
   have ed:lo + k - (lo + l)=k - l:=by omega
   refine wpS_bind (wpS_modify (wpS_pure ⟨rfl,ch.trans (Ch.set (bubble_perm _ _ _) fun i hi=>?_),?_⟩))
   ·rw [getElem?_bubble hk' _ (by omega)]
    rw [if_neg (by omega),if_neg (by omega)]
   have mk:min (k + 1) n=k + 1:=by omega
   rw [mk]
   intro i j hl ij jj
   show K (bubble (arrOf st'') (lo + k) (lo + k - (lo + l))) i ≤ K (bubble (arrOf st'') (lo + k) (lo + k - (lo + l))) j
   rw [K_bubble hk' (by omega),K_bubble hk' (by omega),show lo + k - (lo + k - (lo + l))=lo + l by omega]
   have lo':∀ x,lo ≤ x→x < lo + l→K (arrOf st'') x ≤ K (arrOf st'') (lo + k):=fun x h1 h2=>by
    have:=q4 (x - lo) (by omega)
    rwa [show lo + (x - lo)=x by omega] at this
   have hi':∀ x,lo + l ≤ x→x < lo + k→K (arrOf st'') (lo + k) < K (arrOf st'') x:=fun x h1 h2=>by
    have:=q5 (x - lo) (by omega) (by omega)
    rwa [show lo + (x - lo)=x by omega] at this
   repeat' split
   all_goals first
    | (exfalso;omega)
    | exact cX _
    | exact lo' _ (by omega) (by omega)
    | exact mU (hi' _ (by omega) (by omega))
    | exact so _ _ (by omega) (by omega) (by omega)
end
end Srt
namespace Srt
open PySem PyProof.Rows
noncomputable def putAll (x:Array Keyed) (off:Nat) (m:List Keyed):Array Keyed:=m.zipIdx.foldl (fun a q=>a.setIfInBounds (off + q.2) q.1) x
theorem E_:∀ (m:List Keyed) (n off:Nat) (x:Array Keyed),off + n + m.length ≤ x.size →
 ((m.zipIdx n).foldl (fun a q=>a.setIfInBounds (off + q.2) q.1) x).size=x.size∧∀ j,((m.zipIdx n).foldl (fun a q=>a.setIfInBounds (off + q.2) q.1) x)[j]? = if off + n ≤ j∧j < off + n + m.length then m[j - (off + n)]? else x[j]?
 | [],n,off,x,_=>⟨rfl,fun j=>by rw [if_neg (by simp only [jt];omega)];rfl⟩
 | p :: m,n,off,x,h=>by
  rw [bK] at h
  obtain ⟨h1,h2⟩:=E_ m (n + 1) off (x.setIfInBounds (off + n) p) (by rw [jR];omega)
  rw [List.zipIdx_cons,pJ]
  refine ⟨h1.trans jR,fun j=>?_⟩
  rw [h2 j,bK]
  by_cases c1:off + (n + 1) ≤ j∧j < off + (n + 1) + m.length
  ·rw [if_pos c1,if_pos (by omega),show j - (off + n)=(j - (off + (n + 1))) + 1 by omega,List.getElem?_cons_succ]
  ·rw [if_neg c1,mJ]
   by_cases c2:off + n=j
   ·rw [if_pos c2,if_pos (by omega),if_pos (by omega),show j - (off + n)=0 by omega,List.getElem?_cons_zero]
   ·rw [if_neg c2,if_neg (by omega)]
theorem wz {x:Array Keyed} {off:Nat} {m:List Keyed} (h:off + m.length ≤ x.size) (j:Nat):(putAll x off m)[j]? = if off ≤ j∧j < off + m.length then m[j - off]? else x[j]?:=by
 have:=(E_ m 0 off x (by omega)).2 j
 simpa [putAll] using this
theorem JR {x:Array Keyed} {off:Nat} {m:List Keyed} (h:off + m.length ≤ x.size):(putAll x off m).toList=x.toList.take off++(m++x.toList.drop (off + m.length)):=by
 apply jC
 intro j
 rw [cD,wz h]
 by_cases c1:j < off
 ·rw [if_neg (by omega),cQ (by simp;omega),n_ c1,cD]
 ·have l1:(x.toList.take off).length=off:=by simp;omega
  rw [cN (by omega),l1]
  by_cases c2:j < off + m.length
  ·rw [if_pos (by omega),cQ (by omega)]
  ·rw [if_neg (by omega),cN (by omega),jX,cD]
   congr 1
   omega
theorem JT {x:Array Keyed} {off:Nat} {m:List Keyed} (h:off + m.length ≤ x.size) (p:m.Perm ((x.toList.drop off).take m.length)):(putAll x off m).Perm x:=by
 rw [jJ,JR h]
 have e:x.toList=x.toList.take off++((x.toList.drop off).take m.length++x.toList.drop (off + m.length)):=by
  rw [← m7,eG,eG]
 refine List.Perm.trans (List.Perm.append_left _ (List.Perm.append_right _ p)) ?_
 rw [← e]
end Srt
namespace Srt
open PySem PyProof.Rows
section
variable {prog:Program} {w:World} {A:Around} {E:Value→Shared→Prop} {s:Shared}
theorem JV {σ:Type} {M:Model} {st st1:σ} {Q:PUnit→σ→Prop} (h:Q ⟨⟩ st1):wpS M A E s (set st1:StateT σ Sem PUnit) Q st:=wpS_modify (f:=fun _=>st1) h
theorem vh {x:Array Keyed} {i j:Nat} (h:IntKeys x):∀ p ∈ (x.extract i j).toList,mO p:=fun p hp=>h p (by
 rw [gW] at hp
 exact jG (mC hp))
theorem Bj {x:Array Keyed} {i j:Nat} (hij:i ≤ j) (hj:j ≤ x.size):(x.extract i j).size=j - i:=by rw [Array.size_extract];omega
theorem qY {x:Array Keyed} {i j k:Nat} (hj:j ≤ x.size) (hk:i + k < j):K (x.extract i j) k=K x (i + k):=by
 unfold K
 rw [Array.getElem?_extract,if_pos (by omega)]
theorem P0 {x:Array Keyed} (h:∀ i j,i ≤ j→j < x.size→K x i ≤ K x j):x.toList.Pairwise R:=dB.mpr fun i j hi hj hij=>by
 have:=h i j (eY hij) (by simpa using hj)
 rw [jk (by simpa using hi),jk (by simpa using hj)] at this
 unfold R
 simpa using this
theorem Bk {st:SortSt} {i sa na p sb nb p2:Nat} {Q:Bool→SortSt→Prop} (hk:kindOf st=oneType') (hfl:failedOf st=none) (h0:IntKeys (arrOf st)) (e1:(pendingOf st)[i]? = some (sa,na,p)) (e2:(pendingOf st)[i + 1]? = some (sb,nb,p2)) (hc:sb=sa + na) (hn:sb + nb ≤ (arrOf st).size) (n1:0 < na) (n2:0 < nb)
 (s1:SIn (arrOf st) sa sb) (s2:SIn (arrOf st) sb (sb + nb))
 (h:∀ st',(arrOf st').Perm (arrOf st)→kindOf st'=oneType'→failedOf st'=none→pendingOf st'=((pendingOf st).setIfInBounds i (sa,na + nb,p)).eraseIdxIfInBounds (i + 1)→(∀ j,j < sa∨sb + nb ≤ j→(arrOf st')[j]? = (arrOf st)[j]?)→SIn (arrOf st') sa (sb + nb)→Q true st') :
 wpS (model prog w) A E s (mergeAt' i) Q st:=by
 have iK:∀ p ∈ (arrOf st).toList,mO p:=h0
 have hsb:sb < (arrOf st).size:=by omega
 have hla:sa + na - 1 < (arrOf st).size:=by omega
 refine wpS_bind (m:=get) (wpS_get ?_)
 rw [e1,e2]
 dsimp only
 refine wpS_bind (JV ?_)
 refine wpS_bind (eX (getElem?_pos (arrOf st) sb hsb) ?_)
 have Kb:K (arrOf st) sb=numOf ((arrOf st)[sb]).1:=jk hsb
 refine wpS_bind (lO (arr:=arrOf st) (base:=sa) (n:=na) (hint:=0) hk (lX iK hsb) iK (by omega) n1 (fun a b ab b1 b2=>?_) fun k k1 k2 k3=>?_)
 ·unfold Pb at b2 ⊢
  have:=s1 (sa + a) (sa + b) (by omega) (by omega) (by omega)
  rw [if_neg aU,iH,decide_eq_false_iff_not] at b2 ⊢
  omega
 have lo1:∀ u,u < k→K (arrOf st) (sa + u) ≤ K (arrOf st) sb:=fun u hu=>by
  have:=k2 u hu
  unfold Pb at this
  rw [if_neg aU,iH,decide_eq_false_iff_not] at this
  omega
 have hi1:∀ u,k ≤ u→u < na→K (arrOf st) sb < K (arrOf st) (sa + u):=fun u u1 u2=>by
  have:=k3 u u1 u2
  unfold Pb at this
  rw [if_neg aU,m8,decide_eq_true_iff] at this
  omega
 dsimp only
 by_cases c1:na - k=0
 ·rw [if_pos (by simpa using c1)]
  refine wpS_pure (h _ (Array.Perm.refl _) hk hfl rfl (fun _ _=>rfl) fun u v u1 uv v1=>?_)
  show K (arrOf st) u ≤ K (arrOf st) v
  by_cases v2:v < sb
  ·exact s1 u v u1 uv v2
  ·by_cases u2:u < sb
   ·have a1:=lo1 (u - sa) (by omega)
    have a2:=s2 sb v (aQ _) (by omega) v1
    rw [show sa + (u - sa)=u by omega] at a1
    omega
   ·exact s2 u v (by omega) uv v1
 rw [if_neg (by simpa using c1)]
 have hlx:sa + k + (na - k) - 1 < (arrOf st).size:=by omega
 have exl:sa + k + (na - k) - 1=sb - 1:=by omega
 refine wpS_bind (eX (getElem?_pos (arrOf st) (sa + k + (na - k) - 1) hlx) ?_)
 have Ka:K (arrOf st) (sb - 1)=numOf ((arrOf st)[sa + k + (na - k) - 1]).1:=by rw [← exl];exact jk hlx
 refine wpS_bind (lO (arr:=arrOf st) (base:=sb) (n:=nb) (hint:=nb - 1) hk (lX iK hlx) iK (by omega) (by omega) (fun a b ab b1 b2=>?_) fun l l1 l2 l3=>?_)
 ·unfold Pb at b2 ⊢
  have:=s2 (sb + a) (sb + b) (by omega) (by omega) (by omega)
  rw [if_pos rfl,decide_eq_true_iff] at b2 ⊢
  omega
 have lo2:∀ u,u < l→K (arrOf st) (sb + u) < K (arrOf st) (sb - 1):=fun u hu=>by
  have:=l2 u hu
  unfold Pb at this
  rw [if_pos rfl,decide_eq_true_iff] at this
  omega
 have hi2:∀ u,l ≤ u→u < nb→K (arrOf st) (sb - 1) ≤ K (arrOf st) (sb + u):=fun u u1 u2=>by
  have:=l3 u u1 u2
  unfold Pb at this
  rw [if_pos rfl,decide_eq_false_iff_not] at this
  omega
 dsimp only
 have l0:0 < l:=by
  rcases m9 l with z | z
  ·have a1:=hi2 0 (by omega) n2
   have a2:=hi1 (na - 1) (by omega) (by omega)
   rw [show sa + (na - 1)=sb - 1 by omega] at a2
   rw [mR] at a1
   omega
  ·exact z
 rw [if_neg (by simpa using Nat.ne_of_gt l0)]
 have zx:((arrOf st).extract (sa + k) sb).size=sb - (sa + k):=Bj (by omega) (by omega)
 have zy:((arrOf st).extract sb (sb + l)).size=l:=by rw [Bj (by omega) (by omega)];omega
 have px:((arrOf st).extract (sa + k) sb).toList.Pairwise R:=P0 fun u v uv v1=>by
  rw [zx] at v1
  rw [qY (by omega) (by omega),qY (by omega) (by omega)]
  exact s1 _ _ (by omega) (by omega) (by omega)
 have py:((arrOf st).extract sb (sb + l)).toList.Pairwise R:=P0 fun u v uv v1=>by
  rw [zy] at v1
  rw [qY (by omega) (by omega),qY (by omega) (by omega)]
  exact s2 _ _ (by omega) (by omega) (by omega)
 have f0:K ((arrOf st).extract sb (sb + l)) 0 < K ((arrOf st).extract (sa + k) sb) 0:=by
  rw [qY (by omega) (by omega),qY (by omega) (by omega),mR,mR]
  exact hi1 k (aQ _) (by omega)
 have xl:((arrOf st).extract (sa + k) sb).size - 1 < ((arrOf st).extract (sa + k) sb).size:=by omega
 have fl:∀ y ∈ ((arrOf st).extract sb (sb + l)).toList,R y (((arrOf st).extract (sa + k) sb)[((arrOf st).extract (sa + k) sb).size - 1]'xl):=fun y hy=>by
  obtain ⟨u,u1,rfl⟩:=nC (x:=(arrOf st).extract sb (sb + l)) (i:=0) (by rw [eO];exact hy)
  have a1:=jk u1
  have a2:=jk xl
  unfold R
  rw [← a1,← a2,qY (by omega) (by omega),qY (by omega) (by omega)]
  have:=lo2 (0 + u) (by omega)
  rw [zx,show sa + k + (sb - (sa + k) - 1)=sb - 1 by omega]
  omega
 have fin:∀ (r:Array Keyed) (st':SortSt),Res ((arrOf st).extract (sa + k) sb) ((arrOf st).extract sb (sb + l)) r→kindOf st'=kindOf st→arrOf st'=arrOf st→failedOf st'=failedOf st→pendingOf st'=((pendingOf st).setIfInBounds i (sa,na + nb,p)).eraseIdxIfInBounds (i + 1) →
  Q true (setArr st' (putAll (arrOf st) (sa + k) r.toList)):=fun r st' hr g1 g2 g3 g4=>by
  have rl:r.toList.length=sb + l - (sa + k):=by
   rw [hr.P.length_eq,bB,aJ,aJ,zx,zy]
   omega
  have hz:sa + k + r.toList.length ≤ (arrOf st).size:=by omega
  have cut:((arrOf st).toList.drop (sa + k)).take r.toList.length=((arrOf st).extract (sa + k) sb).toList++((arrOf st).extract sb (sb + l)).toList:=by
   rw [gW,gW,rl,show sb + l - (sa + k)=(sb - (sa + k)) + (sb + l - sb) by omega,List.take_add,m7,show sa + k + (sb - (sa + k))=sb by omega]
  have mid:∀ u,sa + k ≤ u→u < sb + l→∃ v,sa + k ≤ v∧v < sb + l∧K (putAll (arrOf st) (sa + k) r.toList) u=K (arrOf st) v:=fun u u1 u2=>by
   have q:=wz hz u
   rw [if_pos (by omega)] at q
   have hu:u - (sa + k) < r.toList.length:=by omega
   rw [aN hu] at q
   have hm:r.toList[u - (sa + k)] ∈ ((arrOf st).toList.drop (sa + k)).take r.toList.length:=by
    rw [cut]
    exact hr.P.mem_iff.mp (dZ hu)
   obtain ⟨v,v1,v2,ev⟩:=oY hm
   refine ⟨sa + k + v,by omega,by omega,?_⟩
   rw [jk v2,← ev]
   unfold K
   rw [q]
  have out:∀ u,u < sa + k∨sb + l ≤ u→K (putAll (arrOf st) (sa + k) r.toList) u=K (arrOf st) u:=fun u hu=>K_congr (by rw [wz hz,if_neg (by omega)])
  have ms:∀ u v,sa + k ≤ u→u ≤ v→v < sb + l→K (putAll (arrOf st) (sa + k) r.toList) u ≤ K (putAll (arrOf st) (sa + k) r.toList) v:=fun u v u1 uv v1=>by
   have eq:∀ u,sa + k ≤ u→u < sb + l→K (putAll (arrOf st) (sa + k) r.toList) u=K r (u - (sa + k)):=fun u u1 u2=>K_congr (by
    rw [wz hz,if_pos (by omega),cD])
   rw [eq u u1 (by omega),eq v (by omega) v1]
   exact K_R hr.S (by omega) (by rw [← aJ];omega)
  have up:∀ v,sa + k ≤ v→v < sb + l→K (arrOf st) v ≤ K (arrOf st) (sb - 1):=fun v v1 v2=>by
   by_cases z:v < sb
   ·exact s1 v (sb - 1) (by omega) (by omega) (by omega)
   ·have:=lo2 (v - sb) (by omega)
    rw [show sb + (v - sb)=v by omega] at this
    omega
  have dn:∀ v,sa + k ≤ v→v < sb + l→K (arrOf st) sb ≤ K (arrOf st) v:=fun v v1 v2=>by
   by_cases z:v < sb
   ·have:=hi1 (v - sa) (by omega) (by omega)
    rw [show sa + (v - sa)=v by omega] at this
    omega
   ·exact s2 sb v (aQ _) (by omega) (by omega)
  have low:∀ u,sa ≤ u→u < sa + k→K (arrOf st) u ≤ K (arrOf st) sb:=fun u u1 u2=>by
   have:=lo1 (u - sa) (by omega)
   rwa [show sa + (u - sa)=u by omega] at this
  have hig:∀ v,sb + l ≤ v→v < sb + nb→K (arrOf st) (sb - 1) ≤ K (arrOf st) v:=fun v v1 v2=>by
   have:=hi2 (v - sb) (by omega) (by omega)
   rwa [show sb + (v - sb)=v by omega] at this
  refine h _ ?_ (g1.trans hk) (g3.trans hfl) g4 (fun j hj=>?_) fun u v u1 uv v1=>?_
  ·exact JT hz (by rw [cut];exact hr.P)
  ·show (putAll (arrOf st) (sa + k) r.toList)[j]? = _
   rw [wz hz,if_neg (by omega)]
  ·show K (putAll (arrOf st) (sa + k) r.toList) u ≤ K (putAll (arrOf st) (sa + k) r.toList) v
   by_cases u2:u < sa + k
   ·rw [out u (.inl u2)]
    by_cases v2:v < sa + k
    ·rw [out v (.inl v2)];exact s1 u v u1 uv (by omega)
    ·by_cases v3:v < sb + l
     ·obtain ⟨t,t1,t2,t3⟩:=mid v (by omega) v3
      rw [t3]
      exact gY (low u u1 u2) (dn t t1 t2)
     ·rw [out v (.inr (by omega))]
      exact gY (low u u1 u2) (s2 sb v (aQ _) (by omega) v1)
   ·by_cases u3:u < sb + l
    ·by_cases v3:v < sb + l
     ·exact ms u v (by omega) uv v3
     ·rw [out v (.inr (by omega))]
      obtain ⟨t,t1,t2,t3⟩:=mid u (by omega) u3
      rw [t3]
      exact gY (up t t1 t2) (hig v (by omega) v1)
    ·rw [out u (.inr (by omega)),out v (.inr (by omega))]
     exact s2 u v (by omega) uv v1
 have zx0:0 < ((arrOf st).extract (sa + k) sb).size:=by rw [zx];omega
 have zy0:0 < ((arrOf st).extract sb (sb + l)).size:=by rw [zy];exact l0
 have nn:(failedOf st).isNone=true:=by rw [hfl];rfl
 split
 ·refine wpS_bind (Bg hk (vh h0) (vh h0) zx0 zy0 px py f0 fl fun r st' hr E=>?_)
  refine wpS_bind (wpS_modify (wpS_bind (wpS_get (wpS_pure ?_))))
  have:=fin r st' hr E.k E.a E.f E.p
  rw [← E.a] at this
  have e:(failedOf st').isNone=true:=by rw [E.f];exact nn
  show Q (failedOf st').isNone _
  rw [e]
  exact this
 ·refine wpS_bind (Bh hk (vh h0) (vh h0) zx0 zy0 px py f0 fl fun r st' hr E=>?_)
  refine wpS_bind (wpS_modify (wpS_bind (wpS_get (wpS_pure ?_))))
  have:=fin r st' hr E.k E.a E.f E.p
  rw [← E.a] at this
  have e:(failedOf st').isNone=true:=by rw [E.f];exact nn
  show Q (failedOf st').isNone _
  rw [e]
  exact this
end
end Srt
namespace Srt
open PySem PyProof.Rows
noncomputable def NIn (xs:Array Keyed) (lo hi:Nat):Prop:=∀ i j,lo ≤ i→i ≤ j→j < hi→K xs j ≤ K xs i
section
variable {prog:Program} {w:World} {A:Around} {E:Value→Shared→Prop} {s:Shared}
theorem rH {st:SortSt} {i j lo hi:Nat} (h1:lo ≤ i) (h2:j ≤ hi) (h3:j ≤ (arrOf st).size):Ch st (setArr st (mirror (arrOf st) i j ((j - i) / 2))) lo hi :=
 Ch.set (mirror_perm _ _ _ _) fun u hu=>by rw [getElem?_mirror_all h3,if_neg (by omega)]
theorem SIn.one {xs:Array Keyed} {lo hi:Nat} (h:hi ≤ lo + 1):SIn xs lo hi:=fun i j h1 h2 h3=>by
 have:i=j:=by omega
 subst this
 exact cX _
theorem SIn.more {xs:Array Keyed} {lo n:Nat} (h:SIn xs lo (lo + n)) (hn:1 ≤ n) (q:¬ K xs (lo + n) < K xs (lo + n - 1)):SIn xs lo (lo + (n + 1)):=fun i j h1 h2 h3=>by
 by_cases z:j < lo + n
 ·exact h i j h1 h2 z
 ·have ej:j=lo + n:=by omega
  subst ej
  by_cases y:i=lo + n
  ·rw [y];exact cX _
  ·have:=h i (lo + n - 1) h1 (by omega) (by omega)
   omega
theorem NIn.more {xs:Array Keyed} {lo n:Nat} (h:NIn xs lo (lo + n)) (hn:1 ≤ n) (q:K xs (lo + n) ≤ K xs (lo + n - 1)):NIn xs lo (lo + (n + 1)):=fun i j h1 h2 h3=>by
 by_cases z:j < lo + n
 ·exact h i j h1 h2 z
 ·have ej:j=lo + n:=by omega
  subst ej
  by_cases y:i=lo + n
  ·rw [y];exact cX _
  ·have:=h i (lo + n - 1) h1 (by omega) (by omega)
   omega
theorem G7 {st:SortSt} {lo nrem:Nat} {Q:Option Nat→SortSt→Prop} (hk:kindOf st=oneType') (h0:IntKeys (arrOf st)) (h1:1 ≤ nrem) (hn:lo + nrem ≤ (arrOf st).size)
 (h:∀ m st',Ch st st' lo (lo + nrem)→1 ≤ m→m ≤ nrem→SIn (arrOf st') lo (lo + m)→Q (some m) st'):wpS (model prog w) A E s (countRun' lo nrem) Q st:=by
 refine wpS_bind (wpS_mono (wpS_forRange (a:=1) (b:=nrem) (I:=fun x c st'=>st'=st∧c=(none,x)∧SIn (arrOf st) lo (lo + x))
  (Q:=fun c st'=>st'=st∧∃ n,c=(none,n)∧1 ≤ n∧n ≤ nrem∧SIn (arrOf st) lo (lo + n)∧(n=nrem∨K (arrOf st) (lo + n) < K (arrOf st) (lo + n - 1))) ?s1 ?f1 ⟨rfl,rfl,SIn.one (by omega)⟩) ?p1)
 case f1 =>
  rintro c st' ⟨rfl,rfl,so⟩
  rw [show max 1 nrem=nrem by omega] at so ⊢
  exact ⟨rfl,nrem,rfl,h1,aQ _,so,.inl rfl⟩
 case s1 =>
  rintro x c st' x1 x2 ⟨rfl,rfl,so⟩
  dsimp only
  refine wpS_bind (rG hk h0 (by omega) (by omega) ?_)
  dsimp only
  by_cases lt:K (arrOf st') (lo + x) < K (arrOf st') (lo + x - 1)
  ·rw [dTr lt,if_pos rfl]
   exact wpS_pure ⟨rfl,x,rfl,x1,by omega,so,.inr lt⟩
  ·rw [dFa lt,if_neg aU]
   exact wpS_pure ⟨rfl,rfl,so.more x1 lt⟩
 case p1 =>
  rintro c st' ⟨rfl,n,rfl,n1,n2,so,oder⟩
  dsimp only
  by_cases c1:n=nrem
  ·rw [if_pos (by simpa using c1)]
   exact wpS_pure (h n st' (Ch.refl _ _ _) n1 n2 so)
  rw [if_neg (by simpa using c1)]
  have lt:=oder.resolve_left c1
  by_cases c2:n > 1
  case' pos =>
   rw [if_pos c2]
   refine wpS_bind (rG hk h0 (by omega) (by omega) ?_)
   dsimp only
   by_cases ro:K (arrOf st') lo < K (arrOf st') (lo + n - 1)
   case pos =>
    rw [dTr ro,if_pos rfl]
    exact wpS_pure (h n st' (Ch.refl _ _ _) n1 n2 so)
   rw [dFa ro,if_neg aU]
   refine wpS_bind (wpS_reverse ?_)
   have al:∀ u,lo ≤ u→u < lo + n→K (arrOf st') u=K (arrOf st') (lo + n - 1):=fun u u1 u2=>by
    have a1:=so lo u (aQ _) u1 u2
    have a2:=so u (lo + n - 1) u1 (by omega) (by omega)
    omega
   have ch:Ch st' (setArr st' (mirror (arrOf st') lo (lo + n) ((lo + n - lo) / 2))) lo (lo + nrem):=rH (aQ _) (by omega) (by omega)
   have km:=K_mirror_equal (xs:=arrOf st') (i:=lo) (j:=lo + n) (by omega) al
   have ni:NIn (arrOf (setArr st' (mirror (arrOf st') lo (lo + n) ((lo + n - lo) / 2)))) lo (lo + (n + 1)):=fun i j i1 ij j1=>by
    show K (mirror (arrOf st') lo (lo + n) ((lo + n - lo) / 2)) j ≤ K (mirror (arrOf st') lo (lo + n) ((lo + n - lo) / 2)) i
    rw [km,km]
    by_cases z:j < lo + n
    ·rw [al i i1 (by omega),al j (by omega) z];exact cX _
    ·have ej:j=lo + n:=by omega
     subst ej
     by_cases y:i=lo + n
     ·rw [y];exact cX _
     ·rw [al i i1 (by omega)];omega
   generalize setArr st' (mirror (arrOf st') lo (lo + n) ((lo + n - lo) / 2))=st2 at ch ni ⊢
  case' neg =>
   rw [if_neg c2]
   have en:n=1:=by omega
   have ni0:NIn (arrOf st') lo (lo + (n + 1)):=fun i j i1 ij j1=>by
    by_cases y:i=j
    ·rw [y];exact cX _
    ·have ei:i=lo:=by omega
     have ej:j=lo + n:=by omega
     rw [ei,ej]
     rw [show lo + n - 1=lo by omega] at lt
     omega
   obtain ⟨st2,es⟩:∃ st2,st2=st':=⟨_,rfl⟩
   have ch:Ch st' st2 lo (lo + nrem):=by rw [es];exact Ch.refl _ _ _
   have ni:NIn (arrOf st2) lo (lo + (n + 1)):=by rw [es];exact ni0
   rw [← es]
  all_goals
   refine wpS_bind (wpS_lift (wpAny_rule ⟨rfl,?_⟩))
   refine wpS_bind (wpS_mono (wpS_forRange (I:=fun x c st3=>∃ q,c=(none,x,q)∧Ch st' st3 lo (lo + nrem)∧NIn (arrOf st3) lo (lo + x)∧q + 1 ≤ x∧∀ u,lo + x - (q + 1) ≤ u→u < lo + x→K (arrOf st3) u=K (arrOf st3) (lo + x - 1))
    (Q:=fun c st3=>∃ m q,c=(none,m,q)∧n + 1 ≤ m∧m ≤ nrem∧Ch st' st3 lo (lo + nrem)∧NIn (arrOf st3) lo (lo + m)∧q + 1 ≤ m∧∀ u,lo + m - (q + 1) ≤ u→u < lo + m→K (arrOf st3) u=K (arrOf st3) (lo + m - 1)) ?s2 ?f2 ⟨0,rfl,ch,ni,by omega,fun u u1 u2=>by congr 1;omega⟩) ?p2)
   case f2 =>
    rintro c st3 ⟨q,rfl,ch3,ni3,q1,al3⟩
    rw [show max (n + 1) nrem=nrem by omega] at ni3 q1 al3 ⊢
    exact ⟨nrem,q,rfl,by omega,aQ _,ch3,ni3,q1,al3⟩
   case s2 =>
    rintro x c st3 x1 x2 ⟨q,rfl,ch3,ni3,q1,al3⟩
    dsimp only
    have sz:=ch3.size
    have k3:=ch3.kind.trans hk
    have i3:=ch3.ints h0
    refine wpS_bind (rG k3 i3 (by omega) (by omega) ?_)
    dsimp only
    by_cases lt3:K (arrOf st3) (lo + x) < K (arrOf st3) (lo + x - 1)
    ·rw [dTr lt3,if_pos rfl]
     by_cases qp:q > 0
     ·rw [if_pos qp]
      have km:=K_mirror_equal (xs:=arrOf st3) (i:=lo + x - (q + 1)) (j:=lo + x) (by omega) al3
      refine wpS_bind (wpS_reverse (wpS_pure ⟨0,rfl,ch3.trans (rH (by omega) (by omega) (by omega)),?_,by omega,fun u u1 u2=>by congr 1;omega⟩))
      have no:=ni3.more (by omega) (mU lt3)
      intro i j i1 ij j1
      show K (mirror (arrOf st3) (lo + x - (q + 1)) (lo + x) _) j ≤ K (mirror (arrOf st3) (lo + x - (q + 1)) (lo + x) _) i
      rw [km,km]
      exact no i j i1 ij j1
     ·rw [if_neg qp]
      exact wpS_pure ⟨0,rfl,ch3,ni3.more (by omega) (mU lt3),by omega,fun u u1 u2=>by congr 1;omega⟩
    ·rw [dFa lt3,if_neg aU]
     refine wpS_bind (rG k3 i3 (by omega) (by omega) ?_)
     dsimp only
     by_cases gt3:K (arrOf st3) (lo + x - 1) < K (arrOf st3) (lo + x)
     ·rw [dTr gt3,if_pos rfl]
      exact wpS_pure ⟨x,q,rfl,x1,by omega,ch3,ni3,q1,al3⟩
     ·rw [dFa gt3,if_neg aU]
      refine wpS_pure ⟨q + 1,rfl,ch3,ni3.more (by omega) (by omega),by omega,fun u u1 u2=>?_⟩
      rw [show lo + (x + 1) - 1=lo + x by omega]
      by_cases z:u=lo + x
      ·rw [z]
      ·rw [al3 u (by omega) (by omega)];omega
   case p2 =>
    rintro c st3 ⟨m,q,rfl,m1,m2,ch3,ni3,q1,al3⟩
    dsimp only
    have sz:=ch3.size
    by_cases qp:q > 0
    case' pos =>
     rw [if_pos qp]
     refine wpS_bind (wpS_reverse ?_)
     have km:=K_mirror_equal (xs:=arrOf st3) (i:=lo + m - (q + 1)) (j:=lo + m) (by omega) al3
     have ch4:Ch st' (setArr st3 (mirror (arrOf st3) (lo + m - (q + 1)) (lo + m) ((lo + m - (lo + m - (q + 1))) / 2))) lo (lo + nrem):=ch3.trans (rH (by omega) (by omega) (by omega))
     have ni4:NIn (arrOf (setArr st3 (mirror (arrOf st3) (lo + m - (q + 1)) (lo + m) ((lo + m - (lo + m - (q + 1))) / 2)))) lo (lo + m):=fun i j i1 ij j1=>by
      show K (mirror (arrOf st3) (lo + m - (q + 1)) (lo + m) _) j ≤ K (mirror (arrOf st3) (lo + m - (q + 1)) (lo + m) _) i
      rw [km,km]
      exact ni3 i j i1 ij j1
     generalize setArr st3 (mirror (arrOf st3) (lo + m - (q + 1)) (lo + m) ((lo + m - (lo + m - (q + 1))) / 2))=st4 at ch4 ni4 ⊢
    case' neg =>
     rw [if_neg qp]
     obtain ⟨st4,es4⟩:∃ st4,st4=st3:=⟨_,rfl⟩
     have ch4:Ch st' st4 lo (lo + nrem):=by rw [es4];exact ch3
     have ni4:NIn (arrOf st4) lo (lo + m):=by rw [es4];exact ni3
     rw [← es4]
    all_goals
     have sz4:=ch4.size
     refine wpS_bind (wpS_reverse ?_)
     have ch5:Ch st' (setArr st4 (mirror (arrOf st4) lo (lo + m) ((lo + m - lo) / 2))) lo (lo + nrem):=ch4.trans (rH (aQ _) (by omega) (by omega))
     have si5:SIn (arrOf (setArr st4 (mirror (arrOf st4) lo (lo + m) ((lo + m - lo) / 2)))) lo (lo + m):=fun i j i1 ij j1=>by
      show K (mirror (arrOf st4) lo (lo + m) ((lo + m - lo) / 2)) i ≤ K (mirror (arrOf st4) lo (lo + m) ((lo + m - lo) / 2)) j
      rw [K_mirror (by omega),K_mirror (by omega),if_pos (by omega),if_pos (by omega)]
      exact ni4 _ _ (by omega) (by omega) (by omega)
     generalize setArr st4 (mirror (arrOf st4) lo (lo + m) ((lo + m - lo) / 2))=st5 at ch5 si5 ⊢
     have sz5:=ch5.size
     refine wpS_bind (wpS_mono (wpS_forRange (I:=fun x c st6=>st6=st5∧c=(none,x)∧SIn (arrOf st5) lo (lo + x)) (Q:=fun c st6=>st6=st5∧∃ z,c=(none,z)∧m ≤ z∧z ≤ nrem∧SIn (arrOf st5) lo (lo + z)) ?s3 ?f3 ⟨rfl,rfl,si5⟩) ?p3)
     case f3 =>
      rintro c st6 ⟨rfl,rfl,so⟩
      rw [show max m nrem=nrem by omega] at so ⊢
      exact ⟨rfl,nrem,rfl,m2,aQ _,so⟩
     case s3 =>
      rintro x c st6 x1 x2 ⟨rfl,rfl,so⟩
      dsimp only
      refine wpS_bind (rG (ch5.kind.trans hk) (ch5.ints h0) (by omega) (by omega) ?_)
      dsimp only
      by_cases lt6:K (arrOf st6) (lo + x) < K (arrOf st6) (lo + x - 1)
      ·rw [dTr lt6,if_pos rfl]
       exact wpS_pure ⟨rfl,x,rfl,x1,by omega,so⟩
      ·rw [dFa lt6,if_neg aU]
       exact wpS_pure ⟨rfl,rfl,so.more (by omega) lt6⟩
     case p3 =>
      rintro c st6 ⟨rfl,z,rfl,z1,z2,so⟩
      exact wpS_pure (h z st6 ch5 (by omega) z2 so)
end
end Srt
namespace Srt
open PySem PyProof.Rows
noncomputable def Runs (xs:Array Keyed):List (Nat × Nat × Nat)→Nat→Nat→Prop
 | [],a,b=>a=b
 | (st,len,_) :: r,a,b=>st=a∧0 < len∧SIn xs a (a + len)∧Runs xs r (a + len) b
theorem Runs.le {xs:Array Keyed}:∀ {ps:List (Nat × Nat × Nat)} {a b:Nat},Runs xs ps a b→a + ps.length ≤ b
 | [],a,b,h=>by have:a=b:=h;simp only [jt];omega
 | (st,len,_) :: r,a,b,h=>by
  have:=h.2.2.2.le
  have:=h.2.1
  rw [bK]
  omega
theorem SIn.same {xs ys:Array Keyed} {lo hi:Nat} (h:SIn xs lo hi) (e:∀ j,lo ≤ j→j < hi→K ys j=K xs j):SIn ys lo hi:=fun i j h1 h2 h3=>by
 rw [e i h1 (by omega),e j (by omega) h3]
 exact h i j h1 h2 h3
theorem Runs.same {xs ys:Array Keyed}:∀ {ps:List (Nat × Nat × Nat)} {a b:Nat},Runs xs ps a b→(∀ j,a ≤ j→j < b→K ys j=K xs j)→Runs ys ps a b
 | [],a,b,h,_=>h
 | (st,len,p) :: r,a,b,h,e=>by
  have l:=h.2.2.2.le
  exact ⟨h.1,h.2.1,h.2.2.1.same fun j j1 j2=>e j j1 (by omega),Runs.same h.2.2.2 fun j j1 j2=>e j (by omega) j2⟩
theorem Runs.app {xs:Array Keyed}:∀ {ps:List (Nat × Nat × Nat)} {a b c p:Nat},Runs xs ps a b→0 < c→SIn xs b (b + c)→Runs xs (ps++[(b,c,p)]) a (b + c)
 | [],a,b,c,p,h,h1,h2=>by
  have:a=b:=h
  subst this
  exact ⟨rfl,h1,h2,rfl⟩
 | (st,len,q) :: r,a,b,c,p,h,h1,h2=>⟨h.1,h.2.1,h.2.2.1,Runs.app h.2.2.2 h1 h2⟩
theorem Runs.pw {xs:Array Keyed} (f:Nat × Nat × Nat→Nat):∀ {ps:List (Nat × Nat × Nat)} {a b i:Nat},Runs xs ps a b→Runs xs (ps.modify i fun q=>(q.1,q.2.1,f q)) a b
 | [],a,b,i,h=>by cases i <;> exact h
 | (st,len,q) :: r,a,b,0,h=>h
 | (st,len,q) :: r,a,b,i + 1,h=>⟨h.1,h.2.1,h.2.2.1,Runs.pw f (i:=i) h.2.2.2⟩
theorem Runs.merge {xs:Array Keyed}:∀ {ps:List (Nat × Nat × Nat)} {a b i sa na p sb nb q:Nat},Runs xs ps a b→ps[i]? = some (sa,na,p)→ps[i + 1]? = some (sb,nb,q) →
 (a ≤ sa∧sb=sa + na∧0 < na∧0 < nb∧SIn xs sa sb∧SIn xs sb (sb + nb)∧sb + nb ≤ b) ∧
 ∀ ys,(∀ j,j < sa∨sb + nb ≤ j→K ys j=K xs j)→SIn ys sa (sb + nb)→Runs ys ((ps.set i (sa,na + nb,p)).eraseIdx (i + 1)) a b
 | [],a,b,i,sa,na,p,sb,nb,q,h,e1,e2=>by cases e1
 | (st,len,r0) :: r,a,b,0,sa,na,p,sb,nb,q,h,e1,e2=>by
  cases e1
  cases r with
  | nil=>cases e2
  | cons x r =>
   cases e2
   obtain ⟨h1,h2,h3,h4,h5,h6,h7⟩:=h
   subst h1 h4
   have l:=h7.le
   refine ⟨⟨aQ _,rfl,h2,h5,h3,h6,by omega⟩,fun ys e s=>⟨rfl,by omega,by rwa [← rR],?_⟩⟩
   have:=h7.same (ys:=ys) fun j j1 j2=>e j (.inr (by omega))
   rwa [← rR]
 | (st,len,r0) :: r,a,b,i + 1,sa,na,p,sb,nb,q,h,e1,e2=>by
  obtain ⟨h1,h2,h3,h4⟩:=h
  subst h1
  obtain ⟨⟨g1,g2,g3,g4,g5,g6,g7⟩,g8⟩:=Runs.merge (i:=i) h4 (by simpa using e1) (by simpa using e2)
  refine ⟨⟨by omega,g2,g3,g4,g5,g6,g7⟩,fun ys e s=>⟨rfl,h2,h3.same fun j j1 j2=>e j (.inl (by omega)),?_⟩⟩
  exact g8 ys e s
section
variable {prog:Program} {w:World} {A:Around} {E:Value→Shared→Prop} {s:Shared}
structure W (st0 st:SortSt) (lo:Nat):Prop where
 perm:(arrOf st).Perm (arrOf st0)
 kind:kindOf st=oneType'
 failed:failedOf st=none
 runs:Runs (arrOf st) (pendingOf st).toList 0 lo
theorem W.ints {st0 st:SortSt} {lo:Nat} (h:W st0 st lo) (h0:IntKeys (arrOf st0)):IntKeys (arrOf st):=fun p hp=>h0 p ((jJ.mp h.perm).mem_iff.mp hp)
theorem Bm {st0 st:SortSt} {lo i:Nat} {Q:Bool→SortSt→Prop} (h0:IntKeys (arrOf st0)) (hW:W st0 st lo) (hlo:lo ≤ (arrOf st0).size) (hi:i + 1 < (pendingOf st).size)
 (h:∀ st',W st0 st' lo→(pendingOf st').size + 1=(pendingOf st).size→(∀ j,lo ≤ j→(arrOf st')[j]? = (arrOf st)[j]?)→Q true st'):wpS (model prog w) A E s (mergeAt' i) Q st:=by
 obtain ⟨sa,na,p,e1⟩:∃ sa na p,(pendingOf st)[i]? = some (sa,na,p):=⟨_,_,_,getElem?_pos (pendingOf st) i (by omega)⟩
 obtain ⟨sb,nb,q,e2⟩:∃ sb nb q,(pendingOf st)[i + 1]? = some (sb,nb,q):=⟨_,_,_,getElem?_pos (pendingOf st) (i + 1) hi⟩
 obtain ⟨⟨g1,g2,g3,g4,g5,g6,g7⟩,g8⟩:=hW.runs.merge (i:=i) (by rw [cD];exact e1) (by rw [cD];exact e2)
 have sz:=hW.perm.size_eq
 refine Bk hW.kind hW.failed (hW.ints h0) e1 e2 g2 (by omega) g3 g4 g5 g6 fun st' a1 a2 a3 a4 a5 a6=>h st' ⟨a1.trans hW.perm,a2,a3,?_⟩ ?_ fun j hj=>a5 j (.inr (by omega))
 ·have:=g8 (arrOf st') (fun j hj=>K_congr (a5 j hj)) a6
  rw [a4]
  simpa using this
 ·rw [a4,← aJ,← aJ]
  rw [show (((pendingOf st).setIfInBounds i (sa,na + nb,p)).eraseIdxIfInBounds (i + 1)).toList=((pendingOf st).toList.set i (sa,na + nb,p)).eraseIdx (i + 1) by simp,List.length_eraseIdx_of_lt (by simpa using hi),cT,aJ]
  omega
theorem W.push {st0 st:SortSt} {lo n:Nat} (h:W st0 st lo) (hn:0 < n) (so:SIn (arrOf st) lo (lo + n)):W st0 (setPending st ((pendingOf st).push (lo,n,0))) (lo + n) :=
 ⟨h.perm,h.kind,h.failed,by
  show Runs (arrOf st) ((pendingOf st).push (lo,n,0)).toList 0 (lo + n)
  rw [kJ]
  exact h.runs.app hn so⟩
theorem W.pow {st0 st:SortSt} {lo i:Nat} {f:Nat × Nat × Nat→Nat} (h:W st0 st lo):W st0 (setPending st ((pendingOf st).modify i fun q=>(q.1,q.2.1,f q))) lo :=
 ⟨h.perm,h.kind,h.failed,by
  show Runs (arrOf st) ((pendingOf st).modify i fun q=>(q.1,q.2.1,f q)).toList 0 lo
  rw [Array.toList_modify]
  exact h.runs.pw f⟩
theorem W.of {st0 st1 st2:SortSt} {lo hi:Nat} (h:W st0 st1 lo) (ch:Ch st1 st2 lo hi):W st0 st2 lo :=
 ⟨ch.perm.trans h.perm,ch.kind.trans h.kind,ch.failed.trans h.failed,by
  rw [ch.pend]
  exact h.runs.same fun j _ j2=>K_congr (ch.out j (.inl j2))⟩
theorem JW {st:SortSt} {Q:Unit→SortSt→Prop} (hk:kindOf st=oneType') (hf:failedOf st=none) (hp:pendingOf st = #[]) (h0:IntKeys (arrOf st)) (h2:2 ≤ (arrOf st).size)
 (h:∀ st',(arrOf st').Perm (arrOf st)→failedOf st'=none→SortedTo (arrOf st') (arrOf st).size→Q () st'):wpS (model prog w) A E s sortRuns' Q st:=by
 have W0:W st st 0:=⟨Array.Perm.refl _,hk,hf,by rw [hp];rfl⟩
 rw [sortRuns'_eq]
 refine wpS_bind (wpS_get ?_)
 dsimp only
 refine wpS_bind (wpS_mono (wpS_forRange (I:=fun x c st'=>∃ lo,c=(none,lo)∧lo ≤ (arrOf st).size∧min x (arrOf st).size ≤ lo∧W st st' lo)
  (Q:=fun c st'=>c=(none,(arrOf st).size)∧W st st' (arrOf st).size) ?s1 ?f1 ⟨0,rfl,fu _,by omega,W0⟩) ?p1)
 case f1 =>
  rintro c st' ⟨lo,rfl,l1,l2,Ww⟩
  have:lo=(arrOf st).size:=by omega
  subst this
  exact ⟨rfl,Ww⟩
 case s1 =>
  rintro x c st1 _ hx ⟨lo,rfl,l1,l2,W1⟩
  dsimp only
  have sz:=W1.perm.size_eq
  by_cases c1:lo ≥ (arrOf st).size
  ·rw [if_pos c1]
   have:lo=(arrOf st).size:=by omega
   subst this
   exact wpS_pure ⟨rfl,W1⟩
  rw [if_neg c1]
  refine wpS_bind (G7 W1.kind (W1.ints h0) (by omega) (by omega) fun m st2 ch m1 m2 so=>?_)
  dsimp only
  by_cases c2:m < minRun' (arrOf st).size (arrOf st).size 0
  case' pos =>
   rw [if_pos c2]
   refine wpS_bind (wpS_lift (wpAny_rule ⟨rfl,?_⟩))
   have sz2:=ch.size
   have W2:=W1.of ch
   refine wpS_bind (Nm W2.kind (W2.ints h0) (by omega) (by omega) so fun st3 ch3 so3=>?_)
   have en:∃ n,n=min ((arrOf st).size - lo) (minRun' (arrOf st).size (arrOf st).size 0):=⟨_,rfl⟩
   obtain ⟨n,en⟩:=en
   rw [← en] at so3 ch3 ⊢
   have n1:1 ≤ n:=by omega
   have n2:lo + n ≤ (arrOf st).size:=by omega
   have W3:=W2.of ch3
   rw [if_neg (by decide)]
   clear en so ch W2
  case' neg =>
   rw [if_neg c2]
   have W3:=W1.of ch
   have so3:=so
   have n1:=m1
   have n2:lo + m ≤ (arrOf st).size:=by omega
   clear so ch
  all_goals
   refine wpS_bind (wpS_get ?_)
   split
   ·next s1 n1' p1 eb =>
    refine wpS_bind (wpS_mono (wpS_forRange (I:=fun y c st4=>c=(none,())∧W st st4 lo∧SIn (arrOf st4) lo _) (Q:=fun c st4=>c=(none,())∧W st st4 lo∧SIn (arrOf st4) lo _) ?s2 (fun _ _ q=>q) ⟨rfl,W3,so3⟩) ?p2)
    case s2 =>
     rintro y c st4 _ hy ⟨rfl,W4,so4⟩
     refine wpS_bind (wpS_get ?_)
     by_cases c4:(pendingOf st4).size > 1
     ·rw [if_pos c4]
      obtain ⟨u,v,o,eo⟩:∃ u v o,(pendingOf st4)[(pendingOf st4).size - 2]? = some (u,v,o):=⟨_,_,_,getElem?_pos (pendingOf st4) _ (by omega)⟩
      rw [eo]
      dsimp only
      split
      ·exact wpS_pure ⟨rfl,W4,so4⟩
      ·refine wpS_bind (Bm h0 W4 l1 (by omega) fun st5 W5 _ q5=>?_)
       rw [if_neg (by decide)]
       exact wpS_pure ⟨rfl,W5,so4.same fun j j1 _=>K_congr (q5 j j1)⟩
     ·rw [if_neg c4]
      exact wpS_pure ⟨rfl,W4,so4⟩
    case p2 =>
     rintro c st4 ⟨rfl,W4,so4⟩
     dsimp only
     refine wpS_bind (wpS_modify (wpS_bind (wpS_modify (wpS_pure ⟨_,rfl,n2,by omega,?_⟩))))
     exact (W4.pow).push n1 so4
   ·exact wpS_bind (wpS_modify (wpS_pure ⟨_,rfl,n2,by omega,W3.push n1 so3⟩))
 case p1 =>
  rintro c st1 ⟨rfl,W1⟩
  dsimp only
  have sz:=W1.perm.size_eq
  have lp:=W1.runs.le
  rw [aJ] at lp
  refine wpS_bind (wpS_mono (wpS_forRange (I:=fun y c st2=>c=(none,())∧W st st2 (arrOf st).size∧((pendingOf st2).size ≤ 1∨(pendingOf st2).size + y ≤ (arrOf st).size)) (Q:=fun c st2=>c=(none,())∧W st st2 (arrOf st).size∧(pendingOf st2).size ≤ 1) ?s3 ?f3 ⟨rfl,W1,.inr (by omega)⟩) ?p3)
  case f3 =>
   rintro c st2 ⟨rfl,W2,q⟩
   exact ⟨rfl,W2,by omega⟩
  case s3 =>
   rintro y c st2 _ hy ⟨rfl,W2,q⟩
   refine wpS_bind (wpS_get ?_)
   by_cases c3:(pendingOf st2).size ≤ 1
   ·rw [if_pos c3]
    exact wpS_pure ⟨rfl,W2,c3⟩
   rw [if_neg c3]
   split
   all_goals
    refine wpS_bind (Bm h0 W2 (aQ _) (by split <;> omega) fun st3 W3 q3 _=>?_)
    rw [if_neg (by decide)]
    exact wpS_pure ⟨rfl,W3,.inr (by omega)⟩
  case p3 =>
   rintro c st2 ⟨rfl,W2,q⟩
   refine wpS_pure (h st2 W2.perm W2.failed ?_)
   have rn:=W2.runs
   have ql:(pendingOf st2).toList.length ≤ 1:=by rw [aJ];exact q
   match hps:(pendingOf st2).toList,rn,ql with
   | [],rn,_ =>
    have:0=(arrOf st).size:=rn
    omega
   | [(a,b,d)],rn,_ =>
    obtain ⟨_,_,r3,r4⟩:=rn
    have r4:0 + b=(arrOf st).size:=r4
    rw [r4] at r3
    exact fun i j ij j1=>r3 i j (fu _) ij j1
end
end Srt
namespace Srt
open PySem PySem.Spec PyProof.Rows
section
variable {prog:Program} {w:World} {A:Around} {E:Value→Shared→Prop} {s:Shared}
theorem G8 {a:Addr} {us:List Value} {ns:List Int} {n:Nat} {P:PySem.Fin→Shared→Prop} (ho:s.heap.get? a=some (seqObj "list" us.toArray n)) (hI:IntsAre us ns) (hz:us.length ≤ 1000000)
 (h:∀ (o:Array Value) (ms:List Int),IntsAre o.toList ms→ms.Perm ns→ms.Pairwise (· ≤ ·)→P (.done (.ret .none)) { s with heap:=sortedHeap s.heap a us o }):wpAny (model prog w) A (Builtin.«list.sort» ⟨[.ref a],[]⟩) P E s:=by
 by_cases c:us.length < 64
 ·exact list_sort_tree ho hI c h
 have la:a < s.heap.objs.size:=Heap.lt_size ho
 have ls:us.length ≤ sizeLine:=by rw [sizeLine_eq];omega
 rw [list_sort_plain]
 refine wpAny_bind (listItems_at ho rfl (wpAny_bind (listUpdate_at ho rfl ?_)))
 obtain ⟨e,h1⟩:∃ e,(s.heap.update a (Obj.mapSeq fun _=>#[])).get? a=some (seqObj "list" #[] e):=⟨_,get?_update_seq ho fun _=>#[]⟩
 refine wpAny_bind (seqEpoch_at h1 rfl (wpAny_bind (wpAny_newTuple (wpAny_bind (wpAny_newList (wpAny_holding ?_))))))
 have h3:(((s.heap.update a (Obj.mapSeq fun _=>#[])).push (seqObj "tuple" us.toArray 0)).push (seqObj "list" #[] 0)).get? a=some (seqObj "list" #[] e):=by
  rw [Heap.get?_push_ne _ _ _ (by rw [size_push',Heap.size_update];exact bN (nO la)),Heap.get?_push_ne _ _ _ (by rw [Heap.size_update];exact bN la),h1]
 show wpAny (model prog w) A _ P E { s with heap:=((s.heap.update a (Obj.mapSeq fun _=>#[])).push (seqObj "tuple" us.toArray 0)).push (seqObj "list" #[] 0) }
 dsimp only
 have c2:¬ us.toArray.size < 2:=by rw [bx];omega
 rw [if_neg c2,if_neg c2]
 obtain ⟨x,y,r,rfl⟩:∃ x y r,us=x :: y :: r:=match us,c with
  | [],c=>absurd (show 0 < 64 by decide) c
  | [_],c=>absurd (show 1 < 64 by decide) c
  | x :: y :: r,_=>⟨x,y,r,rfl⟩
 rw [keyKind_ints hI]
 refine wpAny_bind (wpAny_pure (wpAny_bind (wpAny_mono (JW (st:=SortSt.mk' oneType' (pairsOf (x :: y :: r)) #[] 7 none)
  (Q:=fun _ st'=>(arrOf st').Perm (pairsOf (x :: y :: r))∧failedOf st'=none∧SortedTo (arrOf st') (pairsOf (x :: y :: r)).size) rfl rfl rfl hI.intKeys (by show 2 ≤ (pairsOf (x :: y :: r)).size;rw [pairsOf_size];simp) fun st' a1 a2 a3=>⟨a1,a2,a3⟩) ?_ fun _ _ q=>q)))
 rintro ⟨⟨⟩,st'⟩ s' ⟨rfl,q1,q2,q3⟩
 dsimp only
 have sz:((arrOf st').map (·.2)).size ≤ sizeLine:=by rw [pY,q1.size_eq,pairsOf_size];exact ls
 refine wpAny_bind (seqEpoch_at h3 rfl (wpAny_bind (listUpdate_at h3 rfl ?_ (hsz2:=Nat.le_succ_of_le sz))))
 rw [q2]
 simp only [bne_self_eq_false,sy,if_false]
 obtain ⟨ms,m1,m2,m3⟩:=sorted_out hI q1 q3
 exact wpAny_pure (h _ ms m1 m2 m3)
end
end Srt
namespace Stt
open PySem SetTable
noncomputable def Ris (xs:Array Nat):Prop:=∀ i j (hi:i < xs.size) (hj:j < xs.size),i < j→xs[i] < xs[j]
theorem JX {xs:Array Nat} (r:Ris xs) (j:Nat):∀ fuel lo hi,lo ≤ hi→hi ≤ xs.size→hi - lo ≤ fuel→(∀ i (h:i < xs.size),i < lo→xs[i] < j)→(∀ i (h:i < xs.size),hi ≤ i→j ≤ xs[i]) →
 below.go xs j fuel lo hi ≤ xs.size∧(∀ i (h:i < xs.size),i < below.go xs j fuel lo hi→xs[i] < j)∧∀ i (h:i < xs.size),below.go xs j fuel lo hi ≤ i→j ≤ xs[i]:=by
 intro fuel
 induction fuel with
 | zero =>
  intro lo hi h1 h2 h3 h4 h5
  rw [below.go]
  have:lo=hi:=by omega
  exact ⟨by omega,h4,fun i h hl=>h5 i h (by omega)⟩
 | succ fuel ih =>
  intro lo hi h1 h2 h3 h4 h5
  rw [below.go]
  by_cases c:lo < hi
  ·rw [if_pos c]
   have hm:(lo + hi) / 2 < xs.size:=by omega
   have g:xs.getD ((lo + hi) / 2) j=xs[(lo + hi) / 2]:=by simp [jY,hm]
   dsimp only
   rw [g]
   by_cases d:xs[(lo + hi) / 2] < j
   ·rw [if_pos d]
    refine ih _ _ (by omega) h2 (by omega) (fun i h hi'=>?_) h5
    by_cases e:i=(lo + hi) / 2
    ·subst e;exact d
    ·have:=r i ((lo + hi) / 2) h hm (by omega)
     omega
   ·rw [if_neg d]
    refine ih _ _ (by omega) (by omega) (by omega) h4 (fun i h hi'=>?_)
    by_cases e:i=(lo + hi) / 2
    ·subst e;omega
    ·have:=r ((lo + hi) / 2) i hm h (by omega)
     omega
  ·rw [if_neg c]
   have:lo=hi:=by omega
   exact ⟨by omega,h4,fun i h hl=>h5 i h (by omega)⟩
theorem wA {xs:Array Nat} (r:Ris xs) (j:Nat):below xs j ≤ xs.size∧(∀ i (h:i < xs.size),i < below xs j→xs[i] < j)∧∀ i (h:i < xs.size),below xs j ≤ i→j ≤ xs[i]:=by
 unfold below
 exact JX r j xs.size 0 xs.size (fu _) (aQ _) (by omega) (fun i h hi=>by omega) (fun i h hi=>by omega)
structure TOk (t:SetTable) (n:Nat):Prop where
 ris:Ris t.place
 mx:∀ i (h:i < t.place.size),t.place[i] ≤ t.mask
 sz:t.place.size=n
 dm:t.dummies = #[]
 pl:t.plain=true
theorem Np {t:SetTable} {n:Nat} (k:TOk t n) (j:Nat):(j ∉ t.place∧t.slot j = .empty)∨(j ∈ t.place∧∃ i,t.slot j = .live i):=by
 obtain ⟨b1,b2,b3⟩:=wA k.ris j
 have he:has t.dummies j=false:=by rw [k.dm];rfl
 unfold SetTable.slot
 dsimp only
 by_cases c:t.place[below t.place j]? = some j
 ·right
  rw [if_pos (by rw [c];simp)]
  exact ⟨Array.mem_of_getElem? c,_,rfl⟩
 ·left
  rw [if_neg (by simpa using c),he]
  refine ⟨fun m=>c ?_,rfl⟩
  obtain ⟨i,hi,e⟩:=pZ m
  have h1:¬ i < below t.place j:=fun z=>by have:=b2 i hi z;omega
  have h2:below t.place j=i:=by
   rcases gZ (below t.place j) i with z | z
   ·have:=b3 (below t.place j) (by omega) (aQ _)
    have:=k.ris (below t.place j) i (by omega) hi z
    omega
   ·omega
  rw [h2,bU hi,e]
end Stt
namespace Stt
open PySem SetTable
noncomputable def lcg (mask i:Nat):Nat:=(i * 5 + 1) % (mask + 1)
noncomputable def orb (mask:Nat):Nat→Nat→List Nat
 | 0,_=>[]
 | n + 1,i=>i :: orb mask n (lcg mask i)
noncomputable def itr (f:Nat→Nat):Nat→Nat→Nat
 | 0,i=>i
 | n + 1,i=>itr f n (f i)
theorem vm (f:Nat→Nat):∀ (a b i:Nat),itr f (a + b) i=itr f b (itr f a i)
 | 0,b,i=>by rw [d8];rfl
 | a + 1,b,i=>by
  rw [show a + 1 + b=(a + b) + 1 by omega]
  show itr f (a + b) (f i)=itr f b (itr f a (f i))
  exact vm f a b (f i)
theorem zA {mask:Nat}:∀ {n i s:Nat},s ∈ orb mask n i→∃ a,a < n∧itr (lcg mask) a i=s
 | 0,_,_,h=>by cases h
 | n + 1,i,s,h=>by
  rcases aR.mp h with rfl | z
  ·exact ⟨0,by omega,rfl⟩
  ·obtain ⟨a,h1,h2⟩:=zA z
   exact ⟨a + 1,by omega,h2⟩
noncomputable def Cyc (mask:Nat):Prop:=(∀ s,s ≤ mask→s ∈ orb mask (mask + 1) 0)∧itr (lcg mask) (mask + 1) 0=0
noncomputable def Vp (mask:Nat):Bool:=((aX (mask + 1)).all fun s=>(orb mask (mask + 1) 0).contains s) && itr (lcg mask) (mask + 1) 0 == 0
theorem zB {mask:Nat} (h:Vp mask=true):Cyc mask:=by
 unfold Vp at h
 rw [aO] at h
 refine ⟨fun s hs=>?_,by simpa using h.2⟩
 have:=fD.mp h.1 s (bO.mpr (by omega))
 simpa using this
theorem Xk:Cyc 7:=zB (by decide +kernel)
theorem Vq:Cyc 31:=zB (by decide +kernel)
theorem RM:Cyc 127:=zB (by decide +kernel)
theorem RN:Cyc 511:=zB (by decide +kernel)
theorem Cyc.all {mask:Nat} (c:Cyc mask) {i s:Nat} (hi:i ≤ mask) (hs:s ≤ mask):∃ n,n ≤ mask∧itr (lcg mask) n i=s:=by
 obtain ⟨a,a1,rfl⟩:=zA (c.1 i hi)
 obtain ⟨b,b1,rfl⟩:=zA (c.1 s hs)
 rcases gZ b a with z | z
 ·refine ⟨b + (mask + 1) - a,by omega,?_⟩
  rw [← vm,show a + (b + (mask + 1) - a)=(mask + 1) + b by omega,vm,c.2]
 ·refine ⟨b - a,by omega,?_⟩
  rw [← vm,show a + (b - a)=b by omega]
noncomputable def Lp (mask:Nat):Nat→Nat × Nat→Nat × Nat
 | 0,p=>p
 | n + 1,p=>Lp mask n (leap mask p.1 p.2)
theorem zE (mask:Nat):∀ (n:Nat) (p:Nat × Nat),Lp mask (n + 1) p=leap mask (Lp mask n p).1 (Lp mask n p).2
 | 0,_=>rfl
 | n + 1,p=>by
  show Lp mask (n + 1) (leap mask p.1 p.2)=_
  exact zE mask n _
theorem JZ (mask:Nat):∀ (n:Nat) (p:Nat × Nat),(Lp mask n p).2=p.2 / 32 ^ n
 | 0,p=>by show p.2=p.2 / 1;rw [Nat.div_one]
 | n + 1,p=>by
  rw [zE]
  show (Lp mask n p).2 / 32=_
  rw [JZ mask n p,Nat.div_div_eq_div_mul,← Nat.pow_succ]
theorem J0 (mask:Nat):∀ (n:Nat) (p:Nat × Nat),p.2=0→(Lp mask n p).1=itr (lcg mask) n p.1
 | 0,_,_=>rfl
 | n + 1,p,h=>by
  show (Lp mask n (leap mask p.1 p.2)).1=itr (lcg mask) n (lcg mask p.1)
  rw [J0 mask n _ (by show p.2 / 32=0;rw [h])]
  congr 1
  show (p.1 * 5 + 1 + p.2 / 32) % (mask + 1)=_
  rw [h]
  rfl
theorem J1 (mask:Nat):∀ (n:Nat) (p:Nat × Nat),p.1 ≤ mask→(Lp mask n p).1 ≤ mask
 | 0,_,h=>h
 | n + 1,p,h=>by
  rw [zE]
  show (_ % (mask + 1)) ≤ mask
  have:=m_ ((Lp mask n p).1 * 5 + 1 + (Lp mask n p).2 / 32) (show 0 < mask + 1 by omega)
  omega
theorem J2 (mask:Nat):∀ (a b:Nat) (p:Nat × Nat),Lp mask (a + b) p=Lp mask b (Lp mask a p)
 | 0,b,p=>by rw [d8];rfl
 | a + 1,b,p=>by
  rw [show a + 1 + b=(a + b) + 1 by omega]
  exact J2 mask a b _
theorem Nq (h:Int):bits h < 2 ^ 64:=by
 unfold bits
 have:=iy h (show (0:Int) < 2 ^ 64 by decide)
 have:=ju h (show (2 ^ 64:Int) ≠ 0 by decide)
 omega
theorem J3 {mask:Nat} (c:Cyc mask) (h:Int) {s:Nat} (hs:s ≤ mask):∃ n,n ≤ mask + 13∧(Lp mask n (bits h % (mask + 1),bits h)).1=s:=by
 have l0:bits h % (mask + 1) ≤ mask:=by
  have:=m_ (bits h) (show 0 < mask + 1 by omega)
  omega
 have z:(Lp mask 13 (bits h % (mask + 1),bits h)).2=0:=by
  rw [JZ]
  have:=Nq h
  exact Nat.div_eq_of_lt (mQ this (by decide))
 obtain ⟨n,n1,n2⟩:=c.all (J1 mask 13 (bits h % (mask + 1),bits h) l0) hs
 refine ⟨13 + n,by omega,?_⟩
 rw [J2,J0 mask n _ z]
 exact n2
theorem rJ {mask i:Nat} (h:i ≤ mask):i ≤ runEnd mask i∧runEnd mask i ≤ mask∧runEnd mask i ≤ i + 9:=by
 unfold runEnd
 split <;> omega
end Stt
namespace Stt
open PySem SetTable
noncomputable def adv (t:SetTable):Nat→Probe→Probe
 | 0,p=>p
 | n + 1,p=>adv t n (t.advance p)
theorem zF (t:SetTable):∀ (a b:Nat) (p:Probe),adv t (a + b) p=adv t b (adv t a p)
 | 0,b,p=>by rw [d8];rfl
 | a + 1,b,p=>by
  rw [show a + 1 + b=(a + b) + 1 by omega]
  exact zF t a b _
theorem Fb (t:SetTable):∀ (m j i q:Nat) (d:Option Nat),adv t m ⟨j,m,i,q,d⟩=⟨j + m,0,i,q,d⟩
 | 0,j,i,q,d=>rfl
 | m + 1,j,i,q,d=>by
  show adv t m (t.advance ⟨j,m + 1,i,q,d⟩)=_
  have:t.advance ⟨j,m + 1,i,q,d⟩=⟨j + 1,m,i,q,d⟩:=by
   unfold advance
   rw [if_pos (Nat.succ_pos m)]
   rfl
  rw [this,Fb t m (j + 1) i q d,show j + 1 + m=j + (m + 1) by omega]
noncomputable def stt (t:SetTable) (p:Nat × Nat) (d:Option Nat):Probe:=⟨p.1,runEnd t.mask p.1 - p.1,p.1,p.2,d⟩
theorem J4 (t:SetTable) (p:Nat × Nat) (d:Option Nat) (hp:p.1 ≤ t.mask):∃ k,k ≤ 10∧adv t k (stt t p d)=stt t (leap t.mask p.1 p.2) d:=by
 obtain ⟨h1,h2,h3⟩:=rJ hp
 refine ⟨(runEnd t.mask p.1 - p.1) + 1,by omega,?_⟩
 rw [zF]
 unfold stt
 rw [Fb]
 rw [show ∀ q:Probe,adv t 1 q=t.advance q from fun _=>rfl]
 unfold advance
 rw [if_neg (iU 0)]
theorem J5 (t:SetTable) (d:Option Nat):∀ (n:Nat) (p:Nat × Nat),p.1 ≤ t.mask→∃ k,k ≤ 10 * n∧adv t k (stt t p d)=stt t (Lp t.mask n p) d
 | 0,p,_=>⟨0,aQ _,rfl⟩
 | n + 1,p,h=>by
  obtain ⟨k,k1,k2⟩:=J4 t p d h
  obtain ⟨m,m1,m2⟩:=J5 t d n (leap t.mask p.1 p.2) (by
   have:=J1 t.mask 1 p h
   exact this)
  refine ⟨k + m,by omega,?_⟩
  rw [zF,k2,m2]
  rfl
theorem G9 (t:SetTable) (p:Probe):(t.advance p).dummy=p.dummy:=by
 unfold advance
 split <;> rfl
noncomputable def Pin (t:SetTable) (p:Probe):Prop:=p.j + p.more ≤ t.mask
theorem Pin.adv {t:SetTable} {p:Probe} (h:Pin t p):Pin t (t.advance p):=by
 unfold Pin at *
 unfold advance
 by_cases c:p.more > 0
 ·rw [if_pos c]
  show p.j + 1 + (p.more - 1) ≤ _
  omega
 ·rw [if_neg c]
  have l:(leap t.mask p.i p.perturb).1 ≤ t.mask:=by
   show (_ % (t.mask + 1)) ≤ t.mask
   have:=m_ (p.i * 5 + 1 + p.perturb / 32) (show 0 < t.mask + 1 by omega)
   omega
  obtain ⟨h1,h2,h3⟩:=rJ l
  show (leap t.mask p.i p.perturb).1 + (runEnd t.mask (leap t.mask p.i p.perturb).1 - (leap t.mask p.i p.perturb).1) ≤ _
  omega
theorem J6 {t:SetTable} {n:Nat} (k:TOk t n) {f:Nat→Int} {h:Int} (hf:∀ i,(f i == h)=false):∀ (fuel:Nat) (p:Probe),Pin t p→p.dummy=none→(∃ m,m < fuel∧(adv t m p).j ∉ t.place) →
 ∃ s,probe.go t f h fuel p=some (.empty s none)∧s ∉ t.place∧s ≤ t.mask:=by
 intro fuel
 induction fuel with
 | zero=>rintro p _ _ ⟨m,h1,_⟩;omega
 | succ fuel ih =>
  rintro p hp hd ⟨m,h1,h2⟩
  rw [probe.go]
  rcases Np k p.j with ⟨z1,z2⟩ | ⟨z1,i,z2⟩
  ·rw [z2]
   dsimp only
   refine ⟨p.j,by rw [hd],z1,?_⟩
   unfold Pin at hp
   omega
  ·rw [z2]
   dsimp only
   rw [hf,if_neg aU]
   cases m with
   | zero=>exact absurd z1 h2
   | succ m=>exact ih _ hp.adv (by rw [G9];exact hd) ⟨m,by omega,h2⟩
theorem Nr {t:SetTable} {n:Nat} (k:TOk t n) (c:Cyc t.mask) (hn:n ≤ t.mask) (h:Int):∃ s,t.freeSlot h=some (s,false)∧s ∉ t.place∧s ≤ t.mask:=by
 obtain ⟨e,e1,e2⟩:∃ e,e ≤ t.mask∧e ∉ t.place:=by
  apply Classical.byContradiction
  intro no
  have sub:aX (t.mask + 1) ⊆ t.place.toList:=fun j hj=>by
   apply Classical.byContradiction
   intro z
   exact no ⟨j,by have:=bO.mp hj;omega,fun q=>z (by simpa using q)⟩
  have:=List.Nodup.length_le_of_subset oN sub
  rw [cC,aJ,k.sz] at this
  omega
 obtain ⟨m,m1,m2⟩:=J3 c h e1
 have l0:bits h % (t.mask + 1) ≤ t.mask:=by
  have:=m_ (bits h) (show 0 < t.mask + 1 by omega)
  omega
 obtain ⟨q,q1,q2⟩:=J5 t none m (bits h % (t.mask + 1),bits h) l0
 obtain ⟨r1,r2,r3⟩:=rJ l0
 obtain ⟨s,s1,s2,s3⟩:=J6 k (f:=fun _=>h + 1) (h:=h) (fun _=>by rw [beq_eq_false_iff_ne];omega) (10 * turns t.mask) (t.probeStart h) (by
  unfold Pin probeStart
  show bits h % (t.mask + 1) + (runEnd t.mask (bits h % (t.mask + 1)) - bits h % (t.mask + 1)) ≤ _
  omega) rfl ⟨q,by unfold turns;omega,by
   have:adv t q (t.probeStart h)=_:=q2
   rw [this]
   show (Lp t.mask m (bits h % (t.mask + 1),bits h)).1 ∉ _
   rw [m2]
   exact e2⟩
 refine ⟨s,?_,s2,s3⟩
 unfold freeSlot probe
 rw [s1]
 rfl
theorem Bo {α:Type} (xs:Array α) (p:Nat) (x:α) (h:p ≤ xs.size):(insertAt xs p x).toList=xs.toList.take p++x :: xs.toList.drop p:=by
 unfold insertAt
 simp [pX,nM]
 exact cY (by rw [cL,aJ];exact aQ _)
theorem wB {xs:Array Nat}:Ris xs↔xs.toList.Pairwise (· < ·):=by
 rw [dB]
 constructor
 ·intro h i j hi hj hl
  exact h i j (by simpa using hi) (by simpa using hj) hl
 ·intro h i j hi hj hl
  exact h i j (by simpa using hi) (by simpa using hj) hl
theorem RP {t:SetTable} {n:Nat} (k:TOk t n) {s:Nat} (h1:s ∉ t.place) (h2:s ≤ t.mask):TOk (t.put s).1 (n + 1)∧(t.put s).1.mask=t.mask∧(t.put s).1.led=t.led∧(t.put s).2 ≤ n:=by
 obtain ⟨b1,b2,b3⟩:=wA k.ris s
 have lst:(insertAt t.place (below t.place s) s).toList=t.place.toList.take (below t.place s)++s :: t.place.toList.drop (below t.place s):=Bo _ _ _ b1
 have he:has t.dummies s=false:=by rw [k.dm];rfl
 have e:(t.put s).1 = { t with place:=insertAt t.place (below t.place s) s,dummies:=t.dummies }:=by
  unfold put
  dsimp only
  rw [he,if_neg aU]
 have szz:(insertAt t.place (below t.place s) s).size=n + 1:=by
  rw [← aJ,lst,bB,bK,fB,cL,aJ,k.sz]
  have:=k.sz
  omega
 have mm:∀ x,x ∈ insertAt t.place (below t.place s) s→x ≤ t.mask:=fun x hx=>by
  have hx:x ∈ (insertAt t.place (below t.place s) s).toList:=by simpa using hx
  rw [lst] at hx
  have old:x ∈ t.place.toList→x ≤ t.mask:=fun q=>by
   obtain ⟨i,hi,e⟩:=pZ (show x ∈ t.place by simpa using q)
   rw [← e]
   exact k.mx i hi
  rcases bW.mp hx with z | z
  ·exact old (mC z)
  ·rcases aR.mp z with rfl | z
   ·exact h2
   ·exact old (jG z)
 rw [e]
 refine ⟨⟨?_,fun i hi=>mm _ (tE hi),szz,k.dm,k.pl⟩,rfl,rfl,?_⟩
 ·show Ris (insertAt t.place (below t.place s) s)
  rw [wB,lst]
  have pw:=wB.mp k.ris
  have lo:∀ x ∈ t.place.toList.take (below t.place s),x < s:=fun x hx=>by
   obtain ⟨i,hi,e⟩:=cH hx
   rw [fB,aJ] at hi
   rw [sZ] at e
   rw [← e]
   exact b2 i (by omega) (by omega)
  have hi':∀ x ∈ t.place.toList.drop (below t.place s),s < x:=fun x hx=>by
   obtain ⟨i,hi,e⟩:=cH hx
   rw [cL,aJ] at hi
   rw [jD] at e
   have g:=b3 (below t.place s + i) (by omega) (by omega)
   have:x ∈ t.place:=by simpa using jG hx
   have e':t.place[below t.place s + i]'(by omega)=x:=by simpa using e
   rw [e'] at g
   rcases su g with z | z
   ·exact z
   ·exact absurd (z ▸ this) h1
  refine aM.mpr ⟨pw.sublist (sW _ _),cO.mpr ⟨hi',pw.sublist (List.drop_sublist _ _)⟩,fun a ha b hb=>?_⟩
  rcases aR.mp hb with rfl | z
  ·exact lo a ha
  ·have:=lo a ha
   have:=hi' b z
   omega
 ·show below t.place s ≤ n
  have:=k.sz
  omega
end Stt
namespace Stt
open PySem SetTable
structure Own (owner:Array (Option Nat)) (mask k:Nat):Prop where
 sz:owner.size=mask + 1
 all:∀ v,v < k→∃ j:Nat,owner[j]? = some (some v)
 lt:∀ (j v:Nat),owner[j]? = some (some v)→v < k
 inj:∀ (i j v:Nat),owner[i]? = some (some v)→owner[j]? = some (some v)→i=j
theorem J7 {mask:Nat} {owner:Array (Option Nat)}:∀ (fuel:Nat) (p:Nat × Nat),p.1 ≤ mask→(∃ n,n < fuel∧owner[(Lp mask n p).1]? = some none)→owner.size=mask + 1 →
 ∃ j,layClean.free mask owner fuel p.1 p.2=some j∧owner[j]? = some none:=by
 intro fuel
 induction fuel with
 | zero=>rintro p _ ⟨n,h,_⟩;omega
 | succ fuel ih =>
  rintro p hp ⟨n,h1,h2⟩ hs
  rw [layClean.free]
  obtain ⟨r1,r2,r3⟩:=rJ hp
  cases e:(aX (runEnd mask p.1 + 1 - p.1)).find? fun k=>(owner.getD (p.1 + k) (some 0)).isNone with
  | some k =>
   refine ⟨p.1 + k,rfl,?_⟩
   have h3:=List.find?_some e
   have h4:=bO.mp (nJ e)
   have hb:p.1 + k < owner.size:=by omega
   have g:owner.getD (p.1 + k) (some 0)=owner[p.1 + k]:=by simp [jY,hb]
   rw [g] at h3
   rw [bU hb]
   cases z:owner[p.1 + k] with
   | none=>rfl
   | some v=>rw [z] at h3;cases h3
  | none =>
   cases n with
   | zero =>
    exfalso
    have h2:owner[p.1]? = some none:=h2
    have:=m6.mp e 0 (bO.mpr (by omega))
    have hb:p.1 < owner.size:=by omega
    rw [bU hb] at h2
    have g:owner.getD (p.1 + 0) (some 0)=none:=by
     rw [mR]
     simp [jY,hb]
     injection h2
    rw [g] at this
    exact this rfl
   | succ n =>
    have:=ih (leap mask p.1 p.2) (by exact J1 mask 1 p hp) ⟨n,by omega,h2⟩ hs
    exact this
theorem G_ {owner:Array (Option Nat)} {mask k:Nat} (o:Own owner mask k) (hk:k ≤ mask):∃ j,j ≤ mask∧owner[j]? = some none:=by
 apply Classical.byContradiction
 intro no
 have ex:∀ j,j ≤ mask→∃ v,owner[j]? = some (some v):=fun j hj=>by
  have hb:j < owner.size:=by rw [o.sz];omega
  cases z:owner[j] with
  | none=>exact absurd ⟨j,hj,by rw [bU hb,z]⟩ no
  | some v=>exact ⟨v,by rw [bU hb,z]⟩
 let f:Nat→Nat:=fun j=>((owner[j]?).getD none).getD 0
 have fs:∀ j,j ≤ mask→owner[j]? = some (some (f j)):=fun j hj=>by
  obtain ⟨v,e⟩:=ex j hj
  show owner[j]? = some (some (((owner[j]?).getD none).getD 0))
  rw [e]
  rfl
 have nd:((aX (mask + 1)).map f).Nodup:=by
  refine nP.mpr (List.Pairwise.imp_of_mem ?_ oN)
  intro a b ha hb ne e
  have ha:=bO.mp ha
  have hb:=bO.mp hb
  exact ne (o.inj a b (f a) (fs a (by omega)) (by rw [e];exact fs b (by omega)))
 have sub:((aX (mask + 1)).map f) ⊆ aX k:=fun v hv=>by
  obtain ⟨j,hj,rfl⟩:=bT.mp hv
  exact bO.mpr (o.lt j _ (fs j (by have:=bO.mp hj;omega)))
 have:=List.Nodup.length_le_of_subset nd sub
 rw [aH,cC,cC] at this
 omega
theorem Nt {owner:Array (Option Nat)} {mask k j:Nat} (o:Own owner mask k) (hj:owner[j]? = some none):Own (owner.setIfInBounds j (some k)) mask (k + 1):=by
 have hb:j < owner.size:=by
  rcases gZ j owner.size with z | z
  ·exact z
  ·rw [fJ z] at hj;cases hj
 have g:∀ i,(owner.setIfInBounds j (some k))[i]? = if i=j then some (some k) else owner[i]?:=fun i=>by
  rw [mJ]
  by_cases c:j=i
  ·subst c
   rw [if_pos rfl,if_pos hb,if_pos rfl]
  ·rw [if_neg c,if_neg (fun z=>c z.symm)]
 refine ⟨by rw [jR];exact o.sz,fun v hv=>?_,fun i v h=>?_,fun a b v h1 h2=>?_⟩
 ·by_cases c:v=k
  ·exact ⟨j,by rw [g,if_pos rfl,c]⟩
  ·obtain ⟨i,e⟩:=o.all v (by omega)
   refine ⟨i,?_⟩
   rw [g,if_neg (fun z=>by rw [z,hj] at e;cases e)]
   exact e
 ·rw [g] at h
  by_cases c:i=j
  ·rw [if_pos c] at h
   cases h
   omega
  ·rw [if_neg c] at h
   have:=o.lt i v h
   omega
 ·rw [g] at h1 h2
  by_cases c:a=j
  ·by_cases d:b=j
   ·rw [c,d]
   ·rw [if_pos c] at h1
    rw [if_neg d] at h2
    cases h1
    have:=o.lt b k h2
    omega
  ·rw [if_neg c] at h1
   by_cases d:b=j
   ·rw [if_pos d] at h2
    cases h2
    have:=o.lt a k h1
    omega
   ·rw [if_neg d] at h2
    exact o.inj a b v h1 h2
theorem Bp {mask:Nat} (c:Cyc mask):∀ (l:List Int) (owner:Array (Option Nat)) (k:Nat),Own owner mask k→k + l.length ≤ mask →
 ∃ owner',l.foldl (fun (acc:Option (Array (Option Nat) × Nat)) h=>acc.bind fun q=>(layClean.free mask q.1 (turns mask) (bits h % (mask + 1)) (bits h)).bind fun j=>some (q.1.setIfInBounds j (some q.2),q.2 + 1)) (some (owner,k))=some (owner',k + l.length)∧Own owner' mask (k + l.length)
 | [],owner,k,o,_=>⟨owner,rfl,o⟩
 | h :: l,owner,k,o,hl=>by
  rw [bK] at hl
  obtain ⟨e,e1,e2⟩:=G_ o (by omega)
  obtain ⟨n,n1,n2⟩:=J3 c h e1
  have l0:bits h % (mask + 1) ≤ mask:=by
   have:=m_ (bits h) (show 0 < mask + 1 by omega)
   omega
  obtain ⟨j,j1,j2⟩:=J7 (turns mask) (bits h % (mask + 1),bits h) l0 ⟨n,by unfold turns;omega,by rw [n2];exact e2⟩ o.sz
  obtain ⟨owner',f1,f2⟩:=Bp c l _ (k + 1) (Nt o j2) (by omega)
  refine ⟨owner',?_,by rw [bK,show k + (l.length + 1)=k + 1 + l.length by omega];exact f2⟩
  rw [pJ,aK]
  dsimp only at j1 ⊢
  rw [j1,aK,f1,bK,show k + (l.length + 1)=k + 1 + l.length by omega]
theorem Xl (mask:Nat):Own (Array.replicate (mask + 1) none) mask 0:=by
 refine ⟨Array.size_replicate,fun v hv=>by omega,fun j v h=>?_,fun i j v h=>?_⟩
 ·rw [oh] at h
  split at h <;> cases h
 ·rw [oh] at h
  split at h <;> cases h
theorem RQ {mask:Nat} (c:Cyc mask) (hs:Array Int) (hl:hs.size ≤ mask):∃ owner,layClean mask hs=some owner∧Own owner mask hs.size:=by
 obtain ⟨owner,e,o⟩:=Bp c hs.toList _ 0 (Xl mask) (by rw [aJ];omega)
 rw [d8,aJ] at o e
 refine ⟨owner,?_,o⟩
 unfold layClean
 rw [← Array.foldl_toList]
 have:(fun (acc:Option (Array (Option Nat) × Nat)) (h:Int)=>(do
  let (owner,k) ← acc
  let j ← layClean.free mask owner (turns mask) (bits h % (mask + 1)) (bits h)
  pure (owner.setIfInBounds j (some k),k + 1):Option (Array (Option Nat) × Nat)))=fun acc h=>acc.bind fun q=>(layClean.free mask q.1 (turns mask) (bits h % (mask + 1)) (bits h)).bind fun j=>some (q.1.setIfInBounds j (some q.2),q.2 + 1):=rfl
 rw [this,e]
 rfl
theorem Nu {mask finger moves:Nat} {led:Bool} (c:Cyc mask) (hs:Array Int) (hl:hs.size ≤ mask) :
 ∃ t order,laid mask finger moves led true hs=some (t,order)∧TOk t hs.size∧t.mask=mask∧t.led=led∧order.toList.Perm (aX hs.size):=by
 obtain ⟨owner,e,o⟩:=RQ c hs hl
 have fm:∀ j p,(owner.getD j none).map (fun v=>(j,v))=some p→p.1=j∧owner[j]? = some (some p.2):=fun j p h=>by
  by_cases hb:j < owner.size
  ·have g:owner.getD j none=owner[j]:=by simp [jY,hb]
   rw [g] at h
   rw [bU hb]
   cases z:owner[j] with
   | none=>rw [z] at h;cases h
   | some v=>rw [z] at h;cases h;exact ⟨rfl,rfl⟩
  ·have g:owner.getD j none=none:=by simp [jY,hb]
   rw [g] at h
   cases h
 let live:=(aX (mask + 1)).filterMap fun j=>(owner.getD j none).map (fun v=>(j,v))
 have pw:live.Pairwise fun p q=>p.1 < q.1∧p.2 ≠ q.2:=by
  refine List.Pairwise.filterMap _ ?_ List.pairwise_lt_range
  intro a a' hl b hb b' hb'
  obtain ⟨x1,x2⟩:=fm a b hb
  obtain ⟨y1,y2⟩:=fm a' b' hb'
  refine ⟨by omega,fun z=>?_⟩
  rw [z] at x2
  have:=o.inj a a' b'.2 x2 y2
  omega
 have mem:∀ v,v ∈ live.map (·.2)↔v < hs.size:=fun v=>by
  constructor
  ·intro h
   obtain ⟨p,hp,rfl⟩:=bT.mp h
   obtain ⟨j,_,hj⟩:=fj.mp hp
   exact o.lt j _ (fm j p hj).2
  ·intro h
   obtain ⟨j,hj⟩:=o.all v h
   have hb:j < owner.size:=by
    rcases gZ j owner.size with z | z
    ·exact z
    ·rw [fJ z] at hj;cases hj
   refine bT.mpr ⟨(j,v),fj.mpr ⟨j,bO.mpr (by rw [← o.sz];exact hb),?_⟩,rfl⟩
   have g:owner.getD j none=owner[j]:=by simp [jY,hb]
   rw [bU hb] at hj
   injection hj with hj
   rw [g,hj]
   rfl
 have nd:(live.map (·.2)).Nodup:=nP.mpr (pw.imp fun h=>h.2)
 have perm:(live.map (·.2)).Perm (aX hs.size):=(nj nd oN).mpr fun v=>by rw [mem,bO]
 refine ⟨{ mask,place:=(live.map (·.1)).toArray,dummies:=#[],finger,led,moves,plain:=true },(live.map (·.2)).toArray,?_,?_,rfl,rfl,?_⟩
 ·unfold laid
  rw [e]
  rfl
 ·refine ⟨?_,fun i hi=>?_,?_,rfl,rfl⟩
  ·rw [wB]
   show ((live.map (·.1)).toArray).toList.Pairwise _
   exact nP.mpr (pw.imp fun h=>h.1)
  ·have hm:(live.map (·.1)).toArray[i] ∈ (live.map (·.1)):=by
    have:=tE (xs:=(live.map (·.1)).toArray) hi
    simpa using this
   obtain ⟨p,hp,ep⟩:=bT.mp hm
   obtain ⟨j,hj1,hj2⟩:=fj.mp hp
   have:=(fm j p hj2).1
   have:=bO.mp hj1
   show (live.map (·.1)).toArray[i] ≤ mask
   omega
  ·show (live.map (·.1)).toArray.size=hs.size
   rw [bx,aH]
   have:=perm.length_eq
   rwa [aH,cC] at this
 ·exact perm
theorem yu {α:Type}:∀ l:List α,(aX l.length).filterMap (fun j=>l[j]?)=l
 | []=>rfl
 | a :: l=>by
  rw [bK,List.range_succ_eq_map,dM,List.filterMap_map]
  show a :: List.filterMap (fun j=>l[j]?) (aX l.length)=_
  rw [yu l]
theorem Di {α:Type} (es:Array α):(aX es.size).filterMap (es[·]?)=es.toList:=by
 have e:=yu es.toList
 rw [aJ] at e
 have f:(fun j:Nat=>es.toList[j]?)=fun j:Nat=>es[j]?:=by
  funext j
  simp
 rw [f] at e
 exact e
theorem J8 {t:SetTable} {n wanted:Nat} (k:TOk t n) {es:Array (Int × Value)} (hn:es.size=n) (c:Cyc (sizeAbove wanted - 1)) (hl:n ≤ sizeAbove wanted - 1) :
 ∃ es' t',relayAll t es wanted=(es',t',false)∧TOk t' n∧t'.mask=sizeAbove wanted - 1∧t'.led=t.led∧es'.toList.Perm es.toList∧t'.fits es'.size=true:=by
 obtain ⟨t',order,e,k',m',l',p'⟩:=Nu (finger:=t.finger) (moves:=t.movedTo (sizeAbove wanted - 1)) (led:=t.led) c (es.map (·.1)) (by rw [pY];omega)
 rw [pY,hn] at k' p'
 have fp:(order.filterMap (es[·]?)).toList.Perm es.toList:=by
  rw [Array.toList_filterMap,← Di es,hn]
  exact p'.filterMap _
 have fz:(order.filterMap (es[·]?)).size=n:=by
  have:=fp.length_eq
  rw [aJ,aJ,hn] at this
  exact this
 have ft:t'.fits n=true:=by
  unfold SetTable.fits SetTable.fill
  rw [k'.sz,k'.dm,m',aO]
  refine ⟨by simp,dTr ?_⟩
  show n + 0 ≤ _
  omega
 refine ⟨order.filterMap (es[·]?),t',?_,k',m',l',fp,by rw [fz];exact ft⟩
 unfold relayAll relaid
 rw [k.pl,e]
 dsimp only
 have cv:coversAll order es.size=true:=by
  unfold coversAll
  rw [hn]
  exact List.isPerm_iff.mpr p'
 rw [cv,fz,ft]
 rfl
end Stt
namespace Stt
open PySem
noncomputable def keyOf:Int × Value→Int
 | (_,.int k _)=>k
 | _=>0
noncomputable def Gm (mask n:Nat):Prop:=(mask=7∧n ≤ 4)∨(mask=31∧n ≤ 18)∨(mask=127∧n ≤ 76)∨(mask=511∧n ≤ 306)
theorem Gm.cyc {mask n:Nat} (h:Gm mask n):Cyc mask:=by
 rcases h with ⟨rfl,_⟩ | ⟨rfl,_⟩ | ⟨rfl,_⟩ | ⟨rfl,_⟩
 ·exact Xk
 ·exact Vq
 ·exact RM
 ·exact RN
theorem Gm.lt {mask n:Nat} (h:Gm mask n):n < mask:=by
 rcases h with ⟨rfl,_⟩ | ⟨rfl,_⟩ | ⟨rfl,_⟩ | ⟨rfl,_⟩ <;> omega
theorem fits_of {t:SetTable} {n:Nat} (k:TOk t n) (h:n ≤ t.mask):t.fits n=true:=by
 unfold SetTable.fits SetTable.fill
 rw [k.sz,k.dm,aO]
 refine ⟨by simp,dTr ?_⟩
 show n + 0 ≤ _
 omega
noncomputable def uU (prog:Program) (w:World) (h:Heap) (a:Addr) (ns:List Int) (led:Bool):Prop :=
 ∃ o es ep t,h.get? a=some o∧o.ExactSet∧o.data = .set es ep t∧ElemsOf (intKind prog w) es.toList∧(es.toList.map keyOf).Nodup∧(∀ k,k ∈ es.toList.map keyOf↔k ∈ ns)∧TOk t es.size∧t.led=led∧Gm t.mask es.size
section
variable {prog:Program} {w:World} {A:Around} {E:Value→Shared→Prop} {s:Shared}
theorem Fd {es:List (Int × Value)} (h:ElemsOf (intKind prog w) es) {e:Int × Value} (he:e ∈ es):∃ t,e.2 = .int (keyOf e) t:=by
 obtain ⟨⟨k,hk,_⟩,_⟩:=h e he
 obtain ⟨t,ht⟩:=Value.isInt_shape (show Value.isInt k e.2=true from hk)
 obtain ⟨x,y⟩:=e
 dsimp only at ht
 subst ht
 exact ⟨t,rfl⟩
theorem J9 {es:List (Int × Value)} (h:ElemsOf (intKind prog w) es) {e:Int × Value} (he:e ∈ es) (k:Int):(intKind prog w).is k e.2=true↔keyOf e=k:=by
 obtain ⟨t,ht⟩:=Fd h he
 constructor
 ·intro z
  obtain ⟨u,hu⟩:=Value.isInt_shape (show Value.isInt k e.2=true from z)
  rw [ht] at hu
  injection hu
 ·intro z
  rw [ht,z]
  exact intKind_is _ _ _ _
theorem Fe {h:Heap} {a:Addr} {o:Obj} {es es':Array (Int × Value)} {ep:Nat} {t t':SetTable} (ho:h.get? a=some o) (hd:o.data = .set es ep t):(h.update a (Obj.putSet es' t')).get? a=some { o with data:=.set es' (ep + 1) t' }:=by
 have e:=putSet_of es' t' hd
 have g:=Heap.get?_update_self (Obj.putSet es' t') ho (by rw [e];rfl)
 rwa [e] at g
theorem Dj {t:SetTable} {n:Nat} (k:TOk t n):t.tooFull=decide (n * 5 ≥ t.mask * 3):=by
 unfold SetTable.tooFull SetTable.fill
 rw [k.sz,k.dm]
 rfl
theorem Nv {mask n:Nat} (g:Gm mask n) (hn:n ≤ 300):(¬ (n + 1) * 5 ≥ mask * 3∧Gm mask (n + 1))∨((n + 1) * 5 ≥ mask * 3∧Gm (SetTable.sizeAbove (SetTable.grown (n + 1)) - 1) (n + 1)):=by
 rcases g with ⟨rfl,g⟩ | ⟨rfl,g⟩ | ⟨rfl,g⟩ | ⟨rfl,g⟩
 ·by_cases c:n=4
  ·subst c
   exact .inr ⟨by decide,.inr (.inl ⟨by decide,by decide⟩)⟩
  ·exact .inl ⟨by omega,.inl ⟨rfl,by omega⟩⟩
 ·by_cases c:n=18
  ·subst c
   exact .inr ⟨by decide,.inr (.inr (.inl ⟨by decide,by decide⟩))⟩
  ·exact .inl ⟨by omega,.inr (.inl ⟨rfl,by omega⟩)⟩
 ·by_cases c:n=76
  ·subst c
   exact .inr ⟨by decide,.inr (.inr (.inr ⟨by decide,by decide⟩))⟩
  ·exact .inl ⟨by omega,.inr (.inr (.inl ⟨rfl,by omega⟩))⟩
 ·exact .inl ⟨by omega,.inr (.inr (.inr ⟨rfl,by omega⟩))⟩
theorem Nx {t:SetTable} {es:Array (Int × Value)} (k:TOk t es.size) (g:Gm t.mask es.size) (h:Int) (x:Value) :
 ∃ es1 t1,layNew t es h x=(es1,t1,false,false)∧es1.toList.Perm (es.toList++[(h,x)])∧TOk t1 (es.size + 1)∧t1.mask=t.mask∧t1.led=t.led:=by
 obtain ⟨s,s1,s2,s3⟩:=Nr k g.cyc (eY g.lt) h
 obtain ⟨p1,p2,p3,p4⟩:=RP k s2 s3
 have il:=Bo es (t.put s).2 (h,x) p4
 have sz:(SetTable.insertAt es (t.put s).2 (h,x)).size=es.size + 1:=by
  rw [← aJ,il,bB,bK,fB,cL,aJ]
  omega
 have ft:(t.put s).1.fits (es.size + 1)=true:=fits_of p1 (by rw [p2];exact g.lt)
 refine ⟨SetTable.insertAt es (t.put s).2 (h,x),(t.put s).1,?_,?_,p1,p2,p3⟩
 ·unfold layNew
  rw [s1]
  show (_,SetTable.orStandIn (t.put s).1 (SetTable.insertAt es (t.put s).2 (h,x)).size,false,!(t.put s).1.fits (SetTable.insertAt es (t.put s).2 (h,x)).size)=_
  rw [sz,ft]
  unfold SetTable.orStandIn
  rw [if_pos ft]
  rfl
 ·rw [il]
  refine jL.trans ?_
  rw [eG]
  exact (jK _ _).symm
theorem RV {a:Addr} {ns:List Int} {led:Bool} {k:Int} {tok:Tok} {Q:Bool→Shared→Prop} (hS:uU prog w s.heap a ns led) (hn:ns.length ≤ 300)
 (h:∀ h' b,Heap.SameBut a s.heap h'→uU prog w h' a (ns++[k]) led→Q b { s with heap:=h' }):wpAny (model prog w) A (setAddHashed a (.int k tok) ((intKind prog w).hash k)) Q E s:=by
 obtain ⟨o,es,ep,t,ho,hex,hd,hel,nd,mem,kt,hl,g⟩:=hS
 have hf:=fits_of kt (eY g.lt)
 have sz:es.size ≤ 300:=by
  have:=List.Nodup.length_le_of_subset nd (fun x hx=>(mem x).mp hx)
  rw [aH,aJ] at this
  omega
 have hb:es.size < scanBound:=jh sz (by decide)
 have hkey:(intKind prog w).is k (.int k tok)=true:=intKind_is _ _ _ _
 have hsc:(Value.int k tok).scannable=true:=rfl
 unfold setAddHashed setAddHashedIn
 refine wpAny_holding (wpAny_bind (wpAny_setState_of ho hd hf ?_))
 dsimp only
 rw [byScan_of hsc hb hel,if_pos rfl]
 unfold setAddByScan
 refine wpAny_bind (wpAny_bind (wpAny_rule (wpAny_bind (wpAny_setScan_of hkey ho hd hf hel ?_))))
 cases hr:List.findIdx? (fun e=>(intKind prog w).is k e.2) es.toList with
 | some j =>
  dsimp only
  obtain ⟨hj,hpj,_⟩:=List.findIdx?_eq_some_iff_getElem.mp hr
  have kin:k ∈ ns:=(mem k).mp (bT.mpr ⟨_,dZ hj,(J9 hel (dZ hj) k).mp hpj⟩)
  have es':s = { s with heap:=s.heap }:=by cases s;rfl
  refine wpAny_pure (wpAny_pure ?_)
  rw [es']
  exact h s.heap false (Heap.SameBut.refl a s.heap) ⟨o,es,ep,t,ho,hex,hd,hel,nd,fun x=>by
   rw [mem,bW,aV]
   exact ⟨.inl,fun z=>by
    rcases z with z | rfl
    ·exact z
    ·exact kin⟩,kt,hl,g⟩
 | none =>
  dsimp only
  have knot:k ∉ es.toList.map keyOf:=fun z=>by
   obtain ⟨e,he,ek⟩:=bT.mp z
   have z1:=List.findIdx?_eq_none_iff.mp hr e he
   rw [(J9 hel he k).mpr ek] at z1
   cases z1
  obtain ⟨es1,t1,e1,p1,k1,m1,l1⟩:=Nx kt g ((intKind prog w).hash k) (.int k tok)
  have s1:es1.size=es.size + 1:=by
   have:=p1.length_eq
   rwa [aJ,bB,aJ] at this
  have hel1:ElemsOf (intKind prog w) es1.toList:=(hel.push hkey hsc).perm p1
  have pm:(es1.toList.map keyOf).Perm (es.toList.map keyOf++[k]):=by
   have:=p1.map keyOf
   rwa [dj] at this
  have nd1:(es1.toList.map keyOf).Nodup:=pm.nodup_iff.mpr (List.nodup_append.mpr ⟨nd,gP _ _,fun x hx y hy z=>by
   rw [aV.mp hy] at z
   exact knot (z ▸ hx)⟩)
  have mem1:∀ x,x ∈ es1.toList.map keyOf↔x ∈ ns++[k]:=fun x=>by rw [pm.mem_iff,bW,bW,mem]
  have hb1:es1.size ≤ sizeLine:=fits_of_scanBound (by rw [s1];exact jh (Nat.succ_le_succ sz) (by decide))
  rw [e1]
  dsimp only
  refine wpAny_bind (wpAny_pure ?_)
  rw [k1.pl,if_pos rfl,hashByValue_scannable 8 hsc]
  refine wpAny_bind (wpAny_pure ?_)
  simp only [show plainKind (Value.int k tok)=true from rfl,if_true]
  show wpAny _ _ (storeSet a es1 t1 >>= _) _ _ s
  have sb1:=Heap.SameBut.update s.heap a (Obj.putSet es1 t1)
  have g1:(s.heap.update a (Obj.putSet es1 t1)).get? a=_:=Fe ho hd
  refine wpAny_bind (wpAny_storeSet_of ho hd ?_ hb1)
  rw [Dj k1,s1,m1]
  rcases Nv g sz with ⟨c,g'⟩ | ⟨c,g'⟩
  ·rw [dFa c]
   show wpAny _ _ (pure (some true)) _ _ _
   refine wpAny_pure (wpAny_pure (h _ true sb1 ⟨_,es1,ep + 1,t1,g1,hex,rfl,hel1,nd1,mem1,by rw [s1];exact k1,l1.trans hl,by rw [s1,m1];exact g'⟩))
  ·rw [dTr c]
   obtain ⟨es2,t2,e2,k2,m2,l2,p2,f2⟩:=J8 k1 s1 g'.cyc (eY g'.lt)
   have s2:es2.size=es.size + 1:=by
    have:=p2.length_eq
    rw [aJ,aJ,s1] at this
    exact this
   show wpAny _ _ (_ >>= fun _=>storeSet a (relayAll t1 es1 (SetTable.grown (es.size + 1))).1 (relayAll t1 es1 (SetTable.grown (es.size + 1))).2.1 >>= fun _=>pure (some true)) _ _ _
   rw [e2]
   refine wpAny_bind (wpAny_pure ?_)
   refine wpAny_bind (wpAny_storeSet_of g1 rfl ?_ (by rw [s2];rw [s1] at hb1;exact hb1))
   have pm2:=p2.map keyOf
   refine wpAny_pure (wpAny_pure (h _ true (sb1.trans (Heap.SameBut.update _ a _)) ⟨_,es2,ep + 1 + 1,t2,Fe g1 rfl,hex,rfl,hel1.perm p2,pm2.nodup_iff.mpr nd1,fun x=>by rw [pm2.mem_iff,mem1],by rw [s2];exact k2,l2.trans (l1.trans hl),by rw [s2,m2];exact g'⟩))
end
end Stt
namespace Stt
open PySem PySem.Spec PyProof.Rows
section
variable {prog:Program} {w:World} {A:Around} {E:Value→Shared→Prop} {s:Shared}
theorem uU.keep {h h':Heap} {a:Addr} {ns:List Int} {led:Bool} (x:uU prog w h a ns led) (hk:∀ o,h.get? a=some o→h'.get? a=some o):uU prog w h' a ns led:=by
 obtain ⟨o,es,ep,t,ho,r⟩:=x
 exact ⟨o,es,ep,t,hk o ho,r⟩
theorem Ny {R:Result→Shared→Prop} {I S:Addr} {fp wr:List Addr} {P:Nat→Value→Prop} {St:Nat→Heap→Prop} {ns:List Int} {led:Bool} (W:Walks prog w A.in1 I fp wr ns.length P St) (hSf:S ∉ fp)
 (hP:∀ i v,P i v→∃ t,v = .int (ns.getD i 0) t) (hn:ns.length ≤ 300):∀ (k i:Nat) (s:Shared),ns.length - i=k→i ≤ ns.length→St i s.heap→uU prog w s.heap S (ns.take i) led →
  (∀ h' tk,(∀ b o,b ∉ S :: wr→s.heap.get? b=some o→h'.get? b=some o)→uU prog w h' S ns led→R (.ok (.ret .none)) { s with heap:=h',toks:=tk }) →
  codeAny (model prog w) A (.builtin "set.update.loop" ⟨[.ref S,.ref I],[]⟩) R s:=by
 have hSw:S ∉ wr:=fun z=>hSf (W.sub _ z)
 intro k
 induction k with
 | zero =>
  intro i s hk hi hst hS hR
  have hin:i=ns.length:=by omega
  subst hin
  rw [List.take_length] at hS
  refine codeAny_builtin F.entry_set_update_loop ?_
  rw [Around.under_plainId F.plain_set_update_loop _]
  show wpAny _ A.in1 (pyNext (.ref I) >>= _) _ _ s
  refine wpAny_bind (W.done s _ _ hst fun h' tk hk'=>?_)
  show wpAny _ A.in1 (ret Value.none) _ _ _
  exact wpAny_pure (hR h' tk (fun b o hb e=>hk' b o (fun z=>hb (aL _ z)) e) (hS.keep fun o e=>hk' S o hSw e))
 | succ k ih =>
  intro i s hk hi hst hS hR
  have hlt:i < ns.length:=by omega
  refine codeAny_builtin F.entry_set_update_loop ?_
  rw [Around.under_plainId F.plain_set_update_loop _]
  show wpAny _ A.in1 (pyNext (.ref I) >>= _) _ _ s
  refine wpAny_bind (W.item i s _ _ hlt hst fun v h' tk hv hst' hk'=>?_)
  obtain ⟨t,rfl⟩:=hP i v hv
  show wpAny _ A.in1 (holding [Value.int (ns.getD i 0) t] (setAdd S (.int (ns.getD i 0) t)) >>= _) _ _ _
  refine wpAny_bind (wpAny_holding ?_)
  unfold setAdd
  refine wpAny_holding (wpAny_bind ((intKind prog w).pyHash (k:=ns.getD i 0) (intKind_is _ _ _ _) ?_))
  have tk1:ns.take i++[ns.getD i 0]=ns.take (i + 1):=by
   rw [tu,bQ,aN hlt]
   rfl
  refine RV (s:={ s with heap:=h',toks:=tk + 1 }) (hS.keep fun o e=>hk' S o hSw e) (by rw [fB];omega) fun h2 b sb hS2=>?_
  rw [tk1] at hS2
  refine wpAny_pure ⟨plainId_quiet F.plain_set_update_loop _,ih (i + 1) _ (by omega) hlt (W.frame _ h' _ hst' fun b hb o e=>?_) hS2 fun h3 tk3 hk3 hS3=>?_⟩
  ·show h2.get? b=some o
   rw [sb.2 b (fun z=>hSf (by rw [← z];exact hb))]
   exact e
  ·refine hR h3 tk3 (fun b o hb e=>hk3 b o hb ?_) hS3
   show h2.get? b=some o
   rw [sb.2 b (fun z=>hb (by rw [z];exact aP))]
   exact hk' b o (fun z=>hb (aL _ z)) e
noncomputable def fresh0 (w:World):Obj:={ cls:=.type "set", dict:=none,data:=.set #[] 0 (.fresh 0 0 (!w.params.followText "set-order")) }
theorem Nz {h:Heap} {a:Addr} (e:h.get? a=some (fresh0 w)):uU prog w h a [] (!w.params.followText "set-order"):=by
 refine ⟨_,#[],0,_,e,⟨rfl,rfl,rfl⟩,rfl,?_,?_,?_,?_,rfl,?_⟩
 ·intro x hx;cases hx
 ·exact pW
 ·intro k;exact Iff.rfl
 ·exact ⟨fun i j hi _ _=>absurd hi (jr _),fun i hi=>absurd hi (jr _),rfl,rfl,rfl⟩
 ·exact .inl ⟨rfl,fu _⟩
theorem RW (x:Value) {Q₁:Value→Shared→Prop} (h:Q₁ (.ref s.heap.objs.size) { s with heap:=s.heap.push (fresh0 w) }) :
 codeAny (model prog w) A (.call (.builtin "set.__new__") ⟨[.type "set", x],[]⟩) (wants Q₁ E) s:=by
 refine codeAny_of_tree ?_
 show wpAny _ A.in1 (checkBuiltinCall "set.__new__" ⟨[.type "set", x],[]⟩ >>= fun _=>again (.builtin "set.__new__" ⟨[.type "set", x],[]⟩)) _ _ s
 refine wpAny_bind (wpAny_of_eq (F.newCall_set_1 x) (wpAny_pure ⟨plainId_quiet F.plain_set_new _,codeAny_builtin F.entry_set_new ?_⟩))
 rw [Around.under_plainId F.plain_set_new _]
 unfold Builtin.«set.__new__»
 unfold Builtin.Frozenset.newClass
 have hs1:=sub_set_self
 obtain ⟨hp,g,d,tk,os⟩:=s
 dsimp only at h ⊢
 wp_walk
 refine wpAny_askSetting (wpAny_pure ?_)
 dsimp only
 simp only [newObj]
 refine wpAny_bind (wpAny_alloc (wpAny_pure (wpAny_pure ?_)))
 exact h
end
end Stt
namespace Stt
open PySem PySem.Spec PyProof.Rows
section
variable {prog:Program} {w:World} {A:Around} {E:Value→Shared→Prop} {s:Shared}
theorem NK {l a:Addr} {items:Array Value} {ns:List Int} {R:Value→Shared→Prop} (hh:A.handled=none) (hl:s.heap.IsList l items) (hi:IntsAre items.toList ns) (hn:ns.length ≤ 300) (ha:s.heap.get? a=some (fresh0 w)) (hla:l ≠ a)
 (h:∀ h' tk,uU prog w h' a ns (!w.params.followText "set-order")→(∀ b o,b ≠ a→s.heap.get? b=some o→h'.get? b=some o)→R .none { s with heap:=h',toks:=tk }) :
 codeAny (model prog w) A (.call (.builtin "set.__init__") ⟨[.ref a,.ref l],[]⟩) (wants R E) s:=by
 have hT:s.TypeIs (.ref a) "set" := ⟨_,ha,rfl⟩
 refine codeAny_call_builtin F.called_set.init.plain F.entry_set_init (check_set_init_1 hT ?_)
 obtain ⟨⟨ocls,odict,odata,oslots⟩,hol,hcl,nl,hdl⟩:=id hl
 dsimp only at hcl hdl
 subst hcl hdl
 have q1:=F.sub_list_set
 have q2:=F.sub_list_frozenset
 have q3:(Value.type "list" == Value.type "dict")=false:=by decide
 have ha':s.heap.get? a=some { cls:=.type "set", dict:=none,data:=.set #[] 0 (.fresh 0 0 (!w.params.followText "set-order")) }:=ha
 unfold Builtin.«set.__init__» Builtin.Frozenset.updateFrom
 unfold noKeywords
 generalize hPI:pyIter=PI
 wp_walk
 subst hPI
 refine wpAny_pyIter_list hl (wpAny_bind (wpAny_runValue ?_))
 have e1:items.size=ns.length:=by
  have:=IntsAre.length hi
  rwa [aJ] at this
 have hlt:l < s.heap.objs.size:=Heap.lt_size hol
 have alt:a < s.heap.objs.size:=Heap.lt_size ha
 have W:=Walks.list (prog:=prog) (w:=w) (A:=A.in1.in1) (by simp [hh]) s.heap.objs.size l (bN hlt) items
 rw [e1] at W
 refine Ny W (S:=a) (ns:=ns) (led:=!w.params.followText "set-order") (by
  simp only [aR,d7,or_false,not_or]
  exact ⟨bN alt,fun z=>hla z.symm⟩) (fun i v hv=>IntsAre.int_at hi i v (by rw [cD];exact hv)) hn ns.length 0 _ (by omega) (fu _)
  ⟨⟨_,Heap.get?_push_size _ rfl,rfl,rfl⟩,hl.push _⟩ (by rw [jH];exact Nz (Heap.get?_push_of_some _ ha)) fun h' tk hk hS=>?_
 show wpAny _ _ _ _ _ _
 refine wpAny_pure (wpAny_pure (h h' tk hS fun b o hb e=>hk b o ?_ (Heap.get?_push_of_some _ e)))
 have blt:=Heap.lt_size e
 simp only [aR,d7,or_false,not_or]
 exact ⟨hb,bN blt⟩
theorem RX {l:Addr} {items:Array Value} {ns:List Int} {Q:Value→Shared→Prop} (hh:A.handled=none) (hl:s.heap.IsList l items) (hi:IntsAre items.toList ns) (hn:ns.length ≤ 300)
 (h:∀ h' tk,uU prog w h' s.heap.objs.size ns (!w.params.followText "set-order")→(∀ b o,s.heap.get? b=some o→h'.get? b=some o)→Q (.ref s.heap.objs.size) { s with heap:=h',toks:=tk }) :
 wpAny (model prog w) A (call (.type "set") [.ref l]) Q E s:=by
 obtain ⟨c,tl,hmro⟩:=F.called_set.mro
 have z1:=F.called_set.made
 have z2:=F.called_set.sub
 refine wpAny_call (codeAny_of_tree ?_)
 show wpAny _ _ (callAny (.type "set") _) _ _ _
 refine wpAny_pure ⟨Code.quiet_builtin _ (by decide +kernel),codeAny_builtin F.entry_type_call ?_⟩
 rw [Around.under_plain (weight_type_call_type "set" [.ref l] []) rfl]
 have z3:=F.called_set.notType
 have z4:=F.called_set.canCreate
 have z5:=F.typeCall_set_1 (.ref l)
 repeat any_goals first | assumption | wp_step
 refine codeAny_mono (RW (.ref l) (E:=E) (Q₁:=fun v s1=>v = .ref s.heap.objs.size∧s1 = { s with heap:=s.heap.push (fresh0 w) }) ⟨rfl,rfl⟩) fun r s1 hr=>?_
 cases r with
 | error e=>exact hr
 | ok fl =>
  cases fl with
  | ret v =>
   obtain ⟨rfl,rfl⟩:=hr
   have ha:(s.heap.push (fresh0 w)).get? s.heap.objs.size=some (fresh0 w):=Heap.get?_push_size _ rfl
   have hT:Shared.TypeIs { s with heap:=s.heap.push (fresh0 w) } (.ref s.heap.objs.size) "set" := ⟨_,ha,rfl⟩
   have y1:=F.called_set.init.lookup
   have y2:=F.called_set.init.bind (.ref s.heap.objs.size)
   repeat any_goals first | assumption | wp_step
   have hlt:l < s.heap.objs.size:=by
    obtain ⟨o,ho,_⟩:=hl
    exact Heap.lt_size ho
   refine codeAny_mono (NK (s:={ s with heap:=s.heap.push (fresh0 w) }) (E:=E) (R:=fun v s2=>v = .none∧∃ h' tk,s2 = { s with heap:=h',toks:=tk }∧uU prog w h' s.heap.objs.size ns (!w.params.followText "set-order")∧∀ b o,s.heap.get? b=some o→h'.get? b=some o) hh (hl.push _) hi hn ha (bN hlt) fun h' tk hS hk=>⟨rfl,h',tk,rfl,hS,fun b o e=>hk b o (bN (Heap.lt_size e)) (Heap.get?_push_of_some _ e)⟩) fun r2 s2 hr2=>?_
   cases r2 with
   | error e=>exact hr2
   | ok fl2 =>
    cases fl2 with
    | ret v2 =>
     obtain ⟨rfl,h',tk,rfl,hS,hk⟩:=hr2
     repeat any_goals first | assumption | wp_step
     exact h h' tk hS hk
    | _=>exact hr2.elim
  | _=>exact hr.elim
end
end Stt
namespace Stt
open PySem PySem.Spec PyProof.Rows
theorem Fg:Slot "set" "__iter__" "set.__iter__" := F.slot_set_iter
theorem NP:entryFor table "set.__iter__" = some Builtin.«frozenset.__iter__»:=entryFor_alias (id' := "frozenset.__iter__") (by rw [fastTable_eq_tree];kernel_rfl) (by decide +kernel) (by decide +kernel) (by rw [fastTable_eq_tree];kernel_rfl)
theorem rK:Slot "set_iterator" "__next__" "set_iterator.__next__" :=
 .of (owner := "set_iterator") (n := "__next__") (by rw [typeLookup_type,builtinLookup_eq_fast];kernel_rfl) (by decide +kernel) (by decide +kernel) (by decide +kernel) (.inl (by decide +kernel)) (by rw [isSubtype_type];kernel_rfl)
theorem Fi:entryFor table "set_iterator.__next__" = some Builtin.«set_iterator.__next__»:=entryFor_of_tree (by kernel_rfl)
theorem J_:Manifest.owners.lookup (String.ofList ['r','o','t','a','r','e','t','i','_','t','e','s'].reverse)=some Manifest.sig_set_iterator:=by kernel_rfl
theorem Fj (a:Value):argsOk "set_iterator.__next__" ⟨[a],[]⟩:=by
 unfold argsOk
 rw [signature?_of (id := "set_iterator.__next__") (n:=['_','_','t','x','e','n','_','_']) (o:=['r','o','t','a','r','e','t','i','_','t','e','s']) (by kernel_rfl) J_]
 kernel_rfl
section
variable {prog:Program} {w:World} {A:Around} {E:Value→Shared→Prop} {s:Shared}
theorem Kc {r:Addr} {Q:Bool→Shared→Prop} (hT:s.TypeIs (.ref r) "set") (h:Q false s):wpAny (model prog w) A (Builtin.List.listLengthHint (.ref r)) Q E s:=by
 unfold Builtin.List.listLengthHint
 refine wpAny_bind (wpAny_specialOf hT PySem.F.slot_set_len.lookup ?_)
 generalize hid:("set.__len__" : String)=id0
 wp_delta
 rw [show splitId id0=some ("set", "__len__") by subst hid;decide +kernel]
 subst hid
 refine wpAny_bind (wpAny_isInstance (T := "set") (b:=true) hT sub_set_self (wpAny_ite_split (fun z=>absurd z (by decide)) fun _=>?_))
 refine wpAny_ite_split (fun _=>wpAny_bind (wpAny_typeOf hT (wpAny_pure h))) fun z=>absurd (by decide +kernel) z
noncomputable def kj (prog:Program) (w:World) (h:Heap) (a:Addr) (es:Array (Int × Value)) (ep:Nat) (t:SetTable):Prop:=∃ o,h.get? a=some o∧o.ExactSet∧o.data = .set es ep t∧TOk t es.size∧t.led = !w.params.followText "set-order" ∧ es.size ≤ t.mask
theorem kj.fits {h:Heap} {a:Addr} {es:Array (Int × Value)} {ep:Nat} {t:SetTable} (x:kj prog w h a es ep t):t.fits es.size=true:=by
 obtain ⟨_,_,_,_,k,_,m⟩:=x
 exact fits_of k m
theorem kj.keep {h h':Heap} {a:Addr} {es:Array (Int × Value)} {ep:Nat} {t:SetTable} (x:kj prog w h a es ep t) (hk:∀ o,h.get? a=some o→h'.get? a=some o):kj prog w h' a es ep t:=by
 obtain ⟨o,ho,r⟩:=x
 exact ⟨o,hk o ho,r⟩
theorem kj.lt {h:Heap} {a:Addr} {es:Array (Int × Value)} {ep:Nat} {t:SetTable} (x:kj prog w h a es ep t):a < h.objs.size:=by
 obtain ⟨o,ho,r⟩:=x
 exact Heap.lt_size ho
theorem kj.type {a:Addr} {es:Array (Int × Value)} {ep:Nat} {t:SetTable} (x:kj prog w s.heap a es ep t):s.TypeIs (.ref a) "set" := by
 obtain ⟨o,ho,hx,_⟩:=x
 exact ⟨o,ho,hx.1⟩
theorem nF {a:Addr} {es:Array (Int × Value)} {ep:Nat} {t:SetTable} {Q:(Array (Int × Value) × Nat × SetTable)→Shared→Prop} (x:kj prog w s.heap a es ep t) (h:Q (es,ep,t) s):wpAny (model prog w) A (setState a) Q E s:=by
 have f:=x.fits
 obtain ⟨o,ho,_,hd,_⟩:=x
 exact wpAny_setState_of ho hd f h
theorem zG {Q:Bool→Shared→Prop} (h:Q (w.params.followText "set-order") s):wpAny (model prog w) A setsByText Q E s:=by
 unfold setsByText
 exact wpAny_bind (wpAny_askSetting (wpAny_pure h))
noncomputable def Bq (a:Addr) (slot i n ep:Nat):Obj:={ cls:=.type "set_iterator", data:=.fields #[.int slot 0,.int i 0,.ref a,.int n 0,.int ep 0] }
theorem NQ {a:Addr} {es:Array (Int × Value)} {ep:Nat} {t:SetTable} {Q:Value→Shared→Prop} (x:kj prog w s.heap a es ep t) (h:Q (.ref s.heap.objs.size) { s with heap:=s.heap.push (Bq a 0 0 es.size ep) }):wpAny (model prog w) A (pyIter (.ref a)) Q E s:=by
 have hT:=x.type
 have pl:t.plain=true:=by obtain ⟨_,_,_,_,k,_⟩:=x;exact k.pl
 refine wpAny_pyIter_slot hT Fg (wpAny_call_entry Fg hT NP ?_ (F.args_set_iter_1 _))
 unfold Builtin.«frozenset.__iter__» Builtin.Frozenset.slot0
 refine wpAny_bind (wpAny_bind (wpAny_pure (wpAny_pure ?_)))
 unfold Builtin.Frozenset.sizeOf setEntries
 refine wpAny_bind (wpAny_bind (wpAny_bind (nF x (wpAny_pure (wpAny_pure ?_)))))
 have dr:(!w.params.followText "set-order" && (!t.plain && decide (es.size > 1)))=false:=by rw [pl];simp
 refine wpAny_bind (m:=setDrawn a) ?_
 unfold setDrawn
 refine wpAny_bind (nF x (wpAny_bind (zG (wpAny_pure ?_))))
 show wpAny _ _ (if (!w.params.followText "set-order" && (!t.plain && decide (es.size > 1)))=true then _ else _) _ _ s
 rw [dr,if_neg aU]
 refine wpAny_bind (wpAny_pure ?_)
 unfold setEpoch
 refine wpAny_bind (wpAny_bind (nF x (wpAny_pure ?_)))
 show wpAny _ _ (newFields "set_iterator" [rawInt 0,rawInt 0,.ref a,rawInt es.size,rawInt ep] >>= _) _ _ s
 unfold newFields
 refine wpAny_bind (wpAny_newObj_type (wpAny_pure ⟨_,rfl, "set_iterator", _,⟨_,Heap.get?_push_size _ rfl,rfl⟩,rK.lookup,?_⟩))
 exact h
theorem Fo {α:Type} (next:Nat→Nat):∀ (fuel k:Nat) (l:List α) (out:Array α),l.length=fuel→∃ m:List α,(pickOrder.go next fuel k l out).toList=out.toList++m∧m.Perm l
 | 0,k,l,out,h=>⟨[],by rw [pickOrder.go,cR],by rw [oO.mp h]⟩
 | fuel + 1,k,l,out,h=>by
  rw [pickOrder.go]
  have lt:next k % l.length < l.length:=m_ _ (by omega)
  rw [aN lt]
  dsimp only
  obtain ⟨m,e,p⟩:=Fo next fuel (k + 1) (l.eraseIdx (next k % l.length)) (out.push l[next k % l.length]) (by rw [p7,if_pos lt];omega)
  refine ⟨l[next k % l.length] :: m,by rw [e,kJ,aW];rfl,?_⟩
  have q:=jL (a:=l[next k % l.length]) (l₁:=l.take (next k % l.length)) (l₂:=l.drop (next k % l.length + 1))
  rw [List.getElem_cons_drop,eG] at q
  rw [dW] at p
  exact (p.cons _).trans q.symm
theorem Hf {α:Type} (next:Nat→Nat) (xs:Array α):(pickOrder next xs).toList.Perm xs.toList:=by
 unfold pickOrder
 obtain ⟨m,e,p⟩:=Fo next xs.size 0 xs.toList #[] (by simp)
 rw [e]
 simpa using p
noncomputable def met (w:World) (a:Addr) (ep:Nat) (es:Array (Int × Value)):Array (Int × Value):=if w.params.followText "set-order" = true then pickOrder (w.params.setOrder a ep) es else es
theorem Br (a:Addr) (ep:Nat) (es:Array (Int × Value)):(met w a ep es).toList.Perm es.toList:=by
 unfold met
 split
 ·exact Hf _ _
 ·exact List.Perm.refl _
theorem uh (a:Addr) (ep:Nat) (es:Array (Int × Value)):(met w a ep es).size=es.size:=by
 have:=(Br (w:=w) a ep es).length_eq
 rwa [aJ,aJ] at this
noncomputable def sl0 (t:SetTable):Nat→Nat
 | 0=>0
 | k + 1=>t.place.getD k 0 + 1
noncomputable def slotAt (w:World) (t:SetTable) (i:Nat):Nat:=if w.params.followText "set-order" = true then 0 else sl0 t i
noncomputable def Bs (h:Heap) (I a:Addr) (slot i n ep:Nat):Prop:=h.get? I=some (Bq a slot i n ep)
theorem Bs.type {I a:Addr} {slot i n ep:Nat} (x:Bs s.heap I a slot i n ep):s.TypeIs (.ref I) "set_iterator" := ⟨_,x,rfl⟩
theorem below_at {t:SetTable} {n:Nat} (k:TOk t n) {i:Nat} (hi:i ≤ n):SetTable.below t.place (sl0 t i)=i:=by
 obtain ⟨b1,b2,b3⟩:=wA k.ris (sl0 t i)
 have sz:=k.sz
 cases i with
 | zero =>
  rcases m9 (SetTable.below t.place (sl0 t 0)) with z | z
  ·exact z
  ·have:=b2 0 (by omega) z
   exact absurd this (jr _)
 | succ m =>
  have hm:m < t.place.size:=by omega
  have g:sl0 t (m + 1)=t.place[m] + 1:=by
   show t.place.getD m 0 + 1=_
   simp [jY,hm]
  rw [g] at b1 b2 b3 ⊢
  rcases Nat.lt_trichotomy (SetTable.below t.place (t.place[m] + 1)) (m + 1) with z | z | z
  ·have:=b3 m hm (by omega)
   omega
  ·exact z
  ·have h1:=b2 (m + 1) (by omega) z
   have h2:=k.ris m (m + 1) hm (by omega) (by omega)
   omega
theorem Fp {a:Addr} {es:Array (Int × Value)} {ep:Nat} {t:SetTable} {i:Nat} {Q:Option (Value × Nat)→Shared→Prop} (x:kj prog w s.heap a es ep t) (hi:i ≤ es.size) (h:Q (((met w a ep es)[i]?).map fun e=>(e.2,slotAt w t (i + 1))) s) :
 wpAny (model prog w) A (setNext a (slotAt w t i) i ep) Q E s:=by
 have x0:=x
 obtain ⟨o,ho,hx,hd,k,hl,hm⟩:=x
 unfold setNext
 refine wpAny_bind (nF x0 (wpAny_bind (zG ?_)))
 cases c:w.params.followText "set-order" with
 | true =>
  rw [if_pos rfl]
  have sl:∀ j,slotAt w t j=0:=fun j=>by unfold slotAt;rw [if_pos c]
  rw [sl]
  rw [sl] at h
  have mt:met w a ep es=pickOrder (w.params.setOrder a ep) es:=by unfold met;rw [if_pos c]
  rw [mt] at h
  rw [if_neg (by simp)]
  refine wpAny_bind ?_
  unfold setWalk
  refine wpAny_bind (nF x0 (wpAny_bind (zG ?_)))
  rw [c,if_pos rfl]
  refine wpAny_bind (wpAny_askSetting (wpAny_pure (wpAny_pure ?_)))
  exact h
 | false =>
  rw [if_neg aU]
  have sl:∀ j,slotAt w t j=sl0 t j:=fun j=>by unfold slotAt;rw [if_neg (by rw [c];exact aU)]
  rw [sl]
  rw [sl] at h
  have mt:met w a ep es=es:=by unfold met;rw [if_neg (by rw [c];exact aU)]
  rw [mt] at h
  have dr:(!t.plain && decide (es.size > 1))=false:=by rw [k.pl];rfl
  show wpAny _ _ (if (!t.plain && decide (es.size > 1))=true then _ else _) _ _ s
  rw [dr,if_neg aU]
  refine wpAny_bind ?_
  rw [c] at hl
  have ld:(!t.led && !es.isEmpty)=false:=by rw [hl];rfl
  show wpAny _ _ (if (!t.led && !es.isEmpty)=true then _ else _) _ _ s
  rw [ld,if_neg aU]
  refine wpAny_pure ?_
  rw [below_at k hi]
  refine wpAny_pure ?_
  rcases gZ i es.size with z | z
  ·have z2:i < t.place.size:=by rw [k.sz];exact z
   rw [bU z] at h
   rw [bU z,bU z2]
   have g:sl0 t (i + 1)=t.place[i] + 1:=by
    show t.place.getD i 0 + 1=_
    simp [jY,z2]
   rw [g] at h
   exact h
  ·rw [fJ z] at h
   rw [fJ z]
   exact h
end
end Stt
namespace Stt
open PySem PySem.Spec PyProof.Rows
theorem Fq:Slot "set_iterator" "__iter__" "set_iterator.__iter__" :=
 .of (owner := "set_iterator") (n := "__iter__") (by rw [typeLookup_type,builtinLookup_eq_fast];kernel_rfl) (by decide +kernel) (by decide +kernel) (by decide +kernel) (.inl (by decide +kernel)) (by rw [isSubtype_type];kernel_rfl)
theorem NT:entryFor table "set_iterator.__iter__" = some Builtin.«dict_keyiterator.__iter__»:=entryFor_alias (id' := "dict_keyiterator.__iter__") (by rw [fastTable_eq_tree];kernel_rfl) (by decide +kernel) (by decide +kernel) (by rw [fastTable_eq_tree];kernel_rfl)
theorem NZ (a:Value):argsOk "set_iterator.__iter__" ⟨[a],[]⟩:=by
 unfold argsOk
 rw [signature?_of (id := "set_iterator.__iter__") (n:=['_','_','r','e','t','i','_','_']) (o:=['r','o','t','a','r','e','t','i','_','t','e','s']) (by kernel_rfl) J_]
 kernel_rfl
section
variable {prog:Program} {w:World} {A:Around} {E:Value→Shared→Prop} {s:Shared}
theorem kj.but {h h':Heap} {I a:Addr} {es:Array (Int × Value)} {ep:Nat} {t:SetTable} (x:kj prog w h a es ep t) (ne:a ≠ I) (sb:Heap.SameBut I h h'):kj prog w h' a es ep t:=x.keep fun o e=>by rw [sb.2 a ne];exact e
theorem N5 {I a:Addr} {es:Array (Int × Value)} {ep i:Nat} {t:SetTable} {e:Int × Value} {Q:Option Value→Shared→Prop} (hit:Bs s.heap I a (slotAt w t i) i es.size ep) (x:kj prog w s.heap a es ep t) (ne:a ≠ I) (he:(met w a ep es)[i]? = some e)
 (h:∀ h',Bs h' I a (slotAt w t (i + 1)) (i + 1) es.size ep→Heap.SameBut I s.heap h'→Q (some e.2) { s with heap:=h' }):wpAny (model prog w) A (pyNext (.ref I)) Q E s:=by
 have hi:i < es.size:=by
  rcases gZ i es.size with z | z
  ·exact z
  ·rw [fJ (by rw [uh];exact z)] at he;cases he
 have hT:=hit.type
 have hit':s.heap.get? I=some { cls:=.type "set_iterator", dict:=none,data:=.fields #[.int (slotAt w t i) 0,.int i 0,.ref a,.int es.size 0,.int ep 0],slots:=#[] }:=hit
 unfold pyNext
 refine wpAny_bind (wpAny_attempt (wpAny_callSpecial?_slot (name:=Str.ofString "__next__") hT rK (wpAny_call_entry rK hT Fi ?_ (Fj _))))
 unfold Builtin.«set_iterator.__next__»
 refine wpAny_bind (wpAny_pure ?_)
 refine wpAny_bind (wpAny_fieldsOf hit' rfl ?_)
 dsimp only
 unfold setEntries
 refine wpAny_bind (wpAny_bind (nF x (wpAny_pure ?_)))
 rw [if_neg (by simp)]
 rw [dO,dO,dO]
 refine wpAny_bind (Fp x (eY hi) ?_)
 rw [he]
 dsimp only [iD]
 refine wpAny_bind (wpAny_setField_rec hit' (by simp) fun h1 g1 sb1=>?_)
 refine wpAny_bind (wpAny_setField_rec g1 (by simp) fun h2 g2 sb2=>?_)
 refine wpAny_pure ⟨_,rfl,wpAny_pure (h h2 ?_ (sb1.trans sb2))⟩
 unfold Bs Bq
 rw [g2]
 rfl
theorem RZ {I a:Addr} {es:Array (Int × Value)} {ep:Nat} {t:SetTable} {Q:Option Value→Shared→Prop} (hh:A.handled=none) (hit:Bs s.heap I a (slotAt w t es.size) es.size es.size ep) (x:kj prog w s.heap a es ep t)
 (h:∀ h',(∀ b o,b ≠ I→s.heap.get? b=some o→h'.get? b=some o)→Q none { s with heap:=h' }):wpAny (model prog w) A (pyNext (.ref I)) Q E s:=by
 have hT:=hit.type
 have hit':s.heap.get? I=some { cls:=.type "set_iterator", dict:=none,data:=.fields #[.int (slotAt w t es.size) 0,.int es.size 0,.ref a,.int es.size 0,.int ep 0],slots:=#[] }:=hit
 unfold pyNext
 refine wpAny_bind (wpAny_attempt (wpAny_callSpecial?_slot (name:=Str.ofString "__next__") hT rK (wpAny_call_entry rK hT Fi ?_ (Fj _))))
 unfold Builtin.«set_iterator.__next__»
 refine wpAny_bind (wpAny_pure ?_)
 refine wpAny_bind (wpAny_fieldsOf hit' rfl ?_)
 dsimp only
 unfold setEntries
 refine wpAny_bind (wpAny_bind (nF x (wpAny_pure ?_)))
 rw [if_neg (by simp)]
 rw [dO,dO,dO]
 refine wpAny_bind (Fp x (aQ _) ?_)
 rw [fJ (by rw [uh];exact aQ _)]
 dsimp only [Option.map_none]
 refine wpAny_bind (wpAny_setField_rec hit' (by simp) fun h1 g1 sb1=>?_)
 show wpAny _ _ (newExc (.type "StopIteration") [] >>= _) _ _ _
 refine wpAny_bind ?_
 simp only [newTuple,newExc]
 refine wpAny_bind (wpAny_newObj_type ?_ (by size_fits))
 refine wpAny_bind (m:=firstArgMember _ _) (wpAny_of_eq (a:=Value.none) (by simp only [firstArgMember];rfl) ?_)
 refine wpAny_newObj_type ?_ (by size_fits)
 simp only [raiseNew]
 refine wpAny_bind (wpAny_handled ?_)
 rw [show A.in1.handled=none from hh]
 refine wpAny_bind (wpAny_pure (wpAny_throw ?_))
 refine wpAny_bind (wpAny_isInstance (b:=true) (T := "StopIteration") ⟨_,Heap.get?_push_size _ rfl,rfl⟩ isSubtype_stop ?_)
 refine wpAny_pure (h _ fun b o hb e=>?_)
 refine Heap.get?_push_of_some _ (Heap.get?_push_of_some _ ?_)
 rw [sb1.2 b hb]
 exact e
theorem R5 {I a:Addr} {slot i n ep:Nat} {Q:Value→Shared→Prop} (hit:Bs s.heap I a slot i n ep) (h:Q (.ref I) s):wpAny (model prog w) A (pyIter (.ref I)) Q E s:=by
 refine wpAny_pyIter_slot hit.type Fq (wpAny_call_entry Fq hit.type NT ?_ (NZ _))
 show wpAny _ _ (ret (.ref I)) _ _ s
 exact wpAny_pure ⟨_,rfl, "set_iterator", _,hit.type,rK.lookup,h⟩
theorem Ke (hh:A.handled=none) (I a:Addr) (ne:a ≠ I) (es:Array (Int × Value)) (ep:Nat) (t:SetTable) :
 Walks prog w A I [I,a] [I] es.size (fun i v=>∃ e,(met w a ep es)[i]? = some e∧v=e.2) (fun i h=>Bs h I a (slotAt w t i) i es.size ep∧kj prog w h a es ep t) where
 sub:=fun b hb=>by simp at hb;simp [hb]
 frame:=fun i h h' st hk=>⟨hk I (by simp) _ st.1,st.2.keep fun o e=>hk a (by simp) o e⟩
 item:=fun i s Q E hi st hQ=>by
  have hm:i < (met w a ep es).size:=by rw [uh];exact hi
  refine N5 st.1 st.2 ne (bU hm) fun h' it sb=>?_
  exact hQ _ h' s.toks ⟨_,bU hm,rfl⟩ ⟨it,st.2.but ne sb⟩ fun b o hb e=>by
   rw [sb.2 b (fun z=>hb (by simp [z]))]
   exact e
 done:=fun s Q E st hQ=>RZ hh st.1 st.2 fun h' hk=>hQ h' s.toks fun b o hb e=>hk b o (fun z=>hb (by simp [z])) e
 self:=fun i s Q E st hQ=>R5 st.1 hQ
theorem N6 {a:Addr} {es:Array (Int × Value)} {ep:Nat} {t:SetTable}:W.KdlSrc prog w "set" a a es.size (fun i v=>∃ e,(met w a ep es)[i]? = some e∧v=e.2) (fun h=>kj prog w h a es ep t) where
 type:=fun s hm=>hm.type
 there:=fun _ hm=>⟨hm.lt,hm.lt⟩
 keep:=fun _ _ hm hk=>hm.keep fun o e=>hk a (.inl rfl) o e
 notList:=by decide
 notTuple:=by decide
 hint:=fun _ _ _ _ hm hq=>Kc hm.type hq
 iter:=fun A s hh hm=>⟨_,_,(fun _ _ hq=>NQ hm hq),Ke hh _ a (bN hm.lt) es ep t,⟨by
  show (s.heap.push (Bq a 0 0 es.size ep)).get? s.heap.objs.size=some (Bq a (slotAt w t 0) 0 es.size ep)
  rw [show slotAt w t 0=0 by unfold slotAt;split <;> rfl]
  exact Heap.get?_push_size _ rfl,hm.keep fun o e=>Heap.get?_push_of_some _ e⟩⟩
end
end Stt
namespace XU
open PySem PySem.Spec PyProof.Rows L2 My D3
theorem Ft:∀ (l:List Value) (ns:List Int),l.length=ns.length→(∀ (j:Nat) (v:Value),l[j]? = some v→∃ n t,ns[j]? = some n∧v=Value.int n t)→IntsAre l ns
 | [],ns,h,_=>by rw [oO.mp h.symm];exact .nil
 | v :: l,[],h,_=>absurd h (Nat.succ_ne_zero _)
 | v :: l,n :: ns,h,g=>by
  obtain ⟨n',t,e1,rfl⟩:=g 0 v rfl
  cases e1
  exact .cons _ _ (Ft l ns (Nat.succ.inj h) fun j u hu=>g (j + 1) u hu)
section
variable {X:Cx} {fl:List Fl} {e:Expr} {pos pos2 p1 p2:Pos}
theorem Hg {pins:List (Addr × Obj)} {s:Shared} {σ:L2.St} {H:Hp} {Q:VK} {a:Addr} {ns:List Int} (hc:X.calm=true) (I:L2.Inv X pins σ H s) (hS:Stt.uU X.prog X.w s.heap a ns (!X.w.params.followText "set-order")) (hn:ns.length ≤ 300)
 (q:∀ l,H l=none→Q (.ref l) (upd H l (.lst ((j5 (ddI ns)).map V.int)))):wpAny (model X.prog X.w) X.A (call (.builtin "sorted") [.ref a]) (EP X pins σ Q) X.xe s:=by
 obtain ⟨o,es,ep,t,ho,hex,hd,hel,nd,mem,kt,hl,g⟩:=hS
 have sA:Stt.kj X.prog X.w s.heap a es ep t:=⟨o,ho,hex,hd,kt,hl,eY g.lt⟩
 have pm:=Stt.Br (w:=X.w) a ep es
 have hez:es.size ≤ 300:=by
  have:=List.Nodup.length_le_of_subset nd (fun x hx=>(mem x).mp hx)
  rw [aH,aJ] at this
  omega
 have isn:∀ e ∈ (Stt.met X.w a ep es).toList,∃ t,e.2 = .int (Stt.keyOf e) t:=fun e he=>Stt.Fd hel (pm.mem_iff.mp he)
 have kp:((Stt.met X.w a ep es).toList.map Stt.keyOf).Perm (ddI ns):=(nj ((pm.map _).nodup_iff.mpr nd) (vZ ns)).mpr fun k=>by rw [(pm.map _).mem_iff,mem,zm]
 refine Calls.call_function_entry kind_sorted plain_sorted entry_sorted (args_sorted1 _) ?_
 unfold Builtin.«sorted»
 refine wpAny_bind (m:=checkCount "sorted" 1 1 _) (wpAny_pure ?_)
 refine wpAny_bind (PySem.W.kdu_collect (A:=X.A.in1) (Stt.N6 (prog:=X.prog) (w:=X.w) (a:=a) (es:=es) (ep:=ep) (t:=t)) (I.ok.hd hc) sA (bV hez (by decide)) fun h' tk acc hk hacc=>?_)
 have hl':acc.toList.length=es.size:=by rw [aJ,hacc.1]
 have mz:(Stt.met X.w a ep es).toList.length=es.size:=by rw [aJ,Stt.uh]
 have hI:IntsAre acc.toList ((Stt.met X.w a ep es).toList.map Stt.keyOf):=Ft _ _ (by rw [hl',aH,mz]) fun j v hv=>by
  obtain ⟨e,he,rfl⟩:=hacc.2 j v (by rw [← cD];exact hv)
  have he:(Stt.met X.w a ep es).toList[j]? = some e:=by rw [cD];exact he
  obtain ⟨t,ht⟩:=isn e (cW he)
  exact ⟨Stt.keyOf e,t,by rw [bf,he];rfl,ht⟩
 generalize (Stt.met X.w a ep es).toList.map Stt.keyOf=is at hI kp
 have I1:L2.Inv X pins σ H { s with heap:=h',toks:=tk }:=I.kept hk
 refine wpAny_bind (wpAny_newList ?_ (by rw [hl'];exact bV hez (by decide)))
 have hoL:(h'.push (seqObj "list" acc.toList.toArray 0)).get? h'.objs.size=some (seqObj "list" acc.toList.toArray 0):=Heap.get?_push_size _ rfl
 show wpAny _ _ _ _ _ { s with heap:=h'.push (seqObj "list" acc.toList.toArray 0),toks:=tk }
 refine wpAny_bind (wpAny_holding (wpAny_call_entry slot_list_sort ⟨_,hoL,rfl⟩ entry_list_sort (Srt.G8 hoL hI (by rw [hl'];omega) fun out ns' a1 a2 a3=>⟨_,rfl,?_⟩) (args_list_sort _)))
 refine wpAny_pure ⟨_,rfl,?_⟩
 obtain rfl:=rC ((a2.trans kp).trans (iu _).symm) a3 (nU _)
 obtain ⟨e,he⟩:=sortedHeap_at (out:=out) hoL
 have hn':H h'.objs.size=none:=I1.hok.fresh (aQ _)
 have ll:(j5 (ddI ns)).length ≤ 300:=by
  rw [(iu _).length_eq,← kp.length_eq]
  have:=hI.length
  omega
 have I2:=I1.laid (h':=sortedHeap (h'.push (seqObj "list" acc.toList.toArray 0)) h'.objs.size acc.toList out) (t':=tk) (a:=h'.objs.size) (o:=.lst ((j5 (ddI ns)).map V.int)) (fun b u e=>by
  have hlt:=Heap.lt_size e
  rw [sortedHeap_old (bN hlt) (by rw [size_push'];exact nO hlt)]
  exact Heap.get?_push_of_some _ e) (aQ _)
  ⟨by rw [aH];exact bV ll (by decide),out.toList,e,D3.lH a1,by simpa [seqObj] using he⟩
 exact ⟨.ref _,_,I2,rfl,q _ hn'⟩
noncomputable def tSS (K:PySem.W.Frag) (t:TA):TE:=fun σ H Q=>t σ H fun vs H1=>∃ (l:Addr) (ns:List Int),vs=[.ref l]∧SqL K H1 l (ns.map V.int)∧ns.length ≤ 300∧∀ q,H1 q=none→Q (.ref q) (upd H1 q (.lst ((j5 (ddI ns)).map V.int)))
theorem Dk {t:TA} (hc:X.calm=true) (hg1:Gl X "sorted") (hm1:X.mg "sorted" = none) (hg2:Gl X "set") (hm2:X.mg "set" = none) (ha:PA X [e] t)
 (h1:starEach [Expr.Call (.Name "set" p2) [e] [] pos2] X.env=(false,eval (Expr.Call (.Name "set" p2) [e] [] pos2) X.env) :: starEach [] X.env:=by rfl) (h2:starEach [e] X.env=(false,eval e X.env) :: starEach [] X.env:=by rfl)
 (h3:(backTo pos (starEach [] X.env)).any (·.1)=false:=by rfl) (h4:(backTo pos2 (starEach [] X.env)).any (·.1)=false:=by rfl) :
 PE X (.Call (.Name "sorted" p1) [.Call (.Name "set" p2) [e] [] pos2] [] pos) (tSS X.K t):=by
 intro pins s σ H Q I h
 refine wpAny_Call_Name_kw (qb I hg1 hm1 (show bootBuiltins "sorted" = some (.builtin "sorted") by decide +kernel) ?_ (by decide) (by decide))
 refine callWith_builtin1 ?_ h1 h3
 rw [h1]
 show wpAny _ _ (spliced ((false,eval (Expr.Call (.Name "set" p2) [e] [] pos2) X.env) :: backTo pos (starEach [] X.env))) _ _ s
 refine Calls.spliced_cons ?_
 refine wpAny_Call_Name_kw (qb I hg2 hm2 (show bootBuiltins "set" = some (.type "set") by decide +kernel) ?_ (by decide) (by decide))
 refine callWith_type1 (thn (ha pos2 pins s σ H _ I h) fun us s1 ⟨vs,H1,I1,r1,q1⟩=>?_) h2 h4
 obtain ⟨l,ns,rfl,hx,hn,q⟩:=q1
 obtain ⟨u,rfl,rx⟩:=vals1 r1
 cases rx
 obtain ⟨its,rvs,pl,hz⟩:=I1.list hx
 have hi:=qQ rvs
 refine Stt.RX (I1.ok.hd hc) pl.isList (by simpa using hi) hn fun h' tk hS hk=>?_
 refine Calls.spliced_nil ?_
 exact Hg hc (I1.kept hk) hS hn q
theorem Dm {fa:FA} (hc:X.calm=true) (ha:DB X fl .P [e] fa) (hg1:Gl X "sorted") (hm1:X.mg "sorted" = none) (hg2:Gl X "set") (hm2:X.mg "set" = none)
 (h1:starEach [Expr.Call (.Name "set" p2) [e] [] pos2] X.env=(false,eval (Expr.Call (.Name "set" p2) [e] [] pos2) X.env) :: starEach [] X.env:=by rfl) (h2:starEach [e] X.env=(false,eval e X.env) :: starEach [] X.env:=by rfl)
 (h3:(backTo pos (starEach [] X.env)).any (·.1)=false:=by rfl) (h4:(backTo pos2 (starEach [] X.env)).any (·.1)=false:=by rfl) :
 DE X fl .FC (.Call (.Name "sorted" p1) [.Call (.Name "set" p2) [e] [] pos2] [] pos) (dCall uJ fa):=PE.imp (Dk hc hg1 hm1 hg2 hm2 ha h1 h2 h3 h4) fun σ H Q h=>by
 obtain ⟨G,ow,δ,d,R,hf,q⟩:=h
 obtain ⟨ds,e1,e2⟩:=bind1 hf
 refine ⟨G,ow,δ,ds,R,e1,fun vs H' s r'=>?_⟩
 unfold uJ at e2
 split at e2
 ·next l =>
  cases e3:mD l with
  | none=>rw [e3] at e2;cases e2
  | some ns =>
   rw [e3,aK] at e2
   by_cases h64:ns.length ≤ 300
   ·rw [if_pos h64] at e2
    cases e2
    cases r' with
    | cons r1 r2 =>
     cases r2
     obtain ⟨a,ys,rfl,hx,hr⟩:=r1.lstE
     obtain rfl:=oX e3 hr
     exact ⟨a,ns,rfl,hx,h64,fun l hn=>q _ _ (s.trans (fX hn _)) (.inr ⟨_,_,_,rfl,rfl,s.free hn,fG,pG _⟩)⟩
   ·rw [if_neg h64] at e2;cases e2
 ·cases e2
end
end XU
namespace L2
open PySem PySem.Spec PyProof.Rows
section
variable {κ:Type} [DecidableEq κ]
noncomputable def um (kvs:List (κ × V)) (k:κ):Option V:=(kvs.find? fun kv=>decide (kv.1=k)).map (·.2)
noncomputable def putK (kvs:List (κ × V)) (k:κ) (v:V):List (κ × V) :=
 if (kvs.any fun kv=>decide (kv.1=k))=true then kvs.map (fun kv=>if kv.1=k then (kv.1,v) else kv) else kvs++[(k,v)]
theorem uo {p:κ × V} {r:List (κ × V)} {k:κ} (e:p.1=k):um (p :: r) k=some p.2:=by simp [um,gQ,e]
theorem uq {p:κ × V} {r:List (κ × V)} {k:κ} (e:¬ p.1=k):um (p :: r) k=um r k:=by simp [um,gQ,e]
theorem Bt (k:κ):∀ kvs:List (κ × V),(kvs.any fun kv=>decide (kv.1=k))=(um kvs k).isSome
 | []=>rfl
 | p :: r=>by
  rw [lU]
  by_cases e:p.1=k
  ·simp only [uo e,dTr e,Bool.true_or,Option.isSome_some]
  ·rw [uq e,dFa e,Bool.false_or];exact Bt k r
theorem uO (kvs:List (κ × V)) (k:κ) (v:V):(putK kvs k v).length ≤ kvs.length + 1:=by
 unfold putK
 split
 ·rw [aH];omega
 ·rw [bB,bK,jt];omega
theorem yF.isSome_eq {o:Option V} {u:Option Value} (r:yF o u):o.isSome=u.isSome:=by
 cases o with
 | none=>cases u with
  | none=>rfl
  | some _=>exact (show False from r).elim
 | some _=>cases u with
  | none=>exact (show False from r).elim
  | some _=>rfl
theorem yF.getD {o:Option V} {u:Option Value} {d:V} {d':Value} (r:yF o u) (rd:RelV d d'):RelV (o.getD d) (u.getD d'):=by
 cases o with
 | none=>cases u with
  | none=>exact rd
  | some _=>exact (show False from r).elim
 | some _=>cases u with
  | none=>exact (show False from r).elim
  | some _=>exact r
theorem KV.val {kvs:List (κ × V)} {vs:List (κ × Value)} (r:KV kvs vs) (k:κ):yF (um kvs k) (valueAt vs k):=by
 unfold KV at r
 induction r with
 | nil=>exact True.intro
 | @cons p q ps qs h t ih =>
  obtain ⟨h1,h2⟩:=h
  by_cases e:p.1=k
  ·have e':q.1=k:=h1.symm.trans e
   have b:valueAt (q :: qs) k=some q.2:=by simp [valueAt,gQ,e']
   rw [uo e,b];exact h2
  ·have e':¬ q.1=k:=fun z=>e (h1.trans z)
   have b:valueAt (q :: qs) k=valueAt qs k:=by simp [valueAt,gQ,e']
   rw [uq e,b];exact ih
theorem KV.any {kvs:List (κ × V)} {vs:List (κ × Value)} (r:KV kvs vs) (k:κ):(kvs.any fun kv=>decide (kv.1=k))=vs.any fun kv=>decide (kv.1=k):=by
 unfold KV at r
 induction r with
 | nil=>rfl
 | cons h t ih=>rw [lU,lU,ih,h.1]
theorem KV.repl {kvs:List (κ × V)} {vs:List (κ × Value)} (r:KV kvs vs) (k:κ) {y:V} {u:Value} (ry:RelV y u) :
 KV (kvs.map fun kv=>if kv.1=k then (kv.1,y) else kv) (vs.map fun kv=>if kv.1=k then (kv.1,u) else kv):=by
 unfold KV at r ⊢
 induction r with
 | nil=>exact .nil
 | @cons p q ps qs h t ih =>
  rw [bM,bM]
  refine .cons ?_ ih
  obtain ⟨h1,h2⟩:=h
  by_cases e:p.1=k
  ·rw [if_pos e,if_pos (h1.symm.trans e)];exact ⟨h1,ry⟩
  ·rw [if_neg e,if_neg (fun z=>e (h1.trans z))];exact ⟨h1,h2⟩
theorem KV.put {kvs:List (κ × V)} {vs:List (κ × Value)} (r:KV kvs vs) (k:κ) {y:V} {u:Value} (ry:RelV y u):KV (putK kvs k y) (stored vs k u):=by
 unfold putK stored
 rw [r.any k]
 by_cases e:(vs.any fun kv=>decide (kv.1=k))=true
 ·rw [if_pos e,if_pos e];exact r.repl k ry
 ·rw [if_neg e,if_neg e];exact Paired.snoc r ⟨rfl,ry⟩
theorem KV.keys {kvs:List (κ × V)} {vs:List (κ × Value)} (r:KV kvs vs):kvs.map (·.1)=vs.map (·.1):=by
 unfold KV at r
 induction r with
 | nil=>rfl
 | cons h t ih=>rw [bM,bM,ih,h.1]
theorem KV.length {kvs:List (κ × V)} {vs:List (κ × Value)} (r:KV kvs vs):kvs.length=vs.length:=Paired.length r
end
theorem Kf {P:Program} {w:World} {k:Key} {u:Value} (r:RelV (kV k) u):(dH P w).is k u=true:=by
 cases k with
 | inl i=>obtain ⟨t,e⟩:=(show ∃ t,u=Value.int i t from r);subst e;exact Ac P w i t
 | inr x=>obtain ⟨t,e⟩:=(show ∃ t,u=Value.str x t from r);subst e;exact Ad P w x t
theorem yw {P:Program} {w:World}:∀ {ks:List Key} {us:List Value},Vals (ks.map kV) us→ItemsAre (dH P w) ks us
 | [],_,r=>by rw [o7] at r;cases r;exact .nil
 | k :: ks,_,r=>by
  rw [bM] at r
  cases r with
  | cons h t=>exact .cons (Kf h) (yw t)
noncomputable abbrev KT (H:Hp):List (List Key × V)→List (List Key × Addr × Value)→Prop:=Paired fun p q=>p.1=q.1∧H q.2.1=some (.tup (p.1.map kV))∧RelV p.2 q.2.2
theorem KT.val {H:Hp} {kvs:List (List Key × V)} {xs:List (List Key × Addr × Value)} (r:KT H kvs xs) (k:List Key):yF (um kvs k) ((atKey xs k).map (·.2)):=by
 induction r with
 | nil=>exact True.intro
 | @cons p q ps qs h t ih =>
  obtain ⟨h1,_,h2⟩:=h
  by_cases e:p.1=k
  ·have e':q.1=k:=h1.symm.trans e
   have b:atKey (q :: qs) k=some q.2:=by simp [atKey,gQ,e']
   rw [uo e,b];exact h2
  ·have e':¬ q.1=k:=fun z=>e (h1.trans z)
   have b:atKey (q :: qs) k=atKey qs k:=by simp [atKey,gQ,e']
   rw [uq e,b];exact ih
theorem KT.repl {H:Hp} {kvs:List (List Key × V)} {xs:List (List Key × Addr × Value)} (r:KT H kvs xs) (k:List Key) {y:V} {u:Value} (ry:RelV y u) :
 KT H (kvs.map fun kv=>if kv.1=k then (kv.1,y) else kv) (xs.map (putAt k u)):=by
 induction r with
 | nil=>exact .nil
 | @cons p q ps qs h t ih =>
  rw [bM,bM]
  refine .cons ?_ ih
  obtain ⟨h1,h2,h3⟩:=h
  unfold putAt
  by_cases e:p.1=k
  ·rw [if_pos e,if_pos (h1.symm.trans e)];exact ⟨h1,h2,ry⟩
  ·rw [if_neg e,if_neg (fun z=>e (h1.trans z))];exact ⟨h1,h2,h3⟩
theorem KT.put {H:Hp} {kvs:List (List Key × V)} {xs:List (List Key × Addr × Value)} (r:KT H kvs xs) (k:List Key) {b:Addr} {y:V} {u:Value} (hb:H b=some (.tup (k.map kV))) (ry:RelV y u) :
 KT H (putK kvs k y) (storedH xs k b u):=by
 have e:(kvs.any fun kv=>decide (kv.1=k))=(atKey xs k).isSome:=by
  rw [Bt,(r.val k).isSome_eq,tG]
 unfold putK storedH
 rw [e]
 by_cases q:(atKey xs k).isSome=true
 ·rw [if_pos q,if_pos q];exact r.repl k ry
 ·rw [if_neg q,if_neg q];exact Paired.snoc r ⟨rfl,hb,ry⟩
theorem KT.keeps {H H':Hp} {kvs:List (List Key × V)} {xs:List (List Key × Addr × Value)} (r:KT H kvs xs) (ht:∀ b ys,H b=some (.tup ys)→H' b=some (.tup ys)):KT H' kvs xs :=
 Paired.mapP r fun _ _ z=>⟨z.1,ht _ _ z.2.1,z.2.2⟩
section
variable {P:Program} {w:World} {H:Hp} {h:Heap} {a:Addr}
theorem P_ {u:HO} (ok:HOk P w H h) (e:Rd H a u):iI P w H h a u:=e.ok ok
theorem Fv {kvs:List (Key × V)} (ok:HOk P w H h) (e:Rd H a (.dK kvs)):kvs.length ≤ sizeLine∧(a == sysModules)=false∧∃ vs,KV kvs vs∧h.DictOf (dH P w) a vs :=
 show iI P w H h a (.dK kvs) from P_ ok e
theorem Vr {kvs:List (Key × V)} (ok:HOk P w H h) (e:H a=some (.dK kvs)):kvs.length ≤ sizeLine∧(a == sysModules)=false∧∃ vs,KV kvs vs∧h.DictOf (dH P w) a vs:=Fv ok (.inl e)
theorem Dp {ks:List Key} (ok:HOk P w H h) (e:H a=some (.tup (ks.map kV))):(tupleKind (dH P w)).is h ks a:=by
 obtain ⟨_,its,r,o,h1,h2,n,h3⟩:=(show iI P w H h a (.tup (ks.map kV)) from ok a _ e)
 exact ⟨o,its.toArray,n,h1,h2,h3,by simpa using yw r⟩
theorem Qa {kvs:List (List Key × V)} (ok:HOk P w H h) (e:Rd H a (.dT kvs)):kvs.length ≤ sizeLine∧(a == sysModules)=false ∧
 ∃ xs,KT H kvs xs∧h.DictOfH (tupleKind (dH P w)) a xs:=by
 obtain ⟨z,y,xs,r,o,es,ep,h1,h2,h3,h4,h5⟩:=(show iI P w H h a (.dT kvs) from P_ ok e)
 refine ⟨z,y,xs,r,o,es,ep,h1,h2,h3,h4,fun x hx=>?_,h5⟩
 have all:∀ {l:List (List Key × V)} {m:List (List Key × Addr × Value)},KT H l m→∀ x ∈ m,(tupleKind (dH P w)).is h x.1 x.2.1:=by
  intro l m q
  induction q with
  | nil=>intro x hx;exact nomatch hx
  | @cons p q ps qs hq t ih =>
   intro x hx
   rcases aR.mp hx with e | hx
   ·subst e
    exact Dp ok (by rw [← hq.1];exact hq.2.1)
   ·exact ih x hx
 exact all r x hx
theorem Vs {kvs:List (List Key × V)} (ok:HOk P w H h) (e:H a=some (.dT kvs)):kvs.length ≤ sizeLine∧(a == sysModules)=false ∧
 ∃ xs,KT H kvs xs∧h.DictOfH (tupleKind (dH P w)) a xs:=Qa ok (.inl e)
end
noncomputable def R6 (H:Hp) (a:Addr) (y:V) (r:Option V):Prop :=
 (∃ kvs k,Rd H a (.dK kvs)∧y=kV k∧r=um kvs k)∨∃ kvs k b,Rd H a (.dT kvs)∧y = .ref b∧H b=some (.tup (k.map kV))∧r=um kvs k
noncomputable def Hh (H:Hp) (a:Addr) (y v:V) (H':Hp):Prop :=
 (∃ kvs k,H a=some (.dK kvs)∧y=kV k∧kvs.length < sizeLine∧H'=upd H a (.dK (putK kvs k v))) ∨
 ∃ kvs k b,H a=some (.dT kvs)∧y = .ref b∧H b=some (.tup (k.map kV))∧kvs.length < sizeLine∧H'=upd H a (.dT (putK kvs k v))
theorem R6.t {H:Hp} {a b:Addr} {kvs:List (List Key × V)} {k:List Key} (e:H a=some (.dT kvs)) (eb:H b=some (.tup (k.map kV))):R6 H a (.ref b) (um kvs k):=.inr ⟨kvs,k,b,.inl e,rfl,eb,rfl⟩
theorem Hh.k {H:Hp} {a:Addr} {kvs:List (Key × V)} {k:Key} {v:V} (e:H a=some (.dK kvs)) (hl:kvs.length < sizeLine):Hh H a (kV k) v (upd H a (.dK (putK kvs k v))):=.inl ⟨kvs,k,e,rfl,hl,rfl⟩
theorem Hh.t {H:Hp} {a b:Addr} {kvs:List (List Key × V)} {k:List Key} {v:V} (e:H a=some (.dT kvs)) (eb:H b=some (.tup (k.map kV))) (hl:kvs.length < sizeLine) :
 Hh H a (.ref b) v (upd H a (.dT (putK kvs k v))):=.inr ⟨kvs,k,b,e,rfl,eb,hl,rfl⟩
section
variable {X:Cx} {pins:List (Addr × Obj)} {σ:St} {H:Hp} {s:Shared} {a:Addr} {y v:V} {u r:Value} {o:Option V} {A:Around} {E:Value→Shared→Prop}
theorem Xm {Q:Value→Shared→Prop} (hu:A.units + 1 < cLine) (I:Inv X pins σ H s) (g:R6 H a y o) (ry:RelV y u) (h:∀ s',Inv X pins σ H s'→Q (.bool o.isSome) s') :
 wpAny (model X.prog X.w) A (compareOp .In u (.ref a)) Q E s:=by
 rcases g with ⟨kvs,k,e,ey,l⟩ | ⟨kvs,k,b,e,ey,eb,l⟩
 ·subst ey
  obtain ⟨z,hd,vs,rel,dd⟩:=Fv I.hok e
  refine wpAny_in_of (Kf ry) hd dd.mapOf ?_
  rw [← (rel.val k).isSome_eq,← l]
  exact h _ (I.tok _)
 ·subst ey
  cases (show u=Value.ref b from ry)
  obtain ⟨z,hd,xs,rel,dd⟩:=Qa I.hok e
  refine wpAny_in_heap (tupleKind_room_in1 hu) (Dp I.hok eb) hd dd ?_
  have q:=(rel.val k).isSome_eq
  rw [tG] at q
  rw [← q,← l]
  exact h _ (I.tok _)
theorem Fw {h':Heap} {t':Nat} {ob:HO} (I:Inv X pins σ H s) (mu:Mut (H a)) (hs:Heap.SameBut a s.heap h') (he:∃ q,h'.get? a=some q) (new:iI X.prog X.w (upd H a ob) h' a ob) :
 Inv X pins σ (upd H a ob) { s with heap:=h',toks:=t' } :=
 I.write (x:=a) (e:=a) mu (.inl rfl) (fun b q hb z=>(hs.2 b hb).trans z) he new
theorem R7 {P:Program} {w:World} {H':Hp} {h':Heap} {kvs:List (Key × V)} {vs:List (Key × Value)} (z:kvs.length ≤ sizeLine) (hd:(a == sysModules)=false) (rel:KV kvs vs) (dd:h'.DictOf (dH P w) a vs) :
 iI P w H' h' a (.dK kvs):=⟨z,hd,vs,rel,dd⟩
theorem Hi {H':Hp} {Q:Unit→Shared→Prop} (hu:A.units + 1 < cLine) (I:Inv X pins σ H s) (g:Hh H a y v H') (ry:RelV y u) (rv:RelV v r) (h:∀ s',Inv X pins σ H' s'→Q () s') :
 wpAny (model X.prog X.w) A (setItem (.ref a) u r) Q E s:=by
 rcases g with ⟨kvs,k,e,ey,l,eH⟩ | ⟨kvs,k,b,e,ey,eb,l,eH⟩
 ·subst ey eH
  obtain ⟨z,hd,vs,rel,dd⟩:=Vr I.hok e
  have hz:vs.length ≤ sizeLine:=by rw [← rel.length];exact z
  have hl:(putK kvs k v).length ≤ sizeLine:=by have:=uO kvs k v;omega
  refine wpAny_setItem_pairs (hsz:=hz) (Kf ry) dd fun h' dd' hs=>h _ ?_
  have he:∃ q,h'.get? a=some q:=let ⟨q,_,_,hq,_⟩:=dd';⟨q,hq⟩
  exact Fw I (by rw [e];exact True.intro) hs he (R7 hl hd (rel.put k rv) dd')
 ·subst ey eH
  cases (show u=Value.ref b from ry)
  obtain ⟨z,hd,xs,rel,dd⟩:=Vs I.hok e
  have hz:xs.length ≤ sizeLine:=by rw [← Paired.length rel];exact z
  have hl:(putK kvs k v).length ≤ sizeLine:=by have:=uO kvs k v;omega
  refine wpAny_setItem_heap (hsz:=hz) (tupleKind_room_in1 hu) (Dp I.hok eb) dd fun h' dd' hs=>h _ ?_
  obtain ⟨q,es,ep,hq,h2,h3,h4,_,h5⟩:=dd'
  refine Fw I (by rw [e];exact True.intro) hs ⟨q,hq⟩ ⟨hl,hd,_,(rel.put k eb rv).keeps fun c ys ec=>?_,q,es,ep,hq,h2,h3,h4,h5⟩
  rw [dU (DR ec e (fun z=>nomatch z))]
  exact ec
end
section
variable {X:Cx} {pins:List (Addr × Obj)} {σ:St} {H:Hp} {s:Shared} {a:Addr} {kvs:List (Key × V)} {k:Key} {u:Value} {A:Around} {E:Value→Shared→Prop}
end
section
variable {X:Cx} {o i e value:Expr} {pos pos' tpos:Pos} {td ty tv:TE}
end
section
variable {X:Cx} {pos:Pos}
end
structure M1 (X:Cx) (o:Expr) (m:Str) (apos:Pos) (e:Expr) (cpos:Pos):Prop where
 base:attributeBase o m X.env (eval o X.env)=eval o X.env
 few:((backTo cpos (starEach [e] X.env)).all (fun x=>!x.1) && (backToKw cpos (keywordEach [] X.env)).all (fun x=>x.1.isSome)
  && decide (([e]:List Expr).length + ([]:List Keyword).length + (if ([]:List Keyword).isEmpty then 0 else 1) < 30))=true
 line:(apos.endLine == cpos.line)=true
 trees:backTo cpos (starEach [e] X.env)=[(false,eval e X.env)]
structure M2 (X:Cx) (o:Expr) (m:Str) (apos:Pos) (e f:Expr) (cpos:Pos):Prop where
 base:attributeBase o m X.env (eval o X.env)=eval o X.env
 few:((backTo cpos (starEach [e,f] X.env)).all (fun x=>!x.1) && (backToKw cpos (keywordEach [] X.env)).all (fun x=>x.1.isSome)
  && decide (([e,f]:List Expr).length + ([]:List Keyword).length + (if ([]:List Keyword).isEmpty then 0 else 1) < 30))=true
 line:(apos.endLine == cpos.line)=true
 trees:backTo cpos (starEach [e,f] X.env)=[(false,eval e X.env),(false,eval f X.env)]
section
variable {X:Cx} {pins:List (Addr × Obj)} {σ:St} {H:Hp} {s:Shared} {a:Addr} {y d:V} {u r:Value} {o:Option V} {A:Around} {E:Value→Shared→Prop}
end
section
variable {X:Cx} {o e f:Expr} {apos cpos:Pos} {td ty tx:TE}
end
section
variable {X:Cx} {pins:List (Addr × Obj)} {σ:St} {H:Hp} {s:Shared} {a:Addr} {kvs:List (Key × V)} {A:Around} {E:Value→Shared→Prop}
end
section
variable {X:Cx} {pins:List (Addr × Obj)} {σ:St} {H:Hp} {s:Shared} {a:Addr} {y:V} {u:Value} {A:Around} {E:Value→Shared→Prop}
end
section
variable {κ:Type} [DecidableEq κ]
end
end L2
namespace XK
open PySem PySem.Spec PyProof.Rows L2 My D3
section
variable {K:PySem.W.Frag} {H:Hp}
end
section
variable {X:Cx} {fl:List Fl} {e a b c ke:Expr} {f fa fb fc fk:FE} {pos:Pos}
theorem Fx:∀ (l:List Value) (ns:List Int),l.length=ns.length→(∀ (j:Nat) (v:Value),l[j]? = some v→∃ n t,ns[j]? = some n∧v=Value.int n t)→IntsAre l ns
 | [],[],_,_=>.nil
 | [],_ :: _,h,_=>by simp at h
 | _ :: _,[],h,_=>by simp at h
 | v :: l,n :: ns,h,g=>by
  obtain ⟨n',t,e1,e2⟩:=g 0 v rfl
  cases e1
  subst e2
  exact .cons _ _ (Fx l ns (by simpa using h) fun j v hv=>by simpa using g (j + 1) v (by simpa using hv))
end
end XK
namespace XK
open PySem PySem.Spec PyProof.Rows L2 My D3
theorem hu1 {n:Nat} (h:n + 64 < cLine):n + 1 < cLine:=by omega
section
variable {K:PySem.W.Frag} {fl:List Fl}
end
noncomputable def Vt:V→V→V→Hp→(Hp→Prop)→Prop:=fun o i v H Q=>∃ p kvs k,o = .ref p∧i=kV k∧H p=some (.dK kvs)∧kvs.length < sizeLine∧Q (upd H p (.dK (putK kvs k v)))
section
variable {X:Cx} {fl:List Fl} {e a b c ke:Expr} {f fa fb fc fk:FE} {pos:Pos}
theorem Kg (hu:X.A.units + 1 < cLine):QC X Vt:=by
 intro pins s σ H o i v ov iv u Q I ro ri rv h
 obtain ⟨p,kvs,k,rfl,rfl,hp,hl,q⟩:=h
 cases ro
 exact Hi hu I (Hh.k hp hl) ri rv fun s' I'=>⟨_,I',q⟩
end
end XK
namespace XB
open PySem PySem.Spec PyProof.Rows L2 My D3 XK
noncomputable def nIs:Option Key→Value→Bool
 | none,.none=>true
 | none,_=>false
 | some k,v=>oR k v
noncomputable def nH (w:World):Option Key→Int
 | none=>0xFCA86420
 | some k=>Uj w k
theorem mG {v:Value} (h:nIs none v=true):v = .none:=by
 cases v <;> first | rfl | cases h
theorem Hj {P:Program} {w:World} {A:Around} {E:Value→Shared→Prop} {s:Shared} {Q:Int→Shared→Prop} (h:Q 0xFCA86420 { s with toks:=s.toks + 1 }):wpAny (model P w) A (pyHash .none) Q E s :=
 PySem.W.pyHash_slot (T := "NoneType") rfl F.slot_NoneType_hash F.entry_NoneType_hash (F.args_NoneType_hash_1 _) (beq_builtin_none _) (.inl rfl) (wpAny_bind (wpAny_pure (wpAny_bind (wpAny_mkInt (wpAny_pure ⟨_,_,rfl,h⟩)))))
theorem N7 {P:Program} {w:World} {A:Around} {E:Value→Shared→Prop} {s:Shared} {Q:Bool→Shared→Prop} (h:Q true s):wpAny (model P w) A (eqBool .none .none) Q E s:=by
 unfold eqBool
 refine wpAny_holding ?_
 refine wpAny_ite_split (fun _=>wpAny_bind (wpAny_rule (wpAny_pure h))) (fun z=>absurd rfl z)
noncomputable def Qc (P:Program) (w:World):PySem.KeyKind P w (Option Key) where
 is:=nIs
 hash:=nH w
 inj:=fun v a b ha hb=>by
  cases a with
  | none =>
   cases b with
   | none=>rfl
   | some k =>
    rw [mG ha] at hb
    rcases eF (show oR k .none=true from hb) with ⟨i,t,_,e⟩ | ⟨x,t,_,e⟩ <;> cases e
  | some k =>
   cases b with
   | none =>
    rw [mG hb] at ha
    rcases eF (show oR k .none=true from ha) with ⟨i,t,_,e⟩ | ⟨x,t,_,e⟩ <;> cases e
   | some l=>rw [(dH P w).inj v k l ha hb]
 byValue:=fun k v h=>by
  cases k with
  | none=>rw [mG h];rfl
  | some k=>exact (dH P w).byValue k v h
 pyHash:=fun {A E s k v Q} h q=>by
  cases k with
  | none=>rw [mG h];exact Hj q
  | some k=>exact (dH P w).pyHash (k:=k) h q
 eqBool:=fun {A E s a b u v Q} ha hb q=>by
  cases a with
  | none =>
   rw [mG ha]
   cases b with
   | none=>rw [mG hb];exact N7 q
   | some k =>
    rcases eF (show oR k v=true from hb) with ⟨i,t,_,rfl⟩ | ⟨x,t,_,rfl⟩
    ·exact PySem.SeqAt.EqAt.none_int i t P w E Q q
    ·exact PySem.SeqAt.EqAt.none_str x t P w E Q q
  | some k =>
   cases b with
   | none =>
    rw [mG hb]
    rcases eF (show oR k u=true from ha) with ⟨i,t,_,rfl⟩ | ⟨x,t,_,rfl⟩
    ·exact PySem.SeqAt.EqAt.int_none i t P w E Q q
    ·exact PySem.SeqAt.EqAt.str_none x t P w E Q q
   | some l =>
    have e:decide (some k=some l)=decide (k=l):=by simp
    exact (dH P w).eqBool (a:=k) (b:=l) ha hb (e ▸ q)
 «strs»:=fun k x t v h=>by
  cases k with
  | none=>cases h
  | some k=>exact (dH P w).«strs» k x t v h
theorem map_none {P:Program} {w:World} {h:Heap} {a:Addr} {vs:List (Key × Value)} (d:h.DictOf (dH P w) a vs):h.MapOf (Qc P w) a fun k=>match k with | none=>none | some k=>valueAt vs k:=by
 obtain ⟨o,es,ep,h1,h2,h3,h4,h5⟩:=d.mapOf
 refine ⟨o,es,ep,h1,h2,h3,fun e he=>?_,fun k=>?_⟩
 ·obtain ⟨k,k1,k2⟩:=h4 e he
  exact ⟨some k,k1,k2⟩
 ·cases k with
  | some k=>exact h5 k
  | none =>
   show findBy nIs es none=none
   unfold findBy
   rw [Option.map_eq_none_iff,Array.find?_eq_none]
   intro e he z
   obtain ⟨k,k1,_⟩:=h4 e he
   rw [mG z] at k1
   rcases eF (show oR k .none=true from k1) with ⟨i,t,_,e⟩ | ⟨x,t,_,e⟩ <;> cases e
theorem Hl {X:Cx} {pins:List (Addr × Obj)} {σ:L2.St} {H:Hp} {s:Shared} {a:Addr} {kvs:List (Key × V)} {A:Around} {E:Value→Shared→Prop} {Q:Value→Shared→Prop} (I:Inv X pins σ H s) (g:Rd H a (.dK kvs)) (h:∀ s',Inv X pins σ H s'→Q (.bool false) s') :
 wpAny (model X.prog X.w) A (compareOp .In .none (.ref a)) Q E s:=by
 obtain ⟨z,hd,vs,rel,dd⟩:=Fv I.hok g
 exact wpAny_in_of (knd:=Qc X.prog X.w) (k:=none) rfl hd (map_none dd) (h _ (I.tok _))
noncomputable def dbI (S:List Int):List (Key × V):=S.map fun i=>(.inl i,.bl true)
noncomputable def Vu:R2:=fun x y H Q=>∃ p kvs,y = .ref p∧Rd H p (.dK kvs)∧((x = .non∧Q (.bl false) H)∨∃ k,x=kV k∧Q (.bl (um kvs k).isSome) H)
theorem Kh {X:Cx} (hu:X.A.units + 64 < cLine):OpR X (compareOp .In) Vu:=by
 intro pins s σ H x y v u Q I rx ry h
 obtain ⟨p,kvs,rfl,g,h⟩:=h
 obtain rfl:u=Value.ref p:=ry
 rcases h with ⟨rfl,q⟩ | ⟨k,rfl,q⟩
 ·obtain rfl:v=Value.none:=rx
  exact Hl I g fun s' I'=>⟨.bl false,H,I',rfl,q⟩
 ·exact Xm (by omega) I (.inl ⟨kvs,k,g,rfl,rfl⟩) rx fun s' I'=>⟨.bl (um kvs k).isSome,H,I',rfl,q⟩
theorem Kl:∀ {kvs:List (D × D)} {S:List Int},bsD kvs=some S→dk0 kvs=dbI S
 | [],S,h=>by cases h;rfl
 | (a,b) :: r,S,h=>by
  unfold bsD at h
  split at h
  ·next e=>cases e
  ·next i r' e =>
   cases e
   cases e3:bsD r with
   | none=>rw [e3] at h;cases h
   | some S' =>
    rw [e3] at h
    cases h
    rw [dk0,Kl e3]
    rfl
  ·cases h
theorem zH:∀ {kvs:List (D × D)} {S:List Int},bsD kvs=some S→wR kvs=true
 | [],_,_=>rfl
 | (a,b) :: r,S,h=>by
  unfold bsD at h
  split at h
  ·next e=>cases e
  ·next e =>
   cases e
   cases e3:bsD r with
   | none=>rw [e3] at h;cases h
   | some S=>exact (show wR r=true from zH e3)
  ·cases h
theorem Dq {kvs:List (D × D)} {S:List Int} (h:bsD kvs=some S):dh0 kvs = .dK (dbI S):=by
 rw [← Kl h]
 cases kvs with
 | nil=>rfl
 | cons q r =>
  obtain ⟨k,v⟩:=q
  unfold dh0
  cases k with
  | int i=>rfl
  | _=>unfold bsD at h;cases h
theorem Fy {K:PySem.W.Frag} {ok:Ok} {pl:Bool} {H:Hp} {v:V} {x:D} {S:List Int} (e:Dh x=some S) (r:RA K ok pl H v x):∃ a,v = .ref a∧L2.Rd H a (.dK (dbI S)):=by
 cases x with
 | dict kvs =>
  obtain ⟨a,rfl,h⟩:=r.dicE (zH e)
  rw [Dq e] at h
  exact ⟨a,rfl,h⟩
 | _=>cases e
theorem Km:∀ (S:List Int) (i:Int),(um (dbI S) (Sum.inl i)).isSome=decide (i ∈ S)
 | [],i=>rfl
 | q :: S,i=>by
  unfold dbI
  rw [bM]
  by_cases h:q=i
  ·subst h
   rw [uo rfl]
   simp
  ·rw [uq (fun z=>h (by injection z))]
   have:=Km S i
   unfold dbI at this
   rw [this]
   have h2:¬ i=q:=fun z=>h z.symm
   simp [h2]
theorem R8 (S:List Int) (i:Int):putK (dbI S) (Sum.inl i) (.bl true)=dbI (oK S i):=by
 unfold putK oK dbI
 have e:((S.map fun i=>((Sum.inl i,V.bl true):Key × V)).any fun q=>decide (q.1=Sum.inl i))=decide (i ∈ S):=by
  induction S with
  | nil=>rfl
  | cons q S ih =>
   rw [bM,lU,ih]
   by_cases h:q=i
   ·subst h;simp
   ·have h2:¬ i=q:=fun z=>h z.symm
    simp [h2,h]
 rw [e]
 by_cases h:i ∈ S
 ·rw [dTr h,if_pos rfl,if_pos h,h_]
  refine rP fun q _=>?_
  show (if (Sum.inl q:Key)=Sum.inl i then ((Sum.inl q:Key),V.bl true) else (Sum.inl q,V.bl true))=_
  split <;> rfl
 ·rw [dFa h,if_neg aU,if_neg h,dj]
  rfl
theorem Qd {K:PySem.W.Frag}:BrO K Vu uT:=by
 intro H x y dx dy d Q rx ry e q
 obtain ⟨S,e4,e5⟩:=bind1 e
 obtain ⟨p,rfl,hp⟩:=Fy e4 ry
 split at e5
 ·next i =>
  cases e5
  obtain rfl:=RA.intE rx
  refine ⟨p,_,rfl,hp,.inr ⟨.inl i,rfl,?_⟩⟩
  rw [Km]
  exact q _ rfl (.bl _)
 ·cases e5
  obtain rfl:=RA.nonE rx
  exact ⟨p,_,rfl,hp,.inl ⟨rfl,q _ rfl (.bl _)⟩⟩
 ·cases e5
section
variable {K:PySem.W.Frag} {fl:List Fl}
theorem Ko {G:Gh} {ow:Ow} {σ:L2.St} {H:Hp} {δ:DS} {i:Nat} {x:D} {S:List Int} (R:Rel K fl G ow σ H δ) (hfl:fl[i]? = some .N) (hx:aG i δ=some x) (hq:Dh x=some S) :
 ∃ a,σ[i]? = some (some (.ref a))∧H a=some (.dK (dbI S))∧∀ H',Same H H'→∀ S',∃ ow',Rel K fl G ow' σ (upd H' a (.dK (dbI S'))) (δ.set i (some (.d (dsB S')))):=by
 have e:=rm hx
 have hi:i < δ.length:=by
  rcases gZ i δ.length with z | z
  ·exact z
  ·rw [cF z] at e;cases e
 obtain ⟨v,h1,h2,h3⟩:=R.nr i x (by rw [hfl];rfl) e
 generalize hN:ow.n i=as at h2 h3
 cases h2 with
 | dic ha hg =>
  rename_i a u kvs
  rw [hg.old (zH hq)] at ha
  have ha':=ha
  rw [Dq hq] at ha'
  refine ⟨a,h1,ha',fun H' s S'=>?_⟩
  refine (R.grow s).mutN (as:=[a]) hfl hi (by rw [hN];exact List.mem_singleton_self _) (s _ _ ha) h1 ?_ (fun b hb=>by rw [hN];exact hb) (dF.mpr ⟨d7,.nil⟩)
  refine .dic fG (.inl ⟨zH (Ey S'),?_⟩)
  rw [Dq (Ey S')]
 | non=>cases hq
 | bl _=>cases hq
 | int _=>cases hq
 | str _=>cases hq
 | lst _ _=>cases hq
 | tup _ _=>cases hq
end
section
variable {X:Cx} {fl:List Fl} {e a b c ke:Expr} {f fa fb fc fk:FE} {pos:Pos}
theorem zJ (hu:X.A.units + 1 < cLine) {i:Nat} {x:Str} {vpos spos:Pos} (hfl:fl[i]? = some .N) (he:PE X e (tC (.bl true))) (hk:DE X fl .P ke fk) (hN:X.N[i]? = some x) (hv:Vis X.env.scope x:=by first | exact Or.inl rfl | exact Or.inr (Or.inl rfl) | exact Or.inr (Or.inr rfl)) (hd:(x == ("__debug__" : Str))=false:=by decide)
 (hcd:(x == ("__classdict__" : Str))=false:=by decide) (ha:∀ v,assign (.Subscript (.Name x vpos) ke spos) X.env v=(do
  let ov ← holding [v] (eval (.Name x vpos) X.env)
  let iv ← holding [v,ov] (eval ke X.env)
  standAt spos
  holding [v,ov,iv] (setItem ov iv v)
  release [v,ov,iv] []):=by intro _;rfl)
 (hs:swapsWithSole [.Subscript (.Name x vpos) ke spos] e pos.line X.env=pure false:=by rfl) (hw:swappedStores [.Subscript (.Name x vpos) ke spos] e X.env=pure none:=by rfl)
 (h1:(assignEach [.Subscript (.Name x vpos) ke spos] X.env).map (·.2)=[assign (.Subscript (.Name x vpos) ke spos) X.env]:=by rfl) :
 DS1 X fl (.Assign [.Subscript (.Name x vpos) ke spos] e pos) (rZ i fk) :=
 PS.imp (Cd he (Ii (oA hN hv hd hcd) hk (Kg hu) ha) hs hw h1) fun Dn σ H h=>by
 obtain ⟨G,ow,δ,o,R,hf,q⟩:=h
 obtain ⟨y,e1,hf⟩:=bind1 hf
 obtain ⟨z,e2,hf⟩:=bind1 hf
 obtain ⟨S,e3,hf⟩:=bind1 hf
 split at hf
 case h_2=>cases hf
 next k _ =>
 by_cases hc:S.length < 1000000
 case neg=>rw [if_neg hc] at hf;cases hf
 rw [if_pos hc] at hf
 cases hf
 obtain ⟨p,h1,h2,h3⟩:=Ko R hfl e1 e3
 refine ⟨_,h1,G,ow,δ,_,R,e2,fun u H2 s2 r2=>?_⟩
 obtain rfl:=RA.intE r2
 obtain ⟨ow',R'⟩:=h3 H2 s2 (oK S k)
 refine ⟨p,dbI S,.inl k,rfl,rfl,s2 _ _ h2,by unfold dbI;rw [aH];exact mQ hc (by decide),?_⟩
 rw [R8]
 exact q ow' σ _ R'
end
end XB
namespace XB
open PySem PySem.Spec PyProof.Rows L2 My D3 XK
section
variable {X:Cx} {fl:List Fl} {e:Expr} {pos:Pos}
theorem zK (hc:X.calm=true):nq X (.builtin "sorted") (fun xs H Q=>∃ (p:Addr) (ks:List (Key × V)) (is:List Int),xs=[.ref p]∧L2.Rd H p (.dK ks)∧ks.map (·.1)=is.map Sum.inl∧is.length < 64∧∀ l,H l=none→Q (.ref l) (upd H l (.lst ((j5 is).map V.int)))):=by
 intro pins s σ H xs us Q I r h
 obtain ⟨p,ks,is,rfl,hx,hK,h64,q⟩:=h
 obtain ⟨u,rfl,rx⟩:=vals1 r
 cases rx
 obtain ⟨_,hd,vs,rel,dd⟩:=Fv I.hok hx
 obtain ⟨ep,hat⟩:=dd.dictAt
 have hv:vs.map (·.1)=is.map Sum.inl:=by rw [← rel.keys];exact hK
 have hlen:vs.length=is.length:=by
  have:=congrArg pQ hv
  rwa [aH,aH] at this
 refine Calls.call_function_entry kind_sorted plain_sorted entry_sorted (args_sorted1 _) ?_
 unfold Builtin.«sorted»
 refine wpAny_bind (m:=checkCount "sorted" 1 1 _) (wpAny_pure ?_)
 refine wpAny_bind (PySem.W.kdu_collect (A:=X.A.in1) (PySem.W.kdl_dict (knd:=dH X.prog X.w) (kvs:=vs) (ep:=ep) hd) (I.ok.hd hc) hat (by rw [hlen];exact bV (eY h64) (by decide)) fun h' tk acc hk hacc=>?_)
 have hl:acc.toList.length=is.length:=by rw [aJ,hacc.1,hlen]
 have hI:IntsAre acc.toList is:=Fx _ _ hl fun j v hv'=>by
  obtain ⟨k,x,hkx,his⟩:=hacc.2 j v (by rw [← cD];exact hv')
  have e1:(vs.map (·.1))[j]? = some k:=by rw [bf,hkx];rfl
  rw [hv,bf] at e1
  cases e2:is[j]? with
  | none=>rw [e2] at e1;cases e1
  | some i =>
   rw [e2] at e1
   have e3:k=Sum.inl i:=by
    cases e1
    rfl
   subst e3
   rw [Ca] at his
   obtain ⟨t,rfl⟩:∃ t,v=Value.int i t:=Value.isInt_shape his
   exact ⟨i,t,rfl,rfl⟩
 have I1:L2.Inv X pins σ H { s with heap:=h',toks:=tk }:=I.kept hk
 refine wpAny_bind (wpAny_newList ?_ (by rw [hl];exact bV (eY h64) (by decide)))
 have hoL:(h'.push (seqObj "list" acc.toList.toArray 0)).get? h'.objs.size=some (seqObj "list" acc.toList.toArray 0):=Heap.get?_push_size _ rfl
 show wpAny _ _ _ _ _ { s with heap:=h'.push (seqObj "list" acc.toList.toArray 0),toks:=tk }
 refine wpAny_bind (wpAny_holding (wpAny_call_entry slot_list_sort ⟨_,hoL,rfl⟩ entry_list_sort (list_sort_tree hoL hI (by rw [hl];exact h64) fun out ns' a1 a2 a3=>⟨_,rfl,?_⟩) (args_list_sort _)))
 refine wpAny_pure ⟨_,rfl,?_⟩
 obtain rfl:=rC (a2.trans (iu _).symm) a3 (nU _)
 obtain ⟨e,he⟩:=sortedHeap_at (out:=out) hoL
 have hn:H h'.objs.size=none:=I1.hok.fresh (aQ _)
 have ll:(j5 is).length=is.length:=(iu _).length_eq
 have I2:=I1.laid (h':=sortedHeap (h'.push (seqObj "list" acc.toList.toArray 0)) h'.objs.size acc.toList out) (t':=tk) (a:=h'.objs.size) (o:=.lst ((j5 is).map V.int)) (fun b u e=>by
  have hlt:=Heap.lt_size e
  rw [sortedHeap_old (bN hlt) (by rw [size_push'];exact nO hlt)]
  exact Heap.get?_push_of_some _ e) (aQ _)
  ⟨by rw [aH,ll];exact bV (eY h64) (by decide),out.toList,e,D3.lH a1,by simpa [seqObj] using he⟩
 exact ⟨.ref _,_,I2,rfl,q _ hn⟩
theorem Fz:∀ S:List Int,(dbI S).map (·.1)=S.map Sum.inl
 | []=>rfl
 | i :: S=>by
  show _ :: (dbI S).map (·.1)=_
  rw [Fz S]
  rfl
theorem Kp (hc:X.calm=true) {fa:FA} {p:Pos} (ha:DB X fl .P [e] fa) (hg:Gl X "sorted") (hm:X.mg "sorted" = none)
 (he:starEach [e] X.env=(false,eval e X.env) :: starEach [] X.env:=by rfl) (hpl:(backTo pos (starEach [] X.env)).any (·.1)=false:=by rfl):DE X fl .FC (.Call (.Name "sorted" p) [e] [] pos) (dCall wg fa) :=
 PE.imp (tL (zK hc) hg hm (show bootBuiltins "sorted" = some (.builtin "sorted") by decide +kernel) ha (by decide) (by decide) he hpl) fun σ H Q h=>by
 obtain ⟨G,ow,δ,d,R,hf,q⟩:=h
 obtain ⟨ds,e1,e2⟩:=bind1 hf
 refine ⟨G,ow,δ,ds,R,e1,fun vs H' s r'=>?_⟩
 unfold wg at e2
 split at e2
 ·next x =>
  obtain ⟨S,e3,e4⟩:=bind1 e2
  by_cases hS:S.length < 64
  ·rw [if_pos hS] at e4
   cases e4
   cases r' with
   | cons r1 r2 =>
    cases r2
    obtain ⟨a,rfl,hx⟩:=Fy e3 r1
    exact ⟨a,_,S,rfl,hx,Fz S,hS,fun l hn=>q _ _ (s.trans (fX hn _)) (.inr ⟨_,_,_,rfl,rfl,s.free hn,fG,pG _⟩)⟩
  ·rw [if_neg hS] at e4;cases e4
 ·cases e2
end
end XB
namespace D3
open PySem PySem.Spec PyProof.Rows L2 My
section
variable {X:Cx} {fl:List Fl} {e a b:Expr} {es:List Expr} {f fa fb:FE} {fr:FA} {k:Kd} {pos:Pos}
theorem vA (i:Nat) {x:Str} (hfl:fl[i]? = some .A:=by rfl) (hN:X.N[i]? = some x:=by rfl) (hv:Vis X.env.scope x:=by first | exact Or.inl rfl | exact Or.inr (Or.inl rfl) | exact Or.inr (Or.inr rfl)) (hd:(x == ("__debug__" : Str))=false:=by decide)
 (hcd:(x == ("__classdict__" : Str))=false:=by decide):DE X fl .A (.Name x pos) (aG i):=yP i hfl hN hv hd hcd
theorem vP (i:Nat) {x:Str} (hfl:fl[i]? = some .A:=by rfl) (hN:X.N[i]? = some x:=by rfl) (hv:Vis X.env.scope x:=by first | exact Or.inl rfl | exact Or.inr (Or.inl rfl) | exact Or.inr (Or.inr rfl)) (hd:(x == ("__debug__" : Str))=false:=by decide)
 (hcd:(x == ("__classdict__" : Str))=false:=by decide):DE X fl .P (.Name x pos) (aG i):=dY (yP i hfl hN hv hd hcd)
theorem vB (i:Nat) {x:Str} (hfl:fl[i]? = some .A:=by rfl) (hN:X.N[i]? = some x:=by rfl) (hv:Vis X.env.scope x:=by first | exact Or.inl rfl | exact Or.inr (Or.inl rfl) | exact Or.inr (Or.inr rfl)) (hd:(x == ("__debug__" : Str))=false:=by decide)
 (hcd:(x == ("__classdict__" : Str))=false:=by decide):DE X fl (.B []) (.Name x pos) (aG i):=fQ (yP i hfl hN hv hd hcd)
theorem iP {i j pos}:DE X fl .P (.Constant (.int i) j pos) (dC (.int i)):=bC yR
theorem iC {i j pos}:DE X fl .C (.Constant (.int i) j pos) (dC (.int i)):=i_ yR
theorem dz:DB X fl k [] bh:=Rh
theorem dq (h:DE X fl k e f) (hr:DB X fl k es fr) (hk:isR k=true:=by rfl) (hs:starEach (e :: es) X.env=(false,eval e X.env) :: starEach es X.env:=by exact lW rfl):DB X fl k (e :: es) (aF f fr):=MK hk h hr hs
theorem dx {L:List Nat} (ha:DE X fl (.B L) a fa) (hb:DE X fl .P b fb) (hs:yJ b:=by exact fun _ _=>rfl):DE X fl .A (.Subscript a b pos) (dOp gIx fa fb):=Vb ha hb hs
theorem sA {i:Nat} {x:Str} {pos':Pos} (hN:X.N.Nodup) (h:DE X fl .A e f) (hfl:fl[i]? = some .A:=by rfl) (hi:X.N[i]? = some x:=by rfl) (hv:X.env.scope.names.lookup x=some .local∨X.env.scope.names.lookup x=some .cell:=by first | exact Or.inl rfl | exact Or.inr rfl)
 (hs:swapsWith e (some (.Name x pos')) pos.line X.env=pure false:=by rfl) (hfn:X.fn x=true∨X.env.scope.names.lookup x=some .local:=by first | exact .inl rfl | exact .inr rfl) :
 DS1 X fl (.Assign [.Name x pos'] e pos) (bZ i f):=Mz hfl hN hi hv h hs hfn
theorem gN' {i:Nat} {x:Str} {pos:Pos} (hN:X.N.Nodup) (hfl:fl[i]? = some .A:=by rfl) (hi:X.N[i]? = some x:=by rfl) (hv:X.env.scope.names.lookup x=some .local∨X.env.scope.names.lookup x=some .cell:=by first | exact Or.inl rfl | exact Or.inr rfl)
 (hfn:X.fn x=true∨X.env.scope.names.lookup x=some .local:=by first | exact .inl rfl | exact .inr rfl):DG X fl [i] (.Name x pos) (gNl i):=MF hfl hN hi hv hfn
end
theorem fsc {N P:List Str} {sc:Scope} (a:sc.kind = .function:=by rfl) (b:sc.isCoroutine=false:=by rfl) (c:sc.isGenerator=false:=by rfl) (d:N.Nodup:=by decide +kernel) (e:N.take P.length=P:=by rfl) (f:∀ x ∈ P,sc.names.lookup x=some .local∨sc.names.lookup x=some .cell:=by decide +kernel) (g:∀ y ∈ sc.names,y.2 ≠ .free:=by decide +kernel):FnScope N P sc:=⟨a,b,c,d,e,f,g⟩
end D3
namespace D3
open PySem
noncomputable def qS (o:Option Oc) (b:FS):Option Oc:=match o with
 | some (.nx δ)=>b δ
 | some o=>some o
 | none=>none
noncomputable def qI (o:Option Bool) (a b:FS) (δ:DS):Option Oc:=match o with
 | some true=>a δ
 | some false=>b δ
 | none=>none
noncomputable def qO (g:D→D→Option D) (a b:Option D):Option D:=match a,b with
 | some x,some y=>g x y
 | _,_=>none
noncomputable def qU (g:D→Option D) (a:Option D):Option D:=match a with
 | some x=>g x
 | none=>none
noncomputable def qC (a:Option D) (r:Option (List D)):Option (List D):=match a,r with
 | some x,some l=>some (x :: l)
 | _,_=>none
noncomputable def qF (F:List D→Option D) (l:Option (List D)):Option D:=match l with
 | some l=>F l
 | none=>none
noncomputable def qR (a:Option D):Option Oc:=match a with
 | some d=>some (.rt d)
 | none=>none
noncomputable def R9 (i:Nat) (a:Option D) (δ:DS):Option Oc:=match a with
 | some d=>if i < δ.length then some (.nx (δ.set i (some (.d d)))) else none
 | none=>none
noncomputable def Ho (a:Option D) (fb:FE) (δ:DS):Option D:=match a with
 | some (.bool true)=>fb δ
 | some (.bool false)=>some (.bool false)
 | _=>none
noncomputable def qOr (a:Option D) (fb:FE) (δ:DS):Option D:=match a with
 | some (.bool true)=>some (.bool true)
 | some (.bool false)=>fb δ
 | _=>none
noncomputable def qN (a:Option D):Option D:=match a with
 | some (.bool b)=>some (.bool (!b))
 | _=>none
noncomputable def qB (a:Option D):Option Bool:=match a with
 | some (.bool b)=>some b
 | _=>none
noncomputable def qTA (a:Option Bool) (b:FT) (δ:DS):Option Bool:=match a with
 | some true=>b δ
 | some false=>some false
 | none=>none
noncomputable def qTO (a:Option Bool) (b:FT) (δ:DS):Option Bool:=match a with
 | some true=>some true
 | some false=>b δ
 | none=>none
noncomputable def qTN (a:Option Bool):Option Bool:=match a with
 | some b=>some (!b)
 | none=>none
noncomputable def qE (a:Option Bool) (fa fb:FE) (δ:DS):Option D:=match a with
 | some true=>fa δ
 | some false=>fb δ
 | none=>none
noncomputable def qL (a:Option D):Option (List D):=match a with
 | some (.list l)=>some l
 | _=>none
noncomputable def R_ (a:Option (List D)) (g:FG) (b:FS) (δ:DS):Option Oc:=match a with
 | some l=>jF g b l δ
 | none=>none
noncomputable def qD (a:Option DS):Option Oc:=match a with
 | some δ=>some (.nx δ)
 | none=>none
noncomputable def qG (a:Option D) (g:FG) (δ:DS):Option DS:=match a with
 | some d=>g d δ
 | none=>none
noncomputable def qGs (a:Option DS) (r:List D→DS→Option DS) (l:List D):Option DS:=match a with
 | some δ=>r l δ
 | none=>none
noncomputable def qT (a:Option (List D)):Option D:=match a with
 | some l=>if l.length ≤ sizeLine then some (.tuple l) else none
 | none=>none
noncomputable def qK (a:Option (List D)):Option D:=match a with
 | some l=>if l.length ≤ sizeLine then some (.list l) else none
 | none=>none
noncomputable def qFl (p:D→Bool) (a:Option D):Option D:=match a with
 | some d=>if p d=true then some d else none
 | none=>none
noncomputable def qA (i:Nat) (x a:Option D) (δ:DS):Option Oc:=match x,a with
 | some (.list l),some d=>if l.length < 1000000 then some (.nx (δ.set i (some (.d (.list (l++[d])))))) else none
 | _,_=>none
noncomputable def qP (i:Nat) (a x k:Option D) (δ:DS):Option Oc:=match a,x,k with
 | some d,some (.list l),some (.int j)=>(pIx l.length j).bind fun n=>some (.nx (δ.set i (some (.d (.list (l.set n d))))))
 | _,_,_=>none
noncomputable def qCh (g':D→D→Option D) (z:Option D) (y:Option D) (fc:FE) (δ:DS):Option D:=match z with
 | some (.bool true)=>qO g' y (fc δ)
 | some (.bool false)=>some (.bool false)
 | _=>none
noncomputable def qFn (o:Option Oc):Option D:=match o with
 | some (.rt d)=>some d
 | some (.nx _)=>some .none
 | _=>none
noncomputable def qCo (a:Option (List D)) (g:FG) (c:FT) (e:FE) (t:Nat) (ix:List Nat) (δ:DS):Option D:=match a with
 | some l=>if l.length ≤ 100000 then (match gU g c e (kY t ix δ) l with | some r=>some (.list r) | none=>none) else none
 | none=>none
section
variable {a b:FS} {c c':FT} {fa fb fc:FE} {fr:FA} {δ:DS} {g:D→D→Option D} {h:D→Option D} {F:List D→Option D} {i:Nat} {G:FG} {d:D}
theorem Vv:cA a b δ=qS (a δ) b:=by
 unfold cA qS
 cases a δ with
 | none=>rfl
 | some o=>cases o <;> rfl
theorem Kq {δ':DS}:qS (some (.nx δ')) b=b δ':=rfl
theorem Kr:qS (some (.rt d)) b=some (.rt d):=rfl
theorem Ks {δ':DS}:qS (some (.bk δ')) b=some (.bk δ'):=rfl
theorem Ku {δ':DS}:qS (some (.ct δ')) b=some (.ct δ'):=rfl
theorem Vw:gh δ=some (.nx δ):=rfl
theorem Xn:sBk δ=some (.bk δ):=rfl
theorem Xo:sCt δ=some (.ct δ):=rfl
theorem Xp:sIf c a b δ=qI (c δ) a b δ:=by
 unfold sIf qI
 cases c δ with
 | none=>rfl
 | some t=>cases t <;> rfl
theorem Sd:qI (some true) a b δ=a δ:=rfl
theorem Sg:qI (some false) a b δ=b δ:=rfl
theorem v_op:dOp g fa fb δ=qO g (fa δ) (fb δ):=by
 unfold dOp qO
 cases fa δ <;> cases fb δ <;> rfl
theorem Sq {x y:D}:qO g (some x) (some y)=g x y:=rfl
theorem Xq:dUn h fa δ=qU h (fa δ):=by
 unfold dUn qU
 cases fa δ <;> rfl
theorem Ss {x:D}:qU h (some x)=h x:=rfl
theorem Sv:bh δ=some []:=rfl
theorem N8:aF fa fr δ=qC (fa δ) (fr δ):=by
 unfold aF qC
 cases fa δ <;> cases fr δ <;> rfl
theorem Hq {x:D} {l:List D}:qC (some x) (some l)=some (x :: l):=rfl
theorem Sw:dCall F fr δ=qF F (fr δ):=by
 unfold dCall qF
 cases fr δ <;> rfl
theorem Kv {l:List D}:qF F (some l)=F l:=rfl
theorem Vx:eU fa δ=qR (fa δ):=by
 unfold eU qR
 cases fa δ <;> rfl
theorem N_:qR (some d)=some (.rt d):=rfl
theorem Sx:U7 δ=some (.rt .none):=rfl
theorem Vy:bZ i fa δ=R9 i (fa δ) δ:=by
 unfold bZ U6 R9
 cases fa δ with
 | none=>simp
 | some d=>rfl
theorem Oa:R9 i (some d) δ=if i < δ.length then some (.nx (δ.set i (some (.d d)))) else none:=rfl
theorem v_c:dC d δ=some d:=rfl
theorem v_and:qe fa fb δ=Ho (fa δ) fb δ:=by
 unfold qe Ho
 cases fa δ with
 | none=>rfl
 | some x =>
  cases x <;> try rfl
  next b=>cases b <;> rfl
theorem Ob:Ho (some (.bool true)) fb δ=fb δ:=rfl
theorem Od:Ho (some (.bool false)) fb δ=some (.bool false):=rfl
theorem v_or:dOr fa fb δ=qOr (fa δ) fb δ:=by
 unfold dOr qOr
 cases fa δ with
 | none=>rfl
 | some x =>
  cases x <;> try rfl
  next b=>cases b <;> rfl
theorem Sy:qOr (some (.bool true)) fb δ=some (.bool true):=rfl
theorem SJ:qOr (some (.bool false)) fb δ=fb δ:=rfl
theorem v_not:Jf fa δ=qN (fa δ):=by
 unfold Jf qN
 cases fa δ with
 | none=>rfl
 | some x=>cases x <;> rfl
theorem Oe {b:Bool}:qN (some (.bool b))=some (.bool (!b)):=rfl
theorem Xr:bI fa δ=qB (fa δ):=by
 unfold bI qB
 cases fa δ with
 | none=>rfl
 | some x=>cases x <;> rfl
theorem SN {b:Bool}:qB (some (.bool b))=some b:=rfl
theorem SQ:D3.lE c c' δ=qTA (c δ) c' δ:=by
 unfold D3.lE qTA
 cases c δ with
 | none=>rfl
 | some t=>cases t <;> rfl
theorem Kw:qTA (some true) c δ=c δ:=rfl
theorem Ky:qTA (some false) c δ=some false:=rfl
theorem Vz:D3.tOr c c' δ=qTO (c δ) c' δ:=by
 unfold D3.tOr qTO
 cases c δ with
 | none=>rfl
 | some t=>cases t <;> rfl
theorem Og:qTO (some true) c δ=some true:=rfl
theorem Oh:qTO (some false) c δ=c δ:=rfl
theorem SX:D3.oE c δ=qTN (c δ):=by
 unfold D3.oE qTN
 cases c δ <;> rfl
theorem Kz {b:Bool}:qTN (some b)=some (!b):=rfl
theorem v_ite:dIf c fa fb δ=qE (c δ) fa fb δ:=by
 unfold dIf qE
 cases c δ with
 | none=>rfl
 | some t=>cases t <;> rfl
theorem Oi:qE (some true) fa fb δ=fa δ:=rfl
theorem Oj:qE (some false) fa fb δ=fb δ:=rfl
theorem VB:jT fa δ=qL (fa δ):=by
 unfold jT qL asList
 cases fa δ with
 | none=>rfl
 | some x=>cases x <;> rfl
theorem Ol {l:List D}:qL (some (.list l))=some l:=rfl
theorem VD:mK fr G b δ=R_ (fr δ) G b δ:=by
 unfold mK R_
 cases fr δ <;> rfl
theorem Om {l:List D}:R_ (some l) G b δ=jF G b l δ:=rfl
theorem Hr:jF G b [] δ=some (.nx δ):=rfl
theorem VF:GK fa G δ=qD (qG (fa δ) G δ):=by
 unfold GK qG qD
 cases fa δ with
 | none=>rfl
 | some d =>
  dsimp only [aK]
  cases G d δ <;> rfl
theorem Oo:qG (some d) G δ=G d δ:=rfl
theorem Oq {δ':DS}:qD (some δ')=some (.nx δ'):=rfl
theorem Xu:gNl i d δ=if i < δ.length then some (δ.set i (some (.d d))) else none:=rfl
theorem Xv {n:Nat} {gs:List D→DS→Option DS} {l:List D}:gTn n gs (.tuple l) δ=if l.length=n then gs l δ else none:=rfl
theorem VG:nu [] δ=some δ:=rfl
theorem VH {gs:List D→DS→Option DS} {l:List D}:dX G gs (d :: l) δ=qGs (G d δ) gs l:=by
 show (G d δ).bind (fun δ'=>gs l δ')=qGs (G d δ) gs l
 cases G d δ <;> rfl
theorem Ot {gs:List D→DS→Option DS} {l:List D} {δ':DS}:qGs (some δ') gs l=gs l δ':=rfl
theorem VJ:dTup fr δ=qT (fr δ):=by
 unfold dTup qT
 cases fr δ <;> rfl
theorem Ou {l:List D}:qT (some l)=if l.length ≤ sizeLine then some (.tuple l) else none:=rfl
theorem Xw:iB fr δ=qK (fr δ):=by
 unfold iB qK
 cases fr δ <;> rfl
theorem S5 {l:List D}:qK (some l)=if l.length ≤ sizeLine then some (.list l) else none:=rfl
theorem S6:fY fa δ=qFl flat (fa δ):=by
 unfold fY qFl
 cases fa δ <;> rfl
theorem VL:Aq fa δ=qFl fl1 (fa δ):=by
 unfold Aq qFl
 cases fa δ <;> rfl
theorem S7 {p:D→Bool}:qFl p (some d)=if p d=true then some d else none:=rfl
theorem VN:yM i fa δ=qA i (aG i δ) (fa δ) δ:=by
 unfold yM qA
 cases aG i δ with
 | none=>rfl
 | some x =>
  cases fa δ with
  | none=>cases x <;> rfl
  | some d=>cases x <;> rfl
theorem Ov {l:List D}:qA i (some (.list l)) (some d) δ=if l.length < 1000000 then some (.nx (δ.set i (some (.d (.list (l++[d])))))) else none:=rfl
theorem VP {fk:FE}:GP i fk fa δ=qP i (fa δ) (aG i δ) (fk δ) δ:=by
 unfold GP qP
 cases fa δ with
 | none=>rfl
 | some d =>
  cases aG i δ with
  | none=>rfl
  | some x =>
   cases fk δ with
   | none=>cases x <;> rfl
   | some k=>cases x <;> cases k <;> rfl
theorem Ox {l:List D} {j:Int}:qP i (some d) (some (.list l)) (some (.int j)) δ=(pIx l.length j).bind fun n=>some (.nx (δ.set i (some (.d (.list (l.set n d)))))):=rfl
theorem Oz {g':D→D→Option D}:oF g g' fa fb fc δ=qCh g' (qO g (fa δ) (fb δ)) (fb δ) fc δ:=by
 unfold oF qCh qO
 cases fa δ with
 | none=>rfl
 | some x =>
  cases fb δ with
  | none=>rfl
  | some y =>
   dsimp only [aK]
   cases g x y with
   | none=>rfl
   | some z =>
    cases z <;> try rfl
    next b =>
    cases b with
    | false=>rfl
    | true=>dsimp only [aK];cases fc δ <;> rfl
theorem Hs {g':D→D→Option D} {y:Option D}:qCh g' (some (.bool true)) y fc δ=qO g' y (fc δ):=rfl
theorem Ht {g':D→D→Option D} {y:Option D}:qCh g' (some (.bool false)) y fc δ=some (.bool false):=rfl
theorem VR {p q:Nat} {ds:List D}:fnD p q b ds=if ds.length=p then qFn (b (ds.map (fun d=>some (.d d))++bD q none)) else none:=by
 unfold fnD qFn
 rfl
theorem OD:qFn (some (.rt d))=some d:=rfl
theorem OJ {δ':DS}:qFn (some (.nx δ'))=some .none:=rfl
theorem S8 {t:Nat} {ix:List Nat}:iY fr G c fa t ix δ=qCo (fr δ) G c fa t ix δ:=by
 unfold iY qCo
 cases fr δ with
 | none=>rfl
 | some l =>
  dsimp only [aK]
  by_cases z:l.length ≤ 100000
  ·rw [if_pos z,if_pos z]
   cases gU G c fa (kY t ix δ) l <;> rfl
  ·rw [if_neg z,if_neg z]
theorem KC {t:Nat} {ix:List Nat} {l:List D}:qCo (some l) G c fa t ix δ=if l.length ≤ 100000 then (match gU G c fa (kY t ix δ) l with | some r=>some (.list r) | none=>none) else none:=rfl
theorem V0:D3.kW δ=some true:=rfl
theorem S9 {r:DS} {x:D}:aG 0 (some (.d x) :: r)=some x:=rfl
theorem S_ {r:DS} {y:Option U}:aG (i + 1) (y :: r)=aG i r:=rfl
end
section
variable {i j:Int} {l m:List D} {d:D}
theorem V1:iZ (.int i) (.int j)=some (.int (i + j)):=rfl
theorem V2:yH (.int i) (.int j)=some (.int (i - j)):=rfl
theorem Xx:gLt (.int i) (.int j)=some (.bool (decide (i < j))):=rfl
theorem Xy:gLe (.int i) (.int j)=some (.bool (decide (i ≤ j))):=rfl
theorem Xz:gGt (.int i) (.int j)=some (.bool (decide (j < i))):=rfl
theorem XC:gGe (.int i) (.int j)=some (.bool (decide (j ≤ i))):=rfl
theorem KD:gEq (.int i) (.int j)=some (.bool (decide (i=j))):=rfl
theorem V3:gNe (.int i) (.int j)=some (.bool (!decide (i=j))):=rfl
theorem V4:jZ [.list l]=some (.int l.length):=rfl
theorem Tc:jZ [.tuple l]=some (.int l.length):=rfl
theorem lQ:∀ ns:List Int,mD (ns.map .int)=some ns
 | []=>rfl
 | n :: r=>by rw [bM,mD,lQ r];rfl
theorem V5:Xe [.int i]=some (.int (if i < 0 then -i else i)):=rfl
theorem KH:tO [.int i,.int j]=some (.int (if j > i then j else i)):=rfl
theorem KJ:vN [.int i,.int j]=some (.int (if j < i then j else i)):=rfl
theorem V6:Jg (.int i)=some (.int (-i)):=rfl
theorem XD:gIx (.list l) (.int i)=pAt l i:=rfl
theorem V7:gIx (.tuple l) (.int i)=pAt l i:=rfl
theorem wC:oG (.list l) (.list m)=if l.length + m.length ≤ 1000000 then some (.list (l++m)) else none:=rfl
theorem Td:vO (.list l)=some (.list l):=rfl
theorem O1:vO (.tuple l)=some (.list l):=rfl
theorem V8:pAt (d :: l) 0=some d:=by
 unfold pAt pIx
 rw [if_pos (by decide),if_pos (by simp)]
 rfl
end
noncomputable def Te (i j:Nat) (a:Option (List D)) (δ:DS):Option Oc:=match a with
 | some l=>match l with
  | [x,y]=>if i < δ.length∧j < δ.length then some (.nx ((δ.set i (some (.d x))).set j (some (.d y)))) else none
  | _=>none
 | none=>none
noncomputable def pO (a:Option (List D)):Option (List D):=match a with
 | some l=>match l with
  | [.int j]=>if vM j=true then some (iV 0 j) else none
  | _=>none
 | none=>none
noncomputable def Qe (a:Option (List D)):Option (List D):=match a with
 | some l=>match l with
  | [.int i,.int j]=>if (vM i && vM j)=true then some (iV i j) else none
  | _=>none
 | none=>none
noncomputable def qSl (x:Option D) (a b:Option (Option Int)):Option D:=match x,a,b with
 | some (.list l),some a,some b=>some (.list (cutD l a b))
 | _,_,_=>none
noncomputable def qOP (x:Option D):Option (Option Int):=match x with
 | some (.int i)=>some (some i)
 | _=>none
noncomputable def qEn (x:Option D):Option (List D):=match x with
 | some (.list l)=>some (qj l)
 | _=>none
section
variable {a b:FS} {fa:FE} {fr:FA} {δ:DS} {i j:Nat} {g:FG}
theorem V9:U9 i j fr δ=Te i j (fr δ) δ:=by
 unfold U9 Te
 cases fr δ with
 | none=>rfl
 | some l=>rfl
theorem O2 {x y:D}:Te i j (some [x,y]) δ=if i < δ.length∧j < δ.length then some (.nx ((δ.set i (some (.d x))).set j (some (.d y)))) else none:=rfl
theorem Tf:oU fr δ=pO (fr δ):=by
 unfold oU pO
 cases fr δ with
 | none=>rfl
 | some l=>rfl
theorem Bu {k:Int} (h : -(2 ^ 62) ≤ k) (h2:k < 2 ^ 62):pO (some [.int k])=some (iV 0 k):=by
 show (if vM k=true then some (iV 0 k) else none)=_
 rw [if_pos]
 unfold vM
 rw [dTr h,dTr h2]
 rfl
theorem Tg:PB fr δ=Qe (fr δ):=by
 unfold PB Qe
 cases fr δ with
 | none=>rfl
 | some l=>rfl
theorem XF {lo hi:FO}:dSl fa lo hi δ=qSl (fa δ) (lo δ) (hi δ):=by
 unfold dSl qSl
 cases fa δ with
 | none=>rfl
 | some x =>
  dsimp only [aK]
  cases lo δ with
  | none=>cases x <;> rfl
  | some p =>
   dsimp only [aK]
   cases hi δ with
   | none=>cases x <;> rfl
   | some r=>cases x <;> rfl
theorem Ti {l:List D} {p r:Option Int}:qSl (some (.list l)) (some p) (some r)=some (.list (cutD l p r)):=rfl
theorem XH:Ji δ=some none:=rfl
theorem XJ:Ef fa δ=qOP (fa δ):=by
 unfold Ef qOP
 cases fa δ with
 | none=>rfl
 | some x=>cases x <;> rfl
theorem Tj {k:Int}:qOP (some (.int k))=some (some k):=rfl
theorem Tp:Av fa δ=qEn (fa δ):=by
 unfold Av qEn
 cases fa δ with
 | none=>rfl
 | some x=>cases x <;> rfl
theorem KN {l:List D}:qEn (some (.list l))=some (qj l):=rfl
theorem lY (Inv:Nat→DS→Prop):∀ (l:List D) (δ:DS),Inv 0 δ→(∀ i d δ,l[i]? = some d→Inv i δ→∃ δ1 δ',g d δ=some δ1∧(b δ1=some (.nx δ')∨b δ1=some (.ct δ'))∧Inv (i + 1) δ')→∃ δ',jF g b l δ=some (.nx δ')∧Inv l.length δ':=by
 have key:∀ (l:List D) (k:Nat) (δ:DS),Inv k δ→(∀ i d δ,l[i]? = some d→Inv (k + i) δ→∃ δ1 δ',g d δ=some δ1∧(b δ1=some (.nx δ')∨b δ1=some (.ct δ'))∧Inv (k + i + 1) δ')→∃ δ',jF g b l δ=some (.nx δ')∧Inv (k + l.length) δ':=by
  intro l
  induction l with
  | nil=>exact fun k δ h _=>⟨δ,rfl,h⟩
  | cons d r ih =>
   intro k δ h hs
   obtain ⟨δ1,δ',e1,e2,e3⟩:=hs 0 d δ rfl h
   obtain ⟨δ2,e4,e5⟩:=ih (k + 1) δ' e3 fun i d' δ'' hd hi=>by
    have:=hs (i + 1) d' δ'' (by simpa using hd) (by rw [show k + (i + 1)=k + 1 + i by omega];exact hi)
    rw [show k + (i + 1) + 1=k + 1 + i + 1 by omega] at this
    exact this
   refine ⟨δ2,?_,by rw [bK,show k + (r.length + 1)=k + 1 + r.length by omega];exact e5⟩
   rw [jF,e1,aK]
   rcases e2 with e2 | e2
   ·rw [e2];exact e4
   ·rw [e2];exact e4
 intro l δ h hs
 have:=key l 0 δ h fun i d δ hd hi=>by
  have:=hs i d δ hd (by rw [d8] at hi;exact hi)
  rw [d8]
  exact this
 rw [d8] at this
 exact this
end
noncomputable def qX (a:Option D) (δ:DS):Option Oc:=match a with
 | some _=>some (.nx δ)
 | none=>none
theorem Tq {fa:FE} {δ:DS}:vK fa δ=qX (fa δ) δ:=by
 unfold vK qX
 cases fa δ <;> rfl
theorem KQ {d:D} {δ:DS}:qX (some d) δ=some (.nx δ):=rfl
theorem KR {g g' g'':D→D→Option D} {fa fb fc fd:FE} {δ:DS}:uV g g' g'' fa fb fc fd δ=Ho (qO g (fa δ) (fb δ)) (oF g' g'' fb fc fd) δ:=by
 unfold uV Ho oF qO
 cases fa δ with
 | none=>rfl
 | some x =>
  cases fb δ with
  | none=>rfl
  | some y =>
   dsimp only [aK]
   cases g x y with
   | none=>rfl
   | some z =>
    cases z <;> try rfl
    next b=>cases b <;> rfl
noncomputable def qZ (a b:Option D):Option (List D):=match a,b with
 | some (.list l),some (.list m)=>some (sH l m)
 | _,_=>none
theorem V_ {f g:FE} {δ:DS}:Mt f g δ=qZ (f δ) (g δ):=by
 unfold Mt qZ
 cases f δ with
 | none=>rfl
 | some x =>
  cases g δ with
  | none=>cases x <;> rfl
  | some y=>cases x <;> cases y <;> rfl
theorem O3 {l m:List D}:qZ (some (.list l)) (some (.list m))=some (sH l m):=rfl
theorem XM {fa:FE} {δ:DS}:dN1 fa δ=qFl (fun d=>decide (nl d ≤ 1)) (fa δ):=by
 unfold dN1 qFl
 cases fa δ <;> rfl
theorem Wa:flat .none=true:=rfl
theorem XQ {b:Bool}:flat (.bool b)=true:=rfl
theorem f_int {i:Int}:flat (.int i)=true:=rfl
theorem Wb {x:Str}:flat (.str x)=true:=rfl
theorem Wc {l:List D}:flat (.list l)=false:=rfl
theorem f_tup {l:List D}:flat (.tuple l)=flats l:=rfl
theorem Wd:flats []=true:=rfl
theorem Tr {d:D} {l:List D}:flats (d :: l)=(flat d && flats l):=rfl
theorem Tt:fl1 .none=true:=rfl
theorem Wf {b:Bool}:fl1 (.bool b)=true:=rfl
theorem Tv {i:Int}:fl1 (.int i)=true:=rfl
theorem Tw {x:Str}:fl1 (.str x)=true:=rfl
theorem sS {l:List D}:fl1 (.list l)=flats l:=rfl
theorem Tz {l:List D}:fl1 (.tuple l)=flats l:=rfl
theorem XR {c:String} {d:D}:gIs c d=some (.bool (isT c (tyD d))):=rfl
theorem Wg {d:D}:uF d=some (.bool (isNone d)):=rfl
theorem TF {d:D}:rY d=some (.bool (!isNone d)):=rfl
theorem Wh:isNone .none=true:=rfl
theorem XS {b:Bool}:isNone (.bool b)=false:=rfl
theorem Wi {i:Int}:isNone (.int i)=false:=rfl
theorem Wj {x:Str}:isNone (.str x)=false:=rfl
theorem Wk {l:List D}:isNone (.list l)=false:=rfl
theorem Wl {l:List D}:isNone (.tuple l)=false:=rfl
theorem Wm {l:List (D × D)}:isNone (.dict l)=false:=rfl
noncomputable def EVL:=And.intro @Wa <| And.intro @XQ <| And.intro @f_int <| And.intro @Wb <| And.intro @Wc <| And.intro @f_tup <| And.intro @Wd <| And.intro @Tr <| And.intro @Tt <| And.intro @Wf <| And.intro @Tv <| And.intro @Tw <| And.intro @sS <| And.intro @Tz <| And.intro @XR <| And.intro @Wg <| And.intro @TF <| And.intro @Wh <| And.intro @XS <| And.intro @Wi <| And.intro @Wj <| And.intro @Wk <| And.intro @Wl <| And.intro @Wm <| And.intro @bK.{0} <| And.intro @jt.{0} <| And.intro @bM.{0,0} <| And.intro @o7.{0,0} <| And.intro @dh.{0} <| And.intro @List.replicate_zero.{0} <| And.intro @List.cons_append.{0} <| And.intro @jq.{0} <| And.intro @cR.{0} <| And.intro @List.set_cons_zero.{0} <| And.intro @List.set_cons_succ.{0} <| And.intro @d8 <| And.intro @if_true.{1} <| And.intro @decide_true <| And.intro @decide_false <| And.intro @Int.cast_ofNat_Int <| And.intro @bJ <| And.intro @bR <| @rQ
noncomputable def EV:=And.intro EVL <| And.intro @XM <| And.intro @V_ <| And.intro @O3 <| And.intro @Tq <| And.intro @KQ <| And.intro @KR <| And.intro @Vv (And.intro @Kq (And.intro @Kr (And.intro @Ks (And.intro @Ku (And.intro @Vw (And.intro @Xn (And.intro @Xo (And.intro @Xp (And.intro @Sd (And.intro @Sg (And.intro @v_op (And.intro @Sq (And.intro @Xq (And.intro @Ss (And.intro @Sv (And.intro @N8 (And.intro @Hq (And.intro @Sw (And.intro @Kv (And.intro @Vx (And.intro @N_ (And.intro @Sx (And.intro @Vy (And.intro @Oa (And.intro @v_c (And.intro @v_and (And.intro @Ob (And.intro @Od (And.intro @v_or (And.intro @Sy (And.intro @SJ (And.intro @v_not (And.intro @Oe (And.intro @Xr (And.intro @SN (And.intro @SQ (And.intro @Kw (And.intro @Ky (And.intro @Vz (And.intro @Og (And.intro @Oh (And.intro @SX (And.intro @Kz (And.intro @v_ite (And.intro @Oi (And.intro @Oj (And.intro @VB (And.intro @Ol (And.intro @VD (And.intro @Om (And.intro @Hr (And.intro @VF (And.intro @Oo (And.intro @Oq (And.intro @Xu (And.intro @Xv (And.intro @VG (And.intro @VH (And.intro @Ot (And.intro @VJ (And.intro @Ou (And.intro @Xw (And.intro @S5 (And.intro @S6 (And.intro @VL (And.intro @S7 (And.intro @VN (And.intro @Ov (And.intro @VP (And.intro @Ox (And.intro @Oz (And.intro @Hs (And.intro @Ht (And.intro @VR (And.intro @OD (And.intro @OJ (And.intro @S8 (And.intro @KC (And.intro @V0 (And.intro @S9 (And.intro @S_ (And.intro @V1 (And.intro @V2 (And.intro @Xx (And.intro @Xy (And.intro @Xz (And.intro @XC (And.intro @KD (And.intro @V3 (And.intro @V4 (And.intro @Tc (And.intro @V5 (And.intro @KH (And.intro @KJ (And.intro @V6 (And.intro @XD (And.intro @V7 (And.intro @wC (And.intro @Td (And.intro @O1 (And.intro @V8 (And.intro @V9 (And.intro @O2 (And.intro @Tf (And.intro @Tg (And.intro @XF (And.intro @Ti (And.intro @XH (And.intro @XJ (And.intro @Tj (And.intro @Tp @KN)))))))))))))))))))))))))))))))))))))))))))))))))))))))))))))))))))))))))))))))))))))))))))))))))))))))))))))))
end D3
namespace My
noncomputable def n6 (ns:List Int) (i:Int):Int :=
 if i < (ns.length:Int) then ns.getD i.toNat 0 % 1000000007
 else if ns=[] then 7919 * i + 5000011
 else ns.getD (i * 7 % (ns.length:Int)).toNat 0 % 1000000007 + 7919 * i
noncomputable def divs (n:Int):Nat→Int
 | 0=>n
 | k + 1=>divs n k / 1000003
noncomputable def FJ (c i k m:Int):Int :=
 (((c + 65537 * i + 3) * (1299709 + 15485863 * k) % 2147483629 * ((c + 65537 * i + 3) * (1299709 + 15485863 * k) % 2147483629) % 1500450271 + 104729) *
  ((c + 65537 * i + 3) * (1299709 + 15485863 * k) % 2147483629 * ((c + 65537 * i + 3) * (1299709 + 15485863 * k) % 2147483629) % 1500450271 + 104729)) % 715827883 / 64 % m
noncomputable def gk (ns:List Int) (i k m:Int):Int :=
 if i < (ns.length:Int)∧10 ^ 40 ≤ ns.getD i.toNat 0∧0 < divs (ns.getD i.toNat 0) k.toNat then divs (ns.getD i.toNat 0) k.toNat % 1000003 % m
 else FJ (n6 ns i) i k m
theorem cP (ns:List Int) (i k:Int) {m:Int} (h:0 < m):0 ≤ gk ns i k m∧gk ns i k m < m:=by
 unfold gk FJ
 split
 ·exact ⟨ju _ (by omega),iy _ h⟩
 ·exact ⟨ju _ (by omega),iy _ h⟩
theorem Hu {ns:List Int} {i k m:Int} (h1:i < (ns.length:Int)) (h2:10 ^ 40 ≤ ns.getD i.toNat 0) (h3:0 < divs (ns.getD i.toNat 0) k.toNat) :
 gk ns i k m=divs (ns.getD i.toNat 0) k.toNat % 1000003 % m:=by
 unfold gk
 rw [if_pos ⟨h1,h2,h3⟩]
theorem sU {ns:List Int} {i k m:Int} (h:¬ (i < (ns.length:Int)∧10 ^ 40 ≤ ns.getD i.toNat 0∧0 < divs (ns.getD i.toNat 0) k.toNat)) :
 gk ns i k m=FJ (n6 ns i) i k m:=by
 unfold gk
 rw [if_neg h]
end My
namespace Com
open PySem D3
noncomputable def eE:List D→Option D:=fnD 1 0 (eU (qe (dUn (gIs "int") (aG 0)) (Jf (dUn (gIs "bool") (aG 0)))))
noncomputable def je:List D→Option D:=fnD 2 0 (cA (sIf (bI (dOp gLt (aG 1) (dCall jZ (aF (aG 0) (bh))))) (eU (dOp sG (dOp gIx (aG 0) (aG 1)) (dC (.int 1000000007)))) (gh))
 (cA (sIf (bI (dOp gEq (aG 0) (iB (bh)))) (eU (dOp iZ (dOp mW (dC (.int 7919)) (aG 1)) (dC (.int 5000011)))) (gh))
 (eU (dOp iZ (dOp sG (dOp gIx (aG 0) (dOp sG (dOp mW (aG 1) (dC (.int 7))) (dCall jZ (aF (aG 0) (bh))))) (dC (.int 1000000007))) (dOp mW (dC (.int 7919)) (aG 1))))))
noncomputable def bA:List D→Option D:=fnD 4 2 (cA (sIf (D3.lE (bI (dOp gLt (aG 1) (dCall jZ (aF (aG 0) (bh))))) (bI (dOp gGe (dOp gIx (aG 0) (aG 1)) (dOp Q_ (dC (.int 10)) (dC (.int 40)))))) (cA (bZ 4 (dOp gIx (aG 0) (aG 1)))
 (cA (mK (oU (aF (aG 2) (bh))) (gNl 5) (bZ 4 (dOp Ar (aG 4) (dC (.int 1000003)))))
 (sIf (bI (dOp gGt (aG 4) (dC (.int 0)))) (eU (dOp sG (dOp sG (aG 4) (dC (.int 1000003))) (aG 3))) (gh)))) (gh))
 (cA (bZ 4 (dOp sG (dOp mW (dOp iZ (dOp iZ (dCall je (aF (aG 0) (aF (aG 1) (bh)))) (dOp mW (dC (.int 65537)) (aG 1))) (dC (.int 3))) (dOp iZ (dC (.int 1299709)) (dOp mW (dC (.int 15485863)) (aG 2)))) (dC (.int 2147483629))))
 (cA (bZ 4 (dOp iZ (dOp sG (dOp mW (aG 4) (aG 4)) (dC (.int 1500450271))) (dC (.int 104729))))
 (eU (dOp sG (dOp Ar (dOp sG (dOp mW (aG 4) (aG 4)) (dC (.int 715827883))) (dC (.int 64))) (aG 3))))))
noncomputable def fL:List D→Option D:=fnD 1 0 (eU (qe (dUn (gIs "int") (aG 0)) (Jf (dUn (gIs "bool") (aG 0)))))
noncomputable def jO:List D→Option D:=fnD 2 0 (eU (oF gLe gLt (dOp gIx (aG 0) (dC (.int 0))) (aG 1) (dOp gIx (aG 0) (dC (.int 1)))))
noncomputable def iW:List D→Option D:=fnD 2 0 (eU (dCall jZ (aF (iY (jT (aG 0)) (gNl 0) (bI (dCall jO (aF (aG 0) (aF (aG 1) (bh))))) (fY (aG 0)) 1 [1]) (bh))))
noncomputable def nG:List D→Option D:=fnD 1 0 (eU (iY (jT (aG 0)) (gNl 0) (kW) (fY (dOp gIx (aG 0) (dC (.int 0)))) 1 []))
noncomputable def lB:List D→Option D:=fnD 3 2 (cA (bZ 3 (iY (jT (dCall nG (aF (aG 0) (bh)))) (gNl 0) (bI (dOp gGt (aG 0) (aG 1))) (fY (aG 0)) 1 [2]))
 (cA (mK (jT (dOp oG (iB (aF (aG 2) (bh))) (dCall qg (aF (aG 3) (bh))))) (gNl 4) (sIf (bI (dOp gGt (dCall iW (aF (aG 0) (aF (aG 4) (bh)))) (aG 1))) (eU (fY (aG 4))) (gh)))
 (eU (dC (.none)))))
noncomputable def dw:List D→Option D:=fnD 1 0 (eU (dTup (aF (fY (dOp gIx (aG 0) (dC (.int 0)))) (aF (fY (dOp gIx (aG 0) (dC (.int 1)))) (bh)))))
noncomputable def gF:List D→Option D:=fnD 5 2 (cA (bZ 5 (dCall vN (aF (dC (.int 399)) (aF (dOp iZ (aG 4) (dCall bA (aF (aG 0) (aF (aG 1) (aF (aG 2) (aF (dOp gIx (iB (aF (dC (.int 3)) (aF (dC (.int 9)) (aF (dC (.int 24)) (aF (dC (.int 60)) (bh)))))) (aG 3)) (bh))))))) (bh)))))
 (cA (bZ 6 (dOp iZ (dC (.int 1)) (dCall bA (aF (aG 0) (aF (aG 1) (aF (dOp iZ (aG 2) (dC (.int 1))) (aF (dOp gIx (iB (aF (dC (.int 2)) (aF (dC (.int 6)) (aF (dC (.int 24)) (aF (dC (.int 60)) (bh)))))) (dCall bA (aF (aG 0) (aF (aG 1) (aF (dOp iZ (aG 2) (dC (.int 2))) (aF (dC (.int 4)) (bh))))))) (bh))))))))
 (eU (dTup (aF (fY (aG 5)) (aF (dCall vN (aF (dC (.int 400)) (aF (dOp iZ (aG 5) (aG 6)) (bh)))) (aF (dC (.none)) (bh))))))))
noncomputable def iM:List D→Option D:=fnD 3 1 (cA (bZ 3 (dCall lB (aF (iY (jT (aG 0)) (gNl 0) (kW) (dCall dw (aF (aG 0) (bh))) 1 []) (aF (aG 1) (aF (aG 2) (bh))))))
 (sIf (bI (dUn rY (aG 3))) ((fun _=>none)) (gh)))
noncomputable def fM:List D→Option D:=fnD 3 2 (cA (bZ 3 (dOp Jh (iB (aF (aG 2) (bh))) (aG 1)))
 (cA (mK (jT (aG 0)) (gNl 4) (sIf (bI (dUn rY (dOp gIx (aG 4) (dC (.int 2))))) (GP 3 (dOp gIx (aG 4) (dC (.int 2))) (dOp gIx (aG 4) (dC (.int 1)))) (gh)))
 (eU (Aq (aG 3)))))
noncomputable def ig:List D→Option D:=fnD 5 2 (cA (bZ 5 (dCall tO (aF (dC (.int 0)) (aF (dOp yH (aG 3) (dCall bA (aF (aG 0) (aF (aG 1) (aF (aG 2) (aF (dC (.int 6)) (bh))))))) (bh)))))
 (cA (bZ 6 (dCall bA (aF (aG 0) (aF (aG 1) (aF (dOp iZ (aG 2) (dC (.int 1))) (aF (dOp gIx (iB (aF (dC (.int 2)) (aF (dC (.int 9)) (aF (dC (.int 30)) (bh))))) (dCall bA (aF (aG 0) (aF (aG 1) (aF (dOp iZ (aG 2) (dC (.int 2))) (aF (dC (.int 3)) (bh))))))) (bh)))))))
 (eU (dTup (aF (fY (aG 5)) (aF (dCall vN (aF (dC (.int 400)) (aF (dOp iZ (dOp iZ (aG 3) (dC (.int 1))) (aG 6)) (bh)))) (aF (fY (aG 4)) (bh))))))))
noncomputable def gG:List D→Option D:=fnD 3 1 (cA (mK (jT (dCall qg (aF (dOp oG (iB (aF (aG 2) (bh))) (iY (jT (aG 0)) (gNl 0) (kW) (dCall tO (aF (aG 1) (aF (dOp gIx (aG 0) (dC (.int 0))) (bh)))) 1 [2])) (bh)))) (gNl 3) (sIf (bI (dOp gGt (dCall jZ (aF (iY (jT (aG 0)) (gNl 0) (D3.lE (bI (dOp gLe (dOp gIx (aG 0) (dC (.int 0))) (aG 1))) (bI (dOp gLt (aG 1) (dOp gIx (aG 0) (dC (.int 1)))))) (fY (aG 0)) 1 [3]) (bh))) (aG 1))) (eU (fY (aG 3))) (gh)))
 (eU (dC (.none))))
noncomputable def iQ:List D→Option D:=fnD 4 7 (cA (bZ 4 (dCall bA (aF (aG 0) (aF (dC (.int 0)) (aF (dC (.int 0)) (aF (dC (.int 4)) (bh)))))))
 (cA (bZ 5 (iB (bh)))
 (cA (mK (oU (aF (aG 1) (bh))) (gNl 6) (sIf (D3.lE (bI (dOp gEq (dCall bA (aF (aG 0) (aF (dC (.int 1)) (aF (aG 6) (aF (dC (.int 3)) (bh)))))) (dC (.int 1)))) (bI (dOp gLt (dCall jZ (aF (aG 5) (bh))) (aG 3)))) (cA (bZ 7 (dCall bA (aF (aG 0) (aF (dC (.int 1)) (aF (dOp iZ (dC (.int 12)) (aG 6)) (aF (dOp iZ (dCall jZ (aF (aG 5) (bh))) (dC (.int 1))) (bh)))))))
 (zf 5 (aG 7) (dCall ig (aF (aG 0) (aF (dC (.int 2)) (aF (dOp mW (dC (.int 3)) (aG 6)) (aF (aG 2) (aF (aG 6) (bh))))))))) (gh)))
 (cA (bZ 8 (dOp gEq (dCall bA (aF (aG 0) (aF (dC (.int 0)) (aF (dC (.int 6)) (aF (dC (.int 6)) (bh)))))) (dC (.int 1))))
 (cA (mK (oU (aF (dOp gIx (iB (aF (dC (.int 10)) (aF (dC (.int 30)) (bh)))) (dCall Cv (aF (aG 8) (bh)))) (bh))) (gNl 9) (cA (bZ 10 (dCall gF (aF (aG 0) (aF (dOp iZ (dC (.int 10)) (aG 9)) (aF (dC (.int 0)) (aF (aG 4) (aF (aG 2) (bh))))))))
 (cA (bZ 7 (dCall bA (aF (aG 0) (aF (dC (.int 4)) (aF (aG 9) (aF (dOp iZ (dCall jZ (aF (aG 5) (bh))) (dC (.int 1))) (bh)))))))
 (sIf (D3.lE (bI (dOp gLt (dCall jZ (aF (aG 5) (bh))) (aG 3))) (bI (dUn uF (dCall gG (aF (dOp oG (aG 5) (iB (aF (aG 10) (bh)))) (aF (aG 1) (aF (aG 2) (bh)))))))) (zf 5 (aG 7) (aG 10)) (gh)))))
 (eU (Aq (aG 5))))))))
noncomputable def gw:List D→Option D:=fnD 2 0 (sIf (D3.oE (bI (oF gLe gLt (dC (.int 0)) (aG 1) (aG 0)))) ((fun _=>none)) (gh))
noncomputable def jm:List D→Option D:=fnD 3 0 (eU (dOp gEq (dCall iW (aF (iY (jT (aG 0)) (gNl 0) (kW) (dCall dw (aF (aG 0) (bh))) 1 []) (aF (aG 2) (bh)))) (aG 1)))
noncomputable def gB:List D→Option D:=fnD 4 1 (cA (bZ 4 (dOp gIx (aG 0) (aG 2)))
 (eU (qe (dOp gNe (aG 2) (aG 1)) (qe (dUn uF (dOp gIx (aG 4) (dC (.int 2)))) (qe (dOp gEq (dOp gIx (aG 4) (dC (.int 0))) (aG 3)) (dOp gLe (dOp gIx (aG 4) (dC (.int 1))) (dOp gIx (dOp gIx (aG 0) (aG 1)) (dC (.int 0)))))))))
noncomputable def gC:List D→Option D:=fnD 4 1 (cA (bZ 4 (iY (Av (aG 0)) (gTn 2 (dX (gNl 0) (dX (gNl 1) (nu)))) (bI (dCall gB (aF (aG 2) (aF (aG 3) (aF (aG 0) (aF (aG 4) (bh))))))) (fY (dTup (aF (dOp gIx (aG 1) (dC (.int 1))) (aF (aG 0) (bh))))) 2 [0,2,3]))
 (cA (sIf (D3.oE (bI (dCall jm (aF (aG 0) (aF (aG 1) (aF (aG 3) (bh))))))) (yM 4 (dTup (aF (dOp iZ (aG 3) (dC (.int 1))) (aF (dC (.none)) (bh))))) (gh))
 (eU (Aq (aG 4)))))
noncomputable def j8:List D→Option D:=fnD 1 0 (eU (fY (dOp gIx (iB (aF (dC (.int 0)) (aF (dCall bA (aF (aG 0) (aF (dC (.int 0)) (aF (dC (.int 1)) (aF (dC (.int 40)) (bh)))))) (aF (dCall bA (aF (aG 0) (aF (dC (.int 0)) (aF (dC (.int 1)) (aF (dC (.int 400)) (bh)))))) (aF (dC (.int 390)) (bh)))))) (dCall bA (aF (aG 0) (aF (dC (.int 0)) (aF (dC (.int 2)) (aF (dC (.int 4)) (bh)))))))))
noncomputable def dR:List D→Option D:=fnD 3 3 (cA (mK (jT (aG 0)) (gTn 3 (dX (gNl 3) (dX (gNl 4) (dX (gNl 5) (nu))))) (sIf (D3.lE (bI (dUn rY (aG 5))) (bI (dOp gEq (aG 5) (aG 2)))) (eU (fY (aG 4))) (gh)))
 (eU (fY (aG 1))))
noncomputable def cJ:List D→Option D:=fnD 1 0 (cA (sIf (D3.tOr (D3.oE (bI (dUn (gIs "list") (aG 0)))) (D3.oE (bI (dCall yN (aF (iY (jT (aG 0)) (gNl 0) (kW) (dCall fL (aF (aG 0) (bh))) 1 []) (bh)))))) (eU (dC (.bool false))) (gh))
 (eU (dCall yN (aF (iY (oU (aF (dOp yH (dCall jZ (aF (aG 0) (bh))) (dC (.int 1))) (bh))) (gNl 0) (kW) (dOp gLt (dOp gIx (aG 1) (aG 0)) (dOp gIx (aG 1) (dOp iZ (aG 0) (dC (.int 1))))) 1 [0]) (bh)))))
noncomputable def iR:List D→Option D:=fnD 1 0 (eU (dCall yN (aF (iY (Mt (aG 0) (dSl (aG 0) (Ef (dC (.int 1))) Ji)) (gTn 2 (dX (gNl 0) (dX (gNl 1) (nu)))) (kW) (dOp gLt (aG 0) (aG 1)) 2 []) (bh))))
noncomputable def gH:List D→Option D:=fnD 4 2 (cA (mK (jT (aG 3)) (gNl 4) (mK (jT (dCall gC (aF (aG 0) (aF (aG 1) (aF (aG 2) (aF (aG 4) (bh))))))) (gNl 5) (sIf (bI (dOp nA (dOp gIx (aG 5) (dC (.int 0))) (aG 3))) (eU (dC (.bool false))) (gh))))
 (eU (dC (.bool true))))
end Com
namespace Com
open PySem D3 My
theorem ur {ns:List Int} {i:Int} (h0:0 ≤ i) (h1:i < ns.length):pAt (ns.map PyData.int) i=some (.int (ns.getD i.toNat 0)):=by
 unfold pAt pIx
 rw [aH,if_pos h0,if_pos h1,aK,bf]
 have h:i.toNat < ns.length:=by omega
 rw [aN h]
 simp [List.getD,h]
theorem lC {l:List D} {k:Nat}:pAt l (k:Int)=l[k]?:=by
 unfold pAt pIx
 rw [if_pos (by omega)]
 by_cases h:k < l.length
 ·rw [if_pos (by omega),aK]
  simp
 ·rw [if_neg (by omega),cF (by omega)]
  rfl
theorem at0 {a:D} {l:List D}:pAt (a :: l) 0=some a:=lC (k:=0)
theorem at1 {a b:D} {l:List D}:pAt (a :: b :: l) 1=some b:=lC (k:=1)
theorem zL {i j:Int} (h:0 < j):sG (.int i) (.int j)=some (.int (i % j)):=by
 show (if decide (j ≠ 0)=true then some (PyData.int (i.fmod j)) else none)=_
 rw [if_pos (dTr (by omega)),Int.fmod_eq_emod_of_nonneg i (by omega)]
theorem KY {j:Int} (h:j.natAbs < 2 ^ 64):j.natAbs < 2 ^ 9000:=bY h (Nat.pow_le_pow_right (by decide) (by decide))
theorem X3 {i j:Int} (h:0 < j) (h2:j.natAbs < 2 ^ 9000):Ar (.int i) (.int j)=some (.int (i / j)):=by
 show (if Cu i j=true then some (PyData.int (i.fdiv j)) else none)=_
 have e:Cu i j=true:=by
  unfold Cu
  rw [aO]
  exact ⟨dTr (by omega),dTr h2⟩
 rw [if_pos e,Int.fdiv_eq_ediv_of_nonneg i (by omega)]
theorem Wn {i j:Int} (h:0 < j) (h2:j < 18446744073709551616):Ar (.int i) (.int j)=some (.int (i / j)):=X3 h (KY (by omega))
theorem mulL {i j:Int} (h1 : -18446744073709551616 < i) (h2:i < 18446744073709551616):mW (.int i) (.int j)=some (.int (i * j)):=by
 show (if vL i j=true then some (PyData.int (i * j)) else none)=_
 have e:vL i j=true:=by
  unfold vL
  rw [dTr (show i.natAbs < 2 ^ 64 by omega)]
  rfl
 rw [if_pos e]
theorem mulR {i j:Int} (h1 : -18446744073709551616 < j) (h2:j < 18446744073709551616):mW (.int i) (.int j)=some (.int (i * j)):=by
 show (if vL i j=true then some (PyData.int (i * j)) else none)=_
 have e:vL i j=true:=by
  unfold vL
  rw [dTr (show j.natAbs < 2 ^ 64 by omega),Bool.or_true]
  rfl
 rw [if_pos e]
theorem Qf:Q_ (.int 10) (.int 40)=some (.int (10 ^ 40)):=rfl
theorem sz {n:Nat} (h:n ≤ 1000000):n ≤ sizeLine:=bV h (by decide)
theorem shaped_ints (ns:List Int):SeqAt.shaped (.list (ns.map PyData.int))=true:=by
 have h1:∀ ns:List Int,PyData.canLayAll0 (ns.map PyData.int)=true:=fun ns=>by
  induction ns with
  | nil=>rfl
  | cons a r ih=>simp [PyData.canLayAll0,PyData.canLay0,ih]
 have h2:∀ ns:List Int,PyData.depthAll (ns.map PyData.int) ≤ 1:=fun ns=>by
  induction ns with
  | nil=>simp [PyData.depthAll]
  | cons a r ih=>simp [PyData.depthAll,PyData.depth];omega
 unfold SeqAt.shaped
 rw [aO]
 refine ⟨by simp [PyData.canLay0,h1],dTr ?_⟩
 have:=h2 ns
 simp only [PyData.depth]
 omega
theorem eq_empty (ns:List Int):gEq (.list (ns.map PyData.int)) (.list [])=some (.bool (decide (ns=[]))):=by
 unfold gEq
 rw [shaped_ints ns]
 cases ns with
 | nil=>rfl
 | cons a r=>rfl
theorem Hv {ns:List Int} {i:Int} (h0:0 ≤ i):je [.list (ns.map .int),.int i]=some (.int (n6 ns i)):=by
 unfold je n6
 by_cases h:i < (ns.length:Int)
 ·rw [if_pos h]
  simp only [EV,reduceIte,au,aA,ao,aq,aB,aC,aD,lMp,dTr h,ur h0 h,zL (show (0:Int) < 1000000007 by decide)]
 ·rw [if_neg h]
  by_cases hn:ns=[]
  ·rw [if_pos hn]
   simp only [EV,reduceIte,au,aA,ao,aq,aB,aC,aD,lMp,dFa h,eq_empty,dTr hn,fu,mulL (show (-18446744073709551616:Int) < 7919 by decide) (show (7919:Int) < 18446744073709551616 by decide)]
  ·rw [if_neg hn]
   have hl:0 < ns.length:=by
    cases ns with
    | nil=>exact absurd rfl hn
    | cons _ _=>simp
   have h7:0 ≤ i * 7 % (ns.length:Int):=ju _ (by omega)
   have h8:i * 7 % (ns.length:Int) < (ns.length:Int):=iy _ (by omega)
   simp only [EV,reduceIte,au,aA,ao,aq,aB,aC,aD,lMp,dFa h,eq_empty,dFa hn,fu,mulL (show (-18446744073709551616:Int) < 7919 by decide) (show (7919:Int) < 18446744073709551616 by decide),mulR (show (-18446744073709551616:Int) < 7 by decide) (show (7:Int) < 18446744073709551616 by decide),zL (show (0:Int) < 1000000007 by decide),zL (show (0:Int) < ns.length by omega),ur h7 h8]
theorem yx {l:D} {i k m:D} (n:Int):∀ (js:List D) (c:Nat) (y:Option U),(∀ j ∈ js,∃ x,j = .int x)→∃ y',jF (gNl 5) (bZ 4 (dOp Ar (aG 4) (dC (.int 1000003)))) js [some (.d l),some (.d i),some (.d k),some (.d m),some (.d (.int (divs n c))),y] =
 some (.nx [some (.d l),some (.d i),some (.d k),some (.d m),some (.d (.int (divs n (c + js.length)))),y'])
 | [],c,y,_=>⟨y,rfl⟩
 | j :: js,c,y,h=>by
  obtain ⟨y',e⟩:=yx (l:=l) (i:=i) (k:=k) (m:=m) n js (c + 1) (some (.d j)) fun j' hj=>h j' (aL _ hj)
  refine ⟨y',?_⟩
  rw [jF]
  simp only [EV,reduceIte,au,aA,ao,aq,aB,aC,aD,Wn (show (0:Int) < 1000003 by decide) (show (1000003:Int) < 18446744073709551616 by decide),aK]
  rw [show c + (js.length + 1)=c + 1 + js.length by omega,← e]
  rfl
theorem Hw (lo hi:Int):∀ j ∈ iV lo hi,∃ x,j = .int x:=by
 intro j hj
 unfold iV at hj
 obtain ⟨k,_,rfl⟩:=bT.mp hj
 exact ⟨_,rfl⟩
theorem cU {ns:List Int} {i k m:Int} (h0:0 ≤ i) (hk0:0 ≤ k) (hk:k ≤ 1000) (hm:0 < m):bA [.list (ns.map .int),.int i,.int k,.int m]=some (.int (gk ns i k m)):=by
 have rest:∀ x y:Option U,qFn ((cA (bZ 4 (dOp sG (dOp mW (dOp iZ (dOp iZ (dCall je (aF (aG 0) (aF (aG 1) (bh)))) (dOp mW (dC (.int 65537)) (aG 1))) (dC (.int 3))) (dOp iZ (dC (.int 1299709)) (dOp mW (dC (.int 15485863)) (aG 2)))) (dC (.int 2147483629))))
  (cA (bZ 4 (dOp iZ (dOp sG (dOp mW (aG 4) (aG 4)) (dC (.int 1500450271))) (dC (.int 104729))))
  (eU (dOp sG (dOp Ar (dOp sG (dOp mW (aG 4) (aG 4)) (dC (.int 715827883))) (dC (.int 64))) (aG 3))))) [some (.d (.list (ns.map .int))),some (.d (.int i)),some (.d (.int k)),some (.d (.int m)),x,y])=some (.int (FJ (n6 ns i) i k m)):=by
  intro x y
  have b1:0 ≤ (n6 ns i + 65537 * i + 3) * (1299709 + 15485863 * k) % 2147483629:=ju _ (by decide)
  have b2:(n6 ns i + 65537 * i + 3) * (1299709 + 15485863 * k) % 2147483629 < 2147483629:=iy _ (by decide)
  have b3:0 ≤ (n6 ns i + 65537 * i + 3) * (1299709 + 15485863 * k) % 2147483629 * ((n6 ns i + 65537 * i + 3) * (1299709 + 15485863 * k) % 2147483629) % 1500450271:=ju _ (by decide)
  have b4:(n6 ns i + 65537 * i + 3) * (1299709 + 15485863 * k) % 2147483629 * ((n6 ns i + 65537 * i + 3) * (1299709 + 15485863 * k) % 2147483629) % 1500450271 < 1500450271:=iy _ (by decide)
  simp only [EV,reduceIte,au,aA,ao,aq,aB,aC,aD,Hv h0,mulL (show (-18446744073709551616:Int) < 65537 by decide) (show (65537:Int) < 18446744073709551616 by decide),mulL (show (-18446744073709551616:Int) < 15485863 by decide) (show (15485863:Int) < 18446744073709551616 by decide),
   mulR (i:=n6 ns i + 65537 * i + 3) (show (-18446744073709551616:Int) < 1299709 + 15485863 * k by omega) (show 1299709 + 15485863 * k < (18446744073709551616:Int) by omega),zL (show (0:Int) < 2147483629 by decide)]
  simp only [mulL (show (-18446744073709551616:Int) < (n6 ns i + 65537 * i + 3) * (1299709 + 15485863 * k) % 2147483629 by omega) (show (n6 ns i + 65537 * i + 3) * (1299709 + 15485863 * k) % 2147483629 < (18446744073709551616:Int) by omega)]
  simp only [EV,reduceIte,au,aA,ao,aq,aB,aC,aD,zL (show (0:Int) < 1500450271 by decide)]
  rw [mulL (by omega) (by omega)]
  simp only [EV,reduceIte,au,aA,ao,aq,aB,aC,aD,zL (show (0:Int) < 715827883 by decide),Wn (show (0:Int) < 64 by decide) (show (64:Int) < 18446744073709551616 by decide),zL hm]
  rfl
 unfold bA
 rw [VR]
 simp only [EV,reduceIte,au,aA,ao,aq,aB,aC,aD]
 by_cases h:i < (ns.length:Int)
 ·by_cases h2:10 ^ 40 ≤ ns.getD i.toNat 0
  ·simp only [EV,reduceIte,au,aA,ao,aq,aB,aC,aD,lMp,dTr h,ur h0 h,Qf,dTr h2]
   obtain ⟨y',e⟩:=yx (l:=.list (ns.map .int)) (i:=.int i) (k:=.int k) (m:=.int m) (ns.getD i.toNat 0) (iV 0 k) 0 none (Hw 0 k)
   have el:0 + (iV 0 k).length=k.toNat:=by simp [iV]
   rw [el] at e
   have e':jF (gNl 5) (bZ 4 (dOp Ar (aG 4) (dC (.int 1000003)))) (iV 0 k) [some (.d (.list (ns.map .int))),some (.d (.int i)),some (.d (.int k)),some (.d (.int m)),some (.d (.int (ns.getD i.toNat 0))),none] =
    some (.nx [some (.d (.list (ns.map .int))),some (.d (.int i)),some (.d (.int k)),some (.d (.int m)),some (.d (.int (divs (ns.getD i.toNat 0) k.toNat))),y']):=e
   rw [Bu (by omega) (by omega)]
   simp only [EV,reduceIte,au,aA,ao,aq,aB,aC,aD,e']
   by_cases h3:0 < divs (ns.getD i.toNat 0) k.toNat
   ·simp only [EV,reduceIte,au,aA,ao,aq,aB,aC,aD,dTr h3,zL (show (0:Int) < 1000003 by decide),zL hm]
    rw [Hu h h2 h3]
   ·simp only [EV,reduceIte,au,aA,ao,aq,aB,aC,aD,dFa h3]
    rw [sU (fun z=>h3 z.2.2)]
    have:=rest (some (.d (.int (divs (ns.getD i.toNat 0) k.toNat)))) y'
    simp only [EV,reduceIte,au,aA,ao,aq,aB,aC,aD] at this
    exact this
  ·simp only [EV,reduceIte,au,aA,ao,aq,aB,aC,aD,lMp,dTr h,ur h0 h,Qf,dFa h2]
   rw [sU (fun z=>h2 z.2.1)]
   have:=rest none none
   simp only [EV,reduceIte,au,aA,ao,aq,aB,aC,aD] at this
   exact this
 ·simp only [EV,reduceIte,au,aA,ao,aq,aB,aC,aD,lMp,dFa h]
  rw [sU (fun z=>h z.1)]
  have:=rest none none
  simp only [EV,reduceIte,au,aA,ao,aq,aB,aC,aD] at this
  exact this
end Com
namespace Com
open PySem D3 My
theorem Hx {α:Type} {g:FG} {c:FT} {e:FE} {δ:DS} (f:α→D) (p:α→Bool) (h:α→D):∀ l:List α,(∀ s ∈ l,∃ δ1,g (f s) δ=some δ1∧c δ1=some (p s)∧(p s=true→e δ1=some (h s)))→gU g c e δ (l.map f)=some ((l.filter p).map h)
 | [],_=>rfl
 | s :: r,hs=>by
  obtain ⟨δ1,e1,e2,e3⟩:=hs s aP
  have ih:=Hx f p h r fun x hx=>hs x (aL _ hx)
  rw [bM,gU,e1,aK,e2,aK]
  by_cases c:p s=true
  ·rw [if_pos c,e3 c,aK,ih,List.filter_cons,if_pos c]
   rfl
  ·rw [if_neg c,ih,List.filter_cons,if_neg c]
theorem wX {α:Type} {g:FG} {c:FT} {e:FE} {δ:DS} (f:α→D) (h:α→D):∀ l:List α,(∀ s ∈ l,∃ δ1,g (f s) δ=some δ1∧c δ1=some true∧e δ1=some (h s))→gU g c e δ (l.map f)=some (l.map h)
 | [],_=>rfl
 | s :: r,hs=>by
  obtain ⟨δ1,e1,e2,e3⟩:=hs s aP
  rw [bM,gU,e1,aK,e2,aK,if_pos rfl,e3,aK,wX f h r fun x hx=>hs x (aL _ hx)]
  rfl
theorem m5 {α:Type} (f:α→D) (h:∀ a,flat (f a)=true):∀ l:List α,flats (l.map f)=true
 | []=>rfl
 | a :: r=>by rw [bM,flats,h,m5 f h r];rfl
theorem at2 {a b c:D} {l:List D}:pAt (a :: b :: c :: l) 2=some c:=lC (k:=2)
theorem at3 {a b c d:D} {l:List D}:pAt (a :: b :: c :: d :: l) 3=some d:=lC (k:=3)
theorem FN {α:Type} (f:α→D) {l:List α} {i:Int} (h0:0 ≤ i) (h1:i < l.length):∃ a ∈ l,pAt (l.map f) i=some (f a):=by
 have hk:i.toNat < l.length:=by omega
 refine ⟨l[i.toNat],dZ hk,?_⟩
 obtain ⟨k,rfl⟩:∃ k:Nat,i=(k:Int):=⟨i.toNat,by omega⟩
 rw [lC,bf]
 simp only [dO] at hk ⊢
 rw [aN hk]
 rfl
theorem rM {m:Int}:(iV 0 m).length=m.toNat:=by unfold iV;rw [aH,cC,sY]
theorem vo (m:Int):iV 0 m=(aX m.toNat).map fun k:Nat=>PyData.int (k:Int):=by
 unfold iV
 rw [sY]
 apply rP
 intro k _
 rw [Int.zero_add]
theorem wD {m:Int} {i:Nat} {d:D} (h:(iV 0 m)[i]? = some d):(i:Int) < m∧d = .int (i:Int):=by
 rw [vo,bf] at h
 by_cases hi:i < m.toNat
 ·rw [d_ hi] at h
  cases h
  exact ⟨by omega,rfl⟩
 ·rw [cF (by simpa using hi)] at h
  cases h
theorem Wo {l:List D} {k:Int} (h:0 ≤ k):cutD l (some k) none=l.drop k.toNat:=by
 unfold cutD
 have e:pSx l.length 0 (some k)=min k.toNat l.length:=by
  show (if k < 0 then _ else _)=_
  rw [if_neg (by omega)]
 rw [e,show pSx l.length l.length none=l.length from rfl]
 by_cases c:k.toNat ≤ l.length
 ·rw [show min k.toNat l.length=k.toNat by omega,cY (by rw [cL];omega)]
 ·rw [show min k.toNat l.length=l.length by omega,o9 (by omega),o9 (by omega)]
  simp
theorem isList:D3.isT "list" "list" = true:=rfl
mutual
theorem eqv_refl:∀ d:D,d.canLay0=true→PyData.eqv d d=true
 | .none,_=>by simp [PyData.eqv]
 | .bool b,_=>by simp [PyData.eqv]
 | .int i,_=>by simp [PyData.eqv]
 | .str x,_=>by simp [PyData.eqv]
 | .list l,h=>by
  have:=eqvAll_refl l (by simpa [PyData.canLay0] using h)
  simpa [PyData.eqv] using this
 | .tuple l,h=>by
  have:=eqvAll_refl l (by simpa [PyData.canLay0] using h)
  simpa [PyData.eqv] using this
 | .dict l,h=>by simp [PyData.canLay0] at h
theorem eqvAll_refl:∀ l:List D,PyData.canLayAll0 l=true→PyData.eqvAll l l=true
 | [],_=>by simp [PyData.eqvAll]
 | d :: r,h=>by
  rw [PyData.canLayAll0,aO] at h
  rw [PyData.eqvAll,eqv_refl d h.1,eqvAll_refl r h.2]
  rfl
end
noncomputable def ly (n:Nat) (d:D):Prop:=d.canLay0=true∧d.depth ≤ n
noncomputable def lys (n:Nat) (l:List D):Prop:=PyData.canLayAll0 l=true∧PyData.depthAll l ≤ n
theorem FP {n m:Nat} {d:D} (h:ly n d) (l:n ≤ m):ly m d:=⟨h.1,bV h.2 l⟩
theorem FQ {n:Nat}:lys n []:=⟨by simp [PyData.canLayAll0],by simp [PyData.depthAll]⟩
theorem uw {n:Nat} {d:D} {l:List D} (h:ly n d) (q:lys n l):lys n (d :: l) :=
 ⟨by rw [PyData.canLayAll0,h.1,q.1];rfl,by have:=h.2;have:=q.2;simp only [PyData.depthAll];omega⟩
theorem zM {α:Type} {n:Nat} (f:α→D) (h:∀ a,ly n (f a)):∀ l:List α,lys n (l.map f)
 | []=>FQ
 | a :: r=>uw (h a) (zM f h r)
theorem FW {n:Nat} {l:List D} (h:lys n l):ly (n + 1) (.list l):=⟨by simp [PyData.canLay0,h.1],by have:=h.2;simp only [PyData.depth];omega⟩
theorem TJ {n:Nat} {l:List D} (h:lys n l):ly (n + 1) (.tuple l):=⟨by simp [PyData.canLay0,h.1],by have:=h.2;simp only [PyData.depth];omega⟩
theorem wF {n:Nat} {i:Int}:ly (n + 1) (.int i):=⟨rfl,by simp [PyData.depth]⟩
theorem yC {d:D} (h:ly 60 d):SeqAt.shaped d=true:=by
 unfold SeqAt.shaped
 rw [aO]
 exact ⟨h.1,dTr (by have:=h.2;omega)⟩
theorem eq_self {d:D} (h:ly 60 d):gEq d d=some (.bool true):=by
 unfold gEq
 rw [yC h,eqv_refl d h.1]
 rfl
end Com
namespace Com
open PySem D3 My
theorem comp_map {g:FG} {c:FT} {e:FE} {δ:DS} (h:D→D):∀ l:List D,(∀ d ∈ l,∃ δ1,g d δ=some δ1∧c δ1=some true∧e δ1=some (h d))→gU g c e δ l=some (l.map h)
 | [],_=>rfl
 | d :: r,hs=>by
  obtain ⟨δ1,e1,e2,e3⟩:=hs d aP
  rw [gU,e1,aK,e2,aK,if_pos rfl,e3,aK,comp_map h r fun x hx=>hs x (aL _ hx)]
  rfl
end Com
namespace Com
open PySem D3 My
noncomputable abbrev Sh:=Int × Int
noncomputable def stD (s:Sh):D:=.tuple [.int s.1,.int s.2]
noncomputable def hb (n:Int) (s:Sh):Bool:=decide (s.1 ≤ n) && decide (n < s.2)
noncomputable def cnt (ss:List Sh) (n:Int):Nat:=(ss.filter (hb n)).length
theorem O4 (r:Sh):flat (stD r)=true:=rfl
theorem Dr (s:Sh) (n:Int):jO [stD s,.int n]=some (.bool (hb n s)):=by
 unfold jO stD hb
 by_cases h:s.1 ≤ n
 ·simp only [EV,reduceIte,au,aA,ao,aq,aB,aC,aD,at0,at1,dTr h,jz]
 ·simp only [EV,reduceIte,au,aA,ao,aq,aB,aC,aD,at0,at1,dFa h,iw]
theorem uP {g:FG} {c:FT} {e:FE} {δ:DS} (f:Sh→D) (p:Sh→Bool) (h:Sh→D):∀ l:List Sh,(∀ s ∈ l,∃ δ1,g (f s) δ=some δ1∧c δ1=some (p s)∧e δ1=some (h s))→gU g c e δ (l.map f)=some ((l.filter p).map h)
 | [],_=>rfl
 | s :: r,hs=>by
  obtain ⟨δ1,e1,e2,e3⟩:=hs s aP
  have ih:=uP f p h r fun x hx=>hs x (aL _ hx)
  rw [bM,gU,e1,aK,e2,aK]
  cases hp:p s with
  | true =>
   rw [if_pos rfl,e3,aK,ih,j9 (by simpa using hp)]
   rfl
  | false =>
   rw [if_neg (by decide),ih,j_ (by simpa using hp)]
theorem wG {ss:List Sh} (hl:ss.length ≤ 1000) (n:Int):iW [.list (ss.map stD),.int n]=some (.int (cnt ss n:Int)):=by
 have C:=uP (g:=gNl 0) (c:=bI (dCall jO (aF (aG 0) (aF (aG 1) (bh))))) (e:=fY (aG 0)) (δ:=[none,some (.d (.int n))]) stD (hb n) stD ss (fun s _=>⟨[some (.d (stD s)),some (.d (.int n))],rfl,by simp only [EV,reduceIte,au,aA,ao,aq,aB,aC,aD,Dr],by simp only [EV,reduceIte,au,aA,ao,aq,aB,aC,aD,O4]⟩)
 unfold iW
 simp only [EV,reduceIte,au,aA,ao,aq,aB,aC,aD,lMp,show ss.length ≤ 100000 by omega]
 rw [show kY 1 [1] [some (U.d (PyData.list (ss.map stD))),some (U.d (PyData.int n))]=[none,some (.d (.int n))] from rfl,C]
 simp only [EV,reduceIte,au,aA,ao,aq,aB,aC,aD,lMp]
 rfl
theorem Bv {ss:List Sh} (hl:ss.length ≤ 1000):nG [.list (ss.map stD)]=some (.list ((ss.map (·.1)).map .int)):=by
 unfold nG
 have C:=comp_map (g:=gNl 0) (c:=D3.kW) (e:=fY (dOp gIx (aG 0) (dC (.int 0)))) (δ:=[none]) (fun d=>match d with | .tuple (a :: _)=>a | _=>.none) (ss.map stD) (fun d hd=>by
  obtain ⟨r,_,rfl⟩:=bT.mp hd
  refine ⟨[some (.d (stD r))],rfl,rfl,?_⟩
  unfold stD
  simp only [EV,reduceIte,au,aA,ao,aq,aB,aC,aD,at0])
 simp only [EV,reduceIte,au,aA,ao,aq,aB,aC,aD,lMp,show ss.length ≤ 100000 by omega]
 rw [show ∀ a:Option U,kY 1 [] [a]=[none] from fun _=>rfl,C]
 simp only [EV,reduceIte,au,aA,ao,aq,aB,aC,aD]
 rw [h_,h_]
 rfl
end Com
namespace Com
open PySem D3 My
theorem zl0:0 ≤ sizeLine:=fu _
theorem zl1:1 ≤ sizeLine:=sz (by decide)
theorem zl2:2 ≤ sizeLine:=sz (by decide)
theorem zl3:3 ≤ sizeLine:=sz (by decide)
theorem zl4:4 ≤ sizeLine:=sz (by decide)
noncomputable abbrev Ty:=Int × Int × Option Nat
noncomputable def hD:Option Nat→D
 | none=>.none
 | some r=>.int (r:Int)
noncomputable def yD (s:Ty):D:=.tuple [.int s.1,.int s.2.1,hD s.2.2]
theorem fli (i:Int):flat (.int i)=true:=rfl
theorem FZ (s:Ty):flat (yD s)=true:=by
 unfold yD hD
 obtain ⟨a,b,c⟩:=s
 cases c <;> rfl
theorem Wq {n:Nat} (o:Option Nat):ly (n + 1) (hD o):=by
 cases o with
 | none=>exact ⟨rfl,by simp [hD,PyData.depth]⟩
 | some r=>exact wF
theorem Wr {n:Nat} (s:Ty):ly (n + 2) (yD s):=TJ (uw wF (uw wF (uw (Wq _) FQ)))
noncomputable def hol (x:Int) (s:Ty):Bool:=decide (s.1 ≤ x) && decide (x < s.2.1)
noncomputable def jc (L:List Ty) (x:Int):Nat:=(L.filter (hol x)).length
theorem Hy {L L':List Ty} (p:L.Perm L') (x:Int):jc L x=jc L' x:=(p.filter _).length_eq
theorem Ga (L:List Ty) (x:Int):jc L x ≤ L.length:=dN _ _
theorem Ds (ns:List Int) {a m now:Int} (h0:0 ≤ a) (m0:0 ≤ m) (m1:m < 4) (n1:now ≤ 399) :
 ∃ s:Ty,(now ≤ s.1∧s.1 ≤ now + 59)∧(s.1 < s.2.1∧s.2.1 ≤ 400)∧s.2.2=none∧gF [.list (ns.map .int),.int a,.int 0,.int m,.int now]=some (yD s):=by
 have go:∀ A:Int,pAt [.int 3,.int 9,.int 24,.int 60] m=some (.int A)→0 < A→A ≤ 60→∃ s:Ty,(now ≤ s.1∧s.1 ≤ now + 59)∧(s.1 < s.2.1∧s.2.1 ≤ 400)∧s.2.2=none∧gF [.list (ns.map .int),.int a,.int 0,.int m,.int now]=some (yD s):=by
  intro A eA A0 A6
  have p1:=cU (ns:=ns) (i:=a) (k:=0) (m:=A) h0 (by decide) (by decide) A0
  have p2:=cU (ns:=ns) (i:=a) (k:=2) (m:=4) h0 (by decide) (by decide) (by decide)
  have r1:=cP ns a 0 A0
  have r2:=cP ns a 2 (m:=4) (by decide)
  generalize gk ns a 0 A=x1 at *
  generalize gk ns a 2 4=x2 at *
  have inner:∀ B:Int,pAt [.int 2,.int 6,.int 24,.int 60] x2=some (.int B)→0 < B→∃ s:Ty,(now ≤ s.1∧s.1 ≤ now + 59)∧(s.1 < s.2.1∧s.2.1 ≤ 400)∧s.2.2=none∧gF [.list (ns.map .int),.int a,.int 0,.int m,.int now]=some (yD s):=by
   intro B eB B0
   have p3:=cU (ns:=ns) (i:=a) (k:=1) (m:=B) h0 (by decide) (by decide) B0
   have r3:=cP ns a 1 B0
   generalize gk ns a 1 B=x3 at *
   refine ⟨(if now + x1 < 399 then now + x1 else 399,if (if now + x1 < 399 then now + x1 else 399) + (1 + x3) < 400 then (if now + x1 < 399 then now + x1 else 399) + (1 + x3) else 400,none),?_,?_,rfl,?_⟩
   ·dsimp only;refine ⟨?_,?_⟩ <;> split <;> omega
   ·dsimp only;refine ⟨?_,?_⟩ <;> split <;> split <;> omega
   ·have z1:(0:Int) + 1=1:=rfl
    have z2:(0:Int) + 2=2:=rfl
    unfold gF
    simp only [EV,reduceIte,au,aA,ao,aq,aB,aC,aD,zl4,zl3,fli,eA,p1,z1,z2,p2,eB,p3,KJ]
    rfl
  have:x2=0∨x2=1∨x2=2∨x2=3:=by omega
  rcases this with rfl | rfl | rfl | rfl
  ·exact inner 2 rfl (by decide)
  ·exact inner 6 rfl (by decide)
  ·exact inner 24 rfl (by decide)
  ·exact inner 60 rfl (by decide)
 have:m=0∨m=1∨m=2∨m=3:=by omega
 rcases this with rfl | rfl | rfl | rfl
 ·exact go 3 rfl (by decide) (by decide)
 ·exact go 9 rfl (by decide) (by decide)
 ·exact go 24 rfl (by decide) (by decide)
 ·exact go 60 rfl (by decide) (by decide)
theorem Dt (ns:List Int) {now:Int} {r:Nat} (hr:r ≤ 12) (n0:0 ≤ now) (n1:now ≤ 399) :
 ∃ b e:Int,(0 ≤ b∧b ≤ now)∧(now < e∧e ≤ 400)∧ig [.list (ns.map .int),.int 2,.int (3 * (r:Int)),.int now,.int (r:Int)]=some (yD (b,e,some r)):=by
 have p1:=cU (ns:=ns) (i:=2) (k:=3 * (r:Int)) (m:=6) (by decide) (by omega) (by omega) (by decide)
 have p2:=cU (ns:=ns) (i:=2) (k:=3 * (r:Int) + 2) (m:=3) (by decide) (by omega) (by omega) (by decide)
 have r1:=cP ns 2 (3 * (r:Int)) (m:=6) (by decide)
 have r2:=cP ns 2 (3 * (r:Int) + 2) (m:=3) (by decide)
 generalize gk ns 2 (3 * (r:Int)) 6=x1 at *
 generalize gk ns 2 (3 * (r:Int) + 2) 3=x2 at *
 have inner:∀ B:Int,pAt [.int 2,.int 9,.int 30] x2=some (.int B)→0 < B→∃ b e:Int,(0 ≤ b∧b ≤ now)∧(now < e∧e ≤ 400)∧ig [.list (ns.map .int),.int 2,.int (3 * (r:Int)),.int now,.int (r:Int)]=some (yD (b,e,some r)):=by
  intro B eB B0
  have p3:=cU (ns:=ns) (i:=2) (k:=3 * (r:Int) + 1) (m:=B) (by decide) (by omega) (by omega) B0
  have r3:=cP ns 2 (3 * (r:Int) + 1) B0
  generalize gk ns 2 (3 * (r:Int) + 1) B=x3 at *
  refine ⟨if now - x1 > 0 then now - x1 else 0,if now + 1 + x3 < 400 then now + 1 + x3 else 400,?_,?_,?_⟩
  ·refine ⟨?_,?_⟩ <;> split <;> omega
  ·refine ⟨?_,?_⟩ <;> split <;> omega
  ·unfold ig
   simp only [EV,reduceIte,au,aA,ao,aq,aB,aC,aD,zl3,fli,p1,p2,eB,p3,KJ,KH]
   rfl
 have:x2=0∨x2=1∨x2=2:=by omega
 rcases this with rfl | rfl | rfl
 ·exact inner 2 rfl (by decide)
 ·exact inner 9 rfl (by decide)
 ·exact inner 30 rfl (by decide)
theorem KZ (ns:List Int):∃ now:Int,0 ≤ now∧now ≤ 399∧j8 [.list (ns.map .int)]=some (.int now):=by
 have p1:=cU (ns:=ns) (i:=0) (k:=1) (m:=40) (by decide) (by decide) (by decide) (by decide)
 have p2:=cU (ns:=ns) (i:=0) (k:=1) (m:=400) (by decide) (by decide) (by decide) (by decide)
 have p3:=cU (ns:=ns) (i:=0) (k:=2) (m:=4) (by decide) (by decide) (by decide) (by decide)
 have r1:=cP ns 0 1 (m:=40) (by decide)
 have r2:=cP ns 0 1 (m:=400) (by decide)
 have r3:=cP ns 0 2 (m:=4) (by decide)
 generalize gk ns 0 1 40=x1 at *
 generalize gk ns 0 1 400=x2 at *
 generalize gk ns 0 2 4=x3 at *
 have:x3=0∨x3=1∨x3=2∨x3=3:=by omega
 have fl:∀ i,flat (.int i)=true:=fun _=>rfl
 unfold j8
 rcases this with rfl | rfl | rfl | rfl
 ·exact ⟨0,by omega,by omega,by simp only [EV,reduceIte,au,aA,ao,aq,aB,aC,aD,zl4,p1,p2,p3,at0,fl]⟩
 ·exact ⟨x1,by omega,by omega,by simp only [EV,reduceIte,au,aA,ao,aq,aB,aC,aD,zl4,p1,p2,p3,at1,fl]⟩
 ·exact ⟨x2,by omega,by omega,by simp only [EV,reduceIte,au,aA,ao,aq,aB,aC,aD,zl4,p1,p2,p3,at2,fl]⟩
 ·exact ⟨390,by omega,by omega,by simp only [EV,reduceIte,au,aA,ao,aq,aB,aC,aD,zl4,p1,p2,p3,at3,fl]⟩
theorem K1 {g:FG} {b:FS} (Inv:DS→Prop) (P V:D→Prop):∀ (l:List D) (δ:DS),Inv δ→(∀ d ∈ l,∀ δ,Inv δ→∃ δ1,g d δ=some δ1∧((∃ δ',b δ1=some (.nx δ')∧Inv δ'∧P d)∨∃ v,b δ1=some (.rt v)∧V v)) →
 (∃ δ',jF g b l δ=some (.nx δ')∧Inv δ'∧∀ d ∈ l,P d)∨∃ v,jF g b l δ=some (.rt v)∧V v
 | [],δ,h,_=>.inl ⟨δ,rfl,h,fun _ z=>by cases z⟩
 | d :: l,δ,h,s=>by
  obtain ⟨δ1,e1,z⟩:=s d aP δ h
  rcases z with ⟨δ',e2,h2,hp⟩ | ⟨v,e2,hv⟩
  ·have e:jF g b (d :: l) δ=jF g b l δ':=by rw [jF,e1,aK,e2,aK]
   rw [e]
   rcases K1 Inv P V l δ' h2 (fun d hd=>s d (aL _ hd)) with ⟨δ2,a1,a2,a3⟩ | z
   ·exact .inl ⟨δ2,a1,a2,fun x hx=>by
     rcases aR.mp hx with rfl | y
     ·exact hp
     ·exact a3 x y⟩
   ·exact .inr z
  ·exact .inr ⟨v,by rw [jF,e1,aK,e2,aK],hv⟩
theorem Hz {L:List Ty} {M:Nat} {now:Int} (hl:L.length ≤ 62) :
 (gG [.list (L.map yD),.int (M:Int),.int now]=some .none∧∀ s ∈ L,jc L (if s.1 > now then s.1 else now) ≤ M)∨∃ x,gG [.list (L.map yD),.int (M:Int),.int now]=some (.int x)∧M < jc L x:=by
 have C:gU (gNl 0) (D3.kW) (dCall tO (aF (aG 1) (aF (dOp gIx (aG 0) (dC (.int 0))) (bh)))) (kY 1 [2] [some (.d (.list (L.map yD))),some (.d (.int (M:Int))),some (.d (.int now)),none]) (L.map yD)=some ((L.map fun s=>if s.1 > now then s.1 else now).map PyData.int):=by
  rw [h_]
  exact wX yD _ L fun s _=>⟨[some (.d (yD s)),some (.d (.int now))],rfl,rfl,by unfold yD;simp only [EV,reduceIte,au,aA,ao,aq,aB,aC,aD,at0,KH];rfl⟩
 have len:(L.map yD).length ≤ 100000:=by rw [aH];omega
 have C2:∀ x:Int,∀ u:Option U,gU (gNl 0) (D3.lE (bI (dOp gLe (dOp gIx (aG 0) (dC (.int 0))) (aG 1))) (bI (dOp gLt (aG 1) (dOp gIx (aG 0) (dC (.int 1)))))) (fY (aG 0)) (kY 1 [3] [some (.d (.list (L.map yD))),some (.d (.int (M:Int))),some (.d (.int now)),some (.d (.int x))]) (L.map yD)=some ((L.filter (hol x)).map yD):=fun x u =>
  Hx yD (hol x) yD L fun s _=>⟨[some (.d (yD s)),some (.d (.int x))],rfl,by
   obtain ⟨a,b,c⟩:=s
   unfold yD hol
   simp only [EV,reduceIte,au,aA,ao,aq,aB,aC,aD,at0,at1]
   cases decide (a ≤ x) <;> simp only [D3.qTA,jz,iw] <;> simp only [EV,reduceIte,au,aA,ao,aq,aB,aC,aD,at0,at1],fun _=>by simp only [EV,reduceIte,au,aA,ao,aq,aB,aC,aD,FZ]⟩
 let S:=now :: (L.map fun s=>if s.1 > now then s.1 else now)
 have gs:qg [.list (S.map PyData.int)]=some (.list ((j5 S).map .int)):=by
  unfold qg
  have:S.length < 64:=by show (L.map _).length + 1 < 64;rw [aH];omega
  simp only [lQ,aK,if_pos this]
 have cat:oG (.list [.int now]) (.list ((L.map fun s=>if s.1 > now then s.1 else now).map PyData.int))=some (.list (S.map PyData.int)):=by
  rw [wC,if_pos (by rw [aH,aH];show 1 + L.length ≤ _;omega)]
  rfl
 have F:=K1 (g:=(gNl 3)) (b:=(sIf (bI (dOp gGt (dCall jZ (aF (iY (jT (aG 0)) (gNl 0) (D3.lE (bI (dOp gLe (dOp gIx (aG 0) (dC (.int 0))) (aG 1))) (bI (dOp gLt (aG 1) (dOp gIx (aG 0) (dC (.int 1)))))) (fY (aG 0)) 1 [3]) (bh))) (aG 1))) (eU (fY (aG 3))) (gh))) (fun δ=>∃ u,δ=[some (.d (.list (L.map yD))),some (.d (.int (M:Int))),some (.d (.int now)),u]) (fun d=>∀ x,d = .int x→jc L x ≤ M) (fun v=>∃ x,v = .int x∧M < jc L x) ((j5 S).map .int)
  [some (.d (.list (L.map yD))),some (.d (.int (M:Int))),some (.d (.int now)),none] ⟨none,rfl⟩ (by
   rintro d hd δ ⟨u,rfl⟩
   obtain ⟨x,hx,rfl⟩:=bT.mp hd
   refine ⟨[some (.d (.list (L.map yD))),some (.d (.int (M:Int))),some (.d (.int now)),some (.d (.int x))],rfl,?_⟩
   have c2:=C2 x none
   have lf:((L.filter (hol x)).map yD).length=jc L x:=by rw [aH];rfl
   by_cases z:jc L x ≤ M
   ·left
    refine ⟨[some (.d (.list (L.map yD))),some (.d (.int (M:Int))),some (.d (.int now)),some (.d (.int x))],?_,⟨_,rfl⟩,fun y hy=>by cases hy;exact z⟩
    have:decide ((jc L x:Int) > (M:Int))=false:=dFa (by omega)
    simp only [EV,reduceIte,au,aA,ao,aq,aB,aC,aD,len,c2,lf,this]
   ·right
    refine ⟨.int x,?_,x,rfl,by omega⟩
    have:decide ((jc L x:Int) > (M:Int))=true:=dTr (by omega)
    have fl:flat (.int x)=true:=rfl
    simp only [EV,reduceIte,au,aA,ao,aq,aB,aC,aD,len,c2,lf,this,fl])
 rcases F with ⟨δ',e,⟨u,rfl⟩,hP⟩ | ⟨v,e,x,rfl,hx⟩
 ·left
  refine ⟨?_,fun s hs=>hP (.int (if s.1 > now then s.1 else now)) (List.mem_map_of_mem ((iu S).mem_iff.mpr (aL _ (bT.mpr ⟨s,hs,rfl⟩)))) _ rfl⟩
  unfold gG
  simp only [EV,reduceIte,au,aA,ao,aq,aB,aC,aD,zl1,len,C,cat,gs]
  rw [e]
  simp only [EV,reduceIte,au,aA,ao,aq,aB,aC,aD]
 ·right
  refine ⟨x,?_,hx⟩
  unfold gG
  simp only [EV,reduceIte,au,aA,ao,aq,aB,aC,aD,zl1,len,C,cat,gs]
  rw [e]
  simp only [EV,reduceIte,au,aA,ao,aq,aB,aC,aD]
end Com
namespace Com
open PySem D3 My
structure TOk (L:List Ty) (M:Nat) (now:Int):Prop where
 len:L.length ≤ 24
 ok:∀ s ∈ L,s.1 < s.2.1∧(∀ r,s.2.2=some r→r < M∧s.1 ≤ now∧now < s.2.1)∧(s.2.2=none→now ≤ s.1)
 nd:(L.filterMap (·.2.2)).Nodup
 full:∀ s ∈ L,jc L (if s.1 > now then s.1 else now) ≤ M
 bd:∀ s ∈ L,0 ≤ s.1∧s.2.1 ≤ 400
 nr:∀ s ∈ L,s.2.2=none→s.1 ≤ now + 59
noncomputable def zN (k:Nat) (s:Ty) (L:List Ty):List Ty:=L.take k++s :: L.drop k
theorem yE (k:Nat) (s:Ty) (L:List Ty):(zN k s L).Perm (s :: L):=by
 unfold zN
 refine jL.trans ?_
 rw [eG]
theorem Bw {s:Ty} {L:List Ty} {j:Int} (hl:L.length ≤ 1000) (h0:0 ≤ j) (h1:j ≤ 1000):∃ k,Bc j (yD s) (L.map yD)=some ((zN k s L).map yD):=by
 refine ⟨wV (L.map yD).length j,?_⟩
 unfold Bc
 rw [if_pos ⟨by rw [aH];omega,by omega,by omega⟩]
 unfold zN
 rw [dj,bM,rT,ou]
theorem K3 {L:List Ty} (h:∀ s ∈ L,∃ r,s.2.2=some r):(L.filterMap (·.2.2)).length=L.length:=by
 induction L with
 | nil=>rfl
 | cons s L ih =>
  obtain ⟨r,e⟩:=h s aP
  rw [dM,e]
  show _ + 1=_ + 1
  rw [ih fun s hs=>h s (aL _ hs)]
theorem O5 (x:Int):decide (x=1)=true∨decide (x=1)=false:=by cases decide (x=1) <;> simp
theorem Bx (ns:List Int) {M:Nat} {now:Int} (hM:M ≤ 12) (n0:0 ≤ now) (n1:now ≤ 399) :
 ∃ L:List Ty,TOk L M now∧(1 ≤ M→L ≠ [])∧iQ [.list (ns.map .int),.int (M:Int),.int now,.int 24]=some (.list (L.map yD)):=by
 have p0:=cU (ns:=ns) (i:=0) (k:=0) (m:=4) (by decide) (by decide) (by decide) (by decide)
 have r0:=cP ns 0 0 (m:=4) (by decide)
 have p6:=cU (ns:=ns) (i:=0) (k:=6) (m:=6) (by decide) (by decide) (by decide) (by decide)
 generalize gk ns 0 0 4=mo at *
 generalize gk ns 0 6 6=wi at *
 have rg:pO (some [.int (M:Int)])=some (iV 0 (M:Int)):=Bu (by omega) (by omega)
 obtain ⟨bw,hb⟩:∃ bw,decide (wi=1)=bw:=⟨_,rfl⟩
 obtain ⟨δ1,e1,L1,u6,u7,l1,g1,d1,rfl⟩:=lY (g:=(gNl 6)) (b:=(sIf (D3.lE (bI (dOp gEq (dCall bA (aF (aG 0) (aF (dC (.int 1)) (aF (aG 6) (aF (dC (.int 3)) (bh)))))) (dC (.int 1)))) (bI (dOp gLt (dCall jZ (aF (aG 5) (bh))) (aG 3)))) (cA (bZ 7 (dCall bA (aF (aG 0) (aF (dC (.int 1)) (aF (dOp iZ (dC (.int 12)) (aG 6)) (aF (dOp iZ (dCall jZ (aF (aG 5) (bh))) (dC (.int 1))) (bh))))))) (zf 5 (aG 7) (dCall ig (aF (aG 0) (aF (dC (.int 2)) (aF (dOp mW (dC (.int 3)) (aG 6)) (aF (aG 2) (aF (aG 6) (bh))))))))) (gh)))
  (fun i δ=>∃ (L:List Ty) (u6 u7:Option U),L.length ≤ 24∧(∀ s ∈ L,∃ r,s.2.2=some r∧r < i∧(0 ≤ s.1∧s.1 ≤ now)∧(now < s.2.1∧s.2.1 ≤ 400))∧(L.filterMap (·.2.2)).Nodup ∧
   δ=[some (.d (.list (ns.map .int))),some (.d (.int (M:Int))),some (.d (.int now)),some (.d (.int 24)),some (.d (.int mo)),some (.d (.list (L.map yD))),u6,u7,none,none,none]) (iV 0 (M:Int))
  [some (.d (.list (ns.map .int))),some (.d (.int (M:Int))),some (.d (.int now)),some (.d (.int 24)),some (.d (.int mo)),some (.d (.list [])),none,none,none,none,none]
  ⟨[],none,none,by decide,fun _ h=>(by cases h),pW,rfl⟩ (by
   rintro i d δ hd ⟨L,u6,u7,l1,g1,d1,rfl⟩
   obtain ⟨hi,rfl⟩:=wD hd
   have g1':∀ s ∈ L,∃ r,s.2.2=some r∧r < i + 1∧(0 ≤ s.1∧s.1 ≤ now)∧(now < s.2.1∧s.2.1 ≤ 400):=fun s hs=>by
    obtain ⟨r,a,b,c⟩:=g1 s hs
    exact ⟨r,a,by omega,c⟩
   have q1:=cU (ns:=ns) (i:=1) (k:=(i:Int)) (m:=3) (by decide) (by omega) (by omega) (by decide)
   have q2:=cU (ns:=ns) (i:=1) (k:=12 + (i:Int)) (m:=(L.length:Int) + 1) (by decide) (by omega) (by omega) (by omega)
   have q2r:=cP ns 1 (12 + (i:Int)) (m:=(L.length:Int) + 1) (by omega)
   obtain ⟨b,e,gb,ge,gs⟩:=Dt ns (r:=i) (by omega) n0 n1
   generalize gk ns 1 (i:Int) 3=y1 at *
   generalize gk ns 1 (12 + (i:Int)) ((L.length:Int) + 1)=y2 at *
   obtain ⟨k,ek⟩:=Bw (s:=(b,e,some i)) (L:=L) (j:=y2) (by omega) q2r.1 (by omega)
   have ll:((L.map yD).length:Int)=(L.length:Int):=by rw [aH]
   have m3:mW (.int 3) (.int (i:Int))=some (.int (3 * (i:Int))):=mulL (by decide) (by decide)
   rcases O5 y1 with z | z
   ·by_cases hlt:L.length < 24
    ·have z2:decide ((L.length:Int) < 24)=true:=dTr (by omega)
     refine ⟨_,[some (.d (.list (ns.map .int))),some (.d (.int (M:Int))),some (.d (.int now)),some (.d (.int 24)),some (.d (.int mo)),some (.d (.list ((zN k (b,e,some i) L).map yD))),some (.d (.int (i:Int))),some (.d (.int y2)),none,none,none],rfl,.inl ?_,?_⟩
     ·simp only [EV,reduceIte,au,aA,ao,aq,aB,aC,aD,q1,z,ll,z2,q2,m3,gs,JF,zj,Vi ek]
     ·have pm:=yE k (b,e,some i) L
      refine ⟨zN k (b,e,some i) L,_,_,?_,fun s hs=>?_,?_,rfl⟩
      ·rw [pm.length_eq,bK];omega
      ·rcases aR.mp (pm.mem_iff.mp hs) with rfl | y
       ·exact ⟨i,rfl,by omega,gb,ge⟩
       ·exact g1' s y
      ·rw [(pm.filterMap _).nodup_iff]
       show (i :: L.filterMap _).Nodup
       refine dF.mpr ⟨fun y=>?_,d1⟩
       obtain ⟨s,hs,es⟩:=fj.mp y
       obtain ⟨r,a,c,_⟩:=g1 s hs
       rw [a] at es
       cases es
       omega
    ·have z2:decide ((L.length:Int) < 24)=false:=dFa (by omega)
     refine ⟨_,[some (.d (.list (ns.map .int))),some (.d (.int (M:Int))),some (.d (.int now)),some (.d (.int 24)),some (.d (.int mo)),some (.d (.list (L.map yD))),some (.d (.int (i:Int))),u7,none,none,none],rfl,.inl ?_,L,_,_,l1,g1',d1,rfl⟩
     simp only [EV,reduceIte,au,aA,ao,aq,aB,aC,aD,q1,z,ll,z2]
   ·refine ⟨_,[some (.d (.list (ns.map .int))),some (.d (.int (M:Int))),some (.d (.int now)),some (.d (.int 24)),some (.d (.int mo)),some (.d (.list (L.map yD))),some (.d (.int (i:Int))),u7,none,none,none],rfl,.inl ?_,L,_,_,l1,g1',d1,rfl⟩
    simp only [EV,reduceIte,au,aA,ao,aq,aB,aC,aD,q1,z])
 rw [rM] at g1
 have ok1:TOk L1 M now:=by
  have hs:∀ s ∈ L1,∃ r,s.2.2=some r:=fun s hs=>let ⟨r,a,_⟩:=g1 s hs;⟨r,a⟩
  have lM:L1.length ≤ M:=by
   rw [← K3 hs]
   have:=List.Nodup.length_le_of_subset (l₂:=aX M) d1 fun r hr=>by
    obtain ⟨s,h1,h2⟩:=fj.mp hr
    obtain ⟨r',a,b,_⟩:=g1 s h1
    rw [a] at h2
    cases h2
    exact bO.mpr (by omega)
   rwa [cC] at this
  refine ⟨l1,fun s h=>?_,d1,fun s h=>bV (Ga _ _) lM,fun s h=>(let ⟨_,_,_,c,d⟩:=g1 s h;⟨c.1,d.2⟩),fun s h e=>(by obtain ⟨r,a,_⟩:=g1 s h;rw [a] at e;cases e)⟩
  obtain ⟨r,a,b,c,d⟩:=g1 s h
  refine ⟨by omega,fun r' e=>?_,fun e=>(by rw [a] at e;cases e)⟩
  rw [a] at e
  cases e
  exact ⟨by omega,c.2,d.1⟩
 clear g1 d1 l1
 have loop:∀ N:Int,0 ≤ N→N ≤ 30→∃ δ',jF (gNl 9) (cA (bZ 10 (dCall gF (aF (aG 0) (aF (dOp iZ (dC (.int 10)) (aG 9)) (aF (dC (.int 0)) (aF (aG 4) (aF (aG 2) (bh)))))))) (cA (bZ 7 (dCall bA (aF (aG 0) (aF (dC (.int 4)) (aF (aG 9) (aF (dOp iZ (dCall jZ (aF (aG 5) (bh))) (dC (.int 1))) (bh))))))) (sIf (D3.lE (bI (dOp gLt (dCall jZ (aF (aG 5) (bh))) (aG 3))) (bI (dUn uF (dCall gG (aF (dOp oG (aG 5) (iB (aF (aG 10) (bh)))) (aF (aG 1) (aF (aG 2) (bh)))))))) (zf 5 (aG 7) (aG 10)) (gh)))) (iV 0 N) [some (.d (.list (ns.map .int))),some (.d (.int (M:Int))),some (.d (.int now)),some (.d (.int 24)),some (.d (.int mo)),some (.d (.list (L1.map yD))),u6,u7,some (.d (.bool (bw))),none,none]=some (.nx δ') ∧
  ∃ (L:List Ty) (u7 u9 u10:Option U),TOk L M now∧(0 < N→1 ≤ M→L ≠ [])∧δ'=[some (.d (.list (ns.map .int))),some (.d (.int (M:Int))),some (.d (.int now)),some (.d (.int 24)),some (.d (.int mo)),some (.d (.list (L.map yD))),u6,u7,some (.d (.bool (bw))),u9,u10]:=by
  intro N N0 N1
  have:=lY (g:=(gNl 9)) (b:=(cA (bZ 10 (dCall gF (aF (aG 0) (aF (dOp iZ (dC (.int 10)) (aG 9)) (aF (dC (.int 0)) (aF (aG 4) (aF (aG 2) (bh)))))))) (cA (bZ 7 (dCall bA (aF (aG 0) (aF (dC (.int 4)) (aF (aG 9) (aF (dOp iZ (dCall jZ (aF (aG 5) (bh))) (dC (.int 1))) (bh))))))) (sIf (D3.lE (bI (dOp gLt (dCall jZ (aF (aG 5) (bh))) (aG 3))) (bI (dUn uF (dCall gG (aF (dOp oG (aG 5) (iB (aF (aG 10) (bh)))) (aF (aG 1) (aF (aG 2) (bh)))))))) (zf 5 (aG 7) (aG 10)) (gh))))) (fun i δ=>∃ (L:List Ty) (u7 u9 u10:Option U),TOk L M now∧(0 < i→1 ≤ M→L ≠ [])∧δ=[some (.d (.list (ns.map .int))),some (.d (.int (M:Int))),some (.d (.int now)),some (.d (.int 24)),some (.d (.int mo)),some (.d (.list (L.map yD))),u6,u7,some (.d (.bool (bw))),u9,u10]) (iV 0 N) [some (.d (.list (ns.map .int))),some (.d (.int (M:Int))),some (.d (.int now)),some (.d (.int 24)),some (.d (.int mo)),some (.d (.list (L1.map yD))),u6,u7,some (.d (.bool (bw))),none,none] ⟨L1,u7,none,none,ok1,fun z=>absurd z (iU 0),rfl⟩ ?step
  ·obtain ⟨δ',e,L,a,b,c,h1,h2,h3⟩:=this
   exact ⟨δ',e,L,a,b,c,h1,fun z=>h2 (by rw [rM];omega),h3⟩
  rintro i d δ hd ⟨L,u7,u9,u10,ok,_,rfl⟩
  obtain ⟨hi,rfl⟩:=wD hd
  have l24:=ok.len
  obtain ⟨s,s1,s2,s3,es⟩:=Ds ns (a:=10 + (i:Int)) (m:=mo) (now:=now) (by omega) r0.1 r0.2 n1
  have q2:=cU (ns:=ns) (i:=4) (k:=(i:Int)) (m:=(L.length:Int) + 1) (by decide) (by omega) (by omega) (by omega)
  have q2r:=cP ns 4 (i:Int) (m:=(L.length:Int) + 1) (by omega)
  generalize gk ns 4 (i:Int) ((L.length:Int) + 1)=y2 at *
  obtain ⟨k,ek⟩:=Bw (s:=s) (L:=L) (j:=y2) (by omega) q2r.1 (by omega)
  have ll:((L.map yD).length:Int)=(L.length:Int):=by rw [aH]
  by_cases hlt:L.length < 24
  ·have z2:decide ((L.length:Int) < 24)=true:=dTr (by omega)
   have cat:oG (.list (L.map yD)) (.list [yD s])=some (.list ((L++[s]).map yD)):=by
    rw [wC,if_pos (by rw [aH];show L.length + 1 ≤ _;omega),dj]
    rfl
   rcases Hz (L:=L++[s]) (M:=M) (now:=now) (by rw [bB];show L.length + 1 ≤ 62;omega) with ⟨f1,f2⟩ | ⟨x,f1,f3⟩
   ·have nN:isNone .none=true:=rfl
    refine ⟨_,[some (.d (.list (ns.map .int))),some (.d (.int (M:Int))),some (.d (.int now)),some (.d (.int 24)),some (.d (.int mo)),some (.d (.list ((zN k s L).map yD))),u6,some (.d (.int y2)),some (.d (.bool (bw))),some (.d (.int (i:Int))),some (.d (yD s))],rfl,.inl ?_,?_⟩
    ·simp only [EV,reduceIte,au,aA,ao,aq,aB,aC,aD,es,ll,q2,z2,zl1,cat,f1,nN,JF,zj,Vi ek]
    ·have pm:=yE k s L
     have pm2:(zN k s L).Perm (L++[s]):=pm.trans (jK s L).symm
     refine ⟨zN k s L,_,_,_,⟨?_,fun t ht=>?_,?_,fun t ht=>?_,fun t ht=>?_,fun t ht en=>?_⟩,fun _ _ z=>by (have:=pm.length_eq;rw [z] at this;cases this),rfl⟩
     ·rw [pm.length_eq,bK];omega
     ·rcases aR.mp (pm.mem_iff.mp ht) with rfl | y
      ·exact ⟨s2.1,fun r e=>(by rw [s3] at e;cases e),fun _=>s1.1⟩
      ·exact ok.ok t y
     ·rw [(pm.filterMap _).nodup_iff,dM,s3]
      exact ok.nd
     ·rw [Hy pm2]
      exact f2 t (pm2.mem_iff.mp ht)
     ·rcases aR.mp (pm.mem_iff.mp ht) with rfl | y
      ·exact ⟨gY n0 s1.1,s2.2⟩
      ·exact ok.bd t y
     ·rcases aR.mp (pm.mem_iff.mp ht) with rfl | y
      ·exact s1.2
      ·exact ok.nr t y en
   ·have nN:isNone (.int x)=false:=rfl
    refine ⟨_,[some (.d (.list (ns.map .int))),some (.d (.int (M:Int))),some (.d (.int now)),some (.d (.int 24)),some (.d (.int mo)),some (.d (.list (L.map yD))),u6,some (.d (.int y2)),some (.d (.bool (bw))),some (.d (.int (i:Int))),some (.d (yD s))],rfl,.inl ?_,L,_,_,_,ok,fun _ m1 z=>by
     rw [z] at f3
     have:=Ga [s] x
     have f3:M < jc [s] x:=f3
     have:jc [s] x ≤ 1:=this
     omega,rfl⟩
    simp only [EV,reduceIte,au,aA,ao,aq,aB,aC,aD,es,ll,q2,z2,zl1,cat,f1,nN]
  ·have z2:decide ((L.length:Int) < 24)=false:=dFa (by omega)
   refine ⟨_,[some (.d (.list (ns.map .int))),some (.d (.int (M:Int))),some (.d (.int now)),some (.d (.int 24)),some (.d (.int mo)),some (.d (.list (L.map yD))),u6,some (.d (.int y2)),some (.d (.bool (bw))),some (.d (.int (i:Int))),some (.d (yD s))],rfl,.inl ?_,L,_,_,_,ok,fun _ _ z=>by rw [z] at hlt;exact hlt (by decide),rfl⟩
   simp only [EV,reduceIte,au,aA,ao,aq,aB,aC,aD,es,ll,q2,z2]
 have w10:pAt [.int 10,.int 30] (if bw=true then 1 else 0)=some (.int (if bw=true then 30 else 10)):=by
  cases bw <;> rfl
 have iN:Cv [.bool (bw)]=some (.int (if bw=true then 1 else 0)):=rfl
 obtain ⟨δ2,e2,L,v7,v9,v10,ok,hne,rfl⟩:=loop (if bw=true then 30 else 10) (by split <;> decide) (by split <;> decide)
 refine ⟨L,ok,hne (by split <;> decide),?_⟩
 clear hne
 have rg2:pO (some [.int (if bw=true then 30 else 10)])=some (iV 0 (if bw=true then 30 else 10)):=Bu (by split <;> decide) (by split <;> decide)
 have fl:flats (L.map yD)=true:=m5 _ FZ L
 unfold iQ
 simp only [EV,reduceIte,au,aA,ao,aq,aB,aC,aD,p0,zl0,rg]
 rw [e1]
 generalize (if bw=true then (30:Int) else 10)=NN at *
 simp only [EV,reduceIte,au,aA,ao,aq,aB,aC,aD,p6,hb,zl2,iN,w10,rg2]
 rw [e2]
 simp only [EV,reduceIte,au,aA,ao,aq,aB,aC,aD,sS,fl]
theorem Du (ns:List Int) {M:Nat} {now:Int} (hM:M ≤ 12) (n0:0 ≤ now) (n1:now ≤ 399):∃ L:List Ty,TOk L M now∧iQ [.list (ns.map .int),.int (M:Int),.int now,.int 24]=some (.list (L.map yD)):=by
 obtain ⟨L,ok,_,e⟩:=Bx ns hM n0 n1
 exact ⟨L,ok,e⟩
end Com
namespace Com
open PySem D3 My
theorem TQ {n c:Nat} {l:List D} (hl:l.length=n) (h:c < n):pIx l.length (c:Int)=some c:=by
 unfold pIx
 rw [hl,if_pos (by omega),if_pos (by omega)]
 rfl
theorem Ws {n c:Nat} (f:Nat→D) (h:c < n):pAt ((aX n).map f) (c:Int)=some (f c):=by
 rw [lC,bf,d_ h]
 rfl
theorem Wt {n c:Nat} {d:D} (f:Nat→D):((aX n).map f).set c d=(aX n).map fun p=>if p=c then d else f p:=by
 apply jC
 intro i
 rw [sX,bf,bf]
 by_cases hi:i < n
 ·rw [d_ hi,iD,iD]
  by_cases z:c=i
  ·subst z
   rw [if_pos rfl,if_pos (by simpa using hi),if_pos rfl]
  ·rw [if_neg z,if_neg (fun w=>z w.symm)]
 ·rw [cF (l:=aX n) (by simpa using hi)]
  by_cases z:c=i
  ·subst z
   rw [if_pos rfl,if_neg (by simpa using hi)]
   rfl
  ·rw [if_neg z]
   rfl
noncomputable def tAt (L:List Ty) (k:Nat):Ty:=L.getD k (0,0,none)
theorem n8 {L:List Ty} {k:Nat} (h:k < L.length):tAt L k ∈ L:=by
 unfold tAt
 rw [bQ,aN h]
 exact dZ h
theorem vp (L:List Ty):L.map yD=(aX L.length).map fun k=>yD (tAt L k):=by
 apply jC
 intro i
 rw [bf,bf]
 by_cases h:i < L.length
 ·rw [d_ h,aN h]
  unfold tAt
  rw [iD,iD,bQ,aN h]
  rfl
 ·rw [cF (by omega),cF (by simpa using h)]
  rfl
noncomputable def hB (s:Ty) (t:Int):Bool:=(s.2.2.isSome || decide (s.1 < t)) && decide (t < s.2.1)
theorem Dv (o:Option Nat):isNone (hD o) = !o.isSome:=by cases o <;> rfl
section
variable {L:List Ty} {now t a b:Int} {h:Nat→Int}
end
end Com
namespace Com
open PySem D3 My
theorem K4 {n:Nat} (f:Nat→D):qj ((aX n).map f)=(aX n).map fun p:Nat=>PyData.tuple [.int (p:Int),f p]:=by
 unfold qj
 apply jC
 intro i
 rw [mj,bf,bf]
 by_cases h:i < n
 ·rw [d_ h]
  rfl
 ·rw [cF (by simpa using h)]
  rfl
theorem BJ {L:List Ty} (nd:(L.filterMap (·.2.2)).Nodup) {k l r:Nat} (hk:k < L.length) (hl:l < L.length) (z1:(tAt L k).2.2=some r) (z2:(tAt L l).2.2=some r):k=l:=by
 induction L generalizing k l with
 | nil=>cases hk
 | cons s L ih =>
  have nd':(L.filterMap (·.2.2)).Nodup:=by
   cases h:s.2.2 with
   | none=>rw [dM,h] at nd;exact nd
   | some x=>rw [dM,h] at nd;exact (dF.mp nd).2
  have no:∀ m,m < L.length→s.2.2=some r→(tAt L m).2.2=some r→False:=fun m hm a b=>by
   rw [dM,a] at nd
   exact (dF.mp nd).1 (fj.mpr ⟨_,n8 hm,b⟩)
  cases k with
  | zero =>
   cases l with
   | zero=>rfl
   | succ l=>exact (no l (by simpa using hl) z1 z2).elim
  | succ k =>
   cases l with
   | zero=>exact (no k (by simpa using hk) z2 z1).elim
   | succ l=>exact congrArg (· + 1) (ih nd' (k:=k) (l:=l) (by simpa using hk) (by simpa using hl) z1 z2)
end Com
namespace K43
open PySem D3
noncomputable abbrev eE:List D→Option D:=Com.eE
noncomputable def gJ:List D→Option D:=fnD 1 0 (eU (dCall yN (aF (iY (Rt (aG 0)) (gNl 0) (kW) (dCall eE (aF (aG 0) (bh))) 1 []) (bh))))
noncomputable def lZ:List D→Option D:=fnD 2 0 (eU (qe (dUn (gIs "tuple") (aG 0)) (qe (dOp gEq (dCall jZ (aF (aG 0) (bh))) (aG 1)) (dCall gJ (aF (aG 0) (bh))))))
noncomputable def oZ:List D→Option D:=fnD 1 0 (eU (dCall lZ (aF (aG 0) (aF (dC (.int 2)) (bh)))))
noncomputable def eZ:List D→Option D:=fnD 1 0 (eU (qe (dUn (gIs "list") (aG 0)) (dCall gJ (aF (aG 0) (bh)))))
noncomputable abbrev iR:List D→Option D:=Com.iR
noncomputable def lD:List D→Option D:=fnD 1 0 (eU (qe (dCall oZ (aF (aG 0) (bh))) (uV gLe gLt gLe (dC (.int 0)) (dOp gIx (aG 0) (dC (.int 0))) (dOp gIx (aG 0) (dC (.int 1))) (dC (.int 400)))))
noncomputable abbrev dw:List D→Option D:=Com.dw
noncomputable abbrev jO:List D→Option D:=Com.jO
noncomputable abbrev iW:List D→Option D:=Com.iW
noncomputable abbrev nG:List D→Option D:=Com.nG
noncomputable abbrev lB:List D→Option D:=Com.lB
noncomputable def lR:List D→Option D:=fnD 3 1 (cA (sIf (D3.tOr (D3.oE (bI (dUn (gIs "tuple") (aG 0)))) (D3.tOr (bI (dOp gNe (dCall jZ (aF (aG 0) (bh))) (dC (.int 3)))) (D3.oE (bI (dCall lD (aF (dCall dw (aF (aG 0) (bh))) (bh))))))) (eU (dC (.bool false))) (gh))
 (cA (bZ 3 (dOp gIx (aG 0) (dC (.int 2))))
 (cA (sIf (bI (dUn uF (aG 3))) (eU (dOp gGe (dOp gIx (aG 0) (dC (.int 0))) (aG 2))) (gh))
 (eU (qe (dCall eE (aF (aG 3) (bh))) (qe (oF gLe gLt (dC (.int 0)) (aG 3) (aG 1)) (dCall jO (aF (dCall dw (aF (aG 0) (bh))) (aF (aG 2) (bh))))))))))
noncomputable def jV:List D→Option D:=fnD 3 3 (cA (bZ 3 (dC (.dict [])))
 (mK (Av (aG 0)) (gTn 2 (dX (gNl 4) (dX (gNl 5) (nu)))) (cA (sIf (D3.oE (bI (dCall lR (aF (aG 5) (aF (aG 1) (aF (aG 2) (bh))))))) ((fun _=>none)) (gh))
 (cA (sIf (bI (dOp uT (dOp gIx (aG 5) (dC (.int 2))) (aG 3))) ((fun _=>none)) (gh))
 (sIf (bI (dUn rY (dOp gIx (aG 5) (dC (.int 2))))) (rZ 3 (dOp gIx (aG 5) (dC (.int 2)))) (gh))))))
noncomputable abbrev iM:List D→Option D:=Com.iM
noncomputable abbrev fM:List D→Option D:=Com.fM
noncomputable def mH:List D→Option D:=fnD 4 0 (cA (vK (dCall jV (aF (aG 0) (aF (aG 1) (aF (aG 2) (bh))))))
 (cA (vK (dCall iM (aF (aG 0) (aF (aG 1) (aF (aG 2) (bh))))))
 (sIf (D3.tOr (D3.oE (bI (oF gLe gLt (dC (.int 0)) (aG 3) (dCall jZ (aF (aG 0) (bh)))))) (bI (dUn rY (dOp gIx (dOp gIx (aG 0) (aG 3)) (dC (.int 2)))))) ((fun _=>none)) (gh))))
noncomputable abbrev gw:List D→Option D:=Com.gw
noncomputable abbrev jm:List D→Option D:=Com.jm
noncomputable abbrev gB:List D→Option D:=Com.gB
noncomputable abbrev gC:List D→Option D:=Com.gC
noncomputable abbrev gH:List D→Option D:=Com.gH
noncomputable def kE:List D→Option D:=fnD 6 2 (cA (vK (dCall mH (aF (aG 0) (aF (aG 1) (aF (aG 2) (aF (aG 3) (bh)))))))
 (cA (vK (dCall gw (aF (aG 1) (aF (aG 4) (bh)))))
 (cA (sIf (D3.tOr (D3.oE (bI (dCall eZ (aF (aG 5) (bh))))) (D3.oE (bI (dCall iR (aF (aG 5) (bh)))))) (eU (dC (.bool false))) (gh))
 (cA (bZ 6 (dOp gIx (dCall fM (aF (aG 0) (aF (aG 1) (aF (aG 2) (bh))))) (aG 4)))
 (cA (bZ 7 (dOp gIx (dOp gIx (aG 0) (aG 3)) (dC (.int 0))))
 (cA (sIf (bI (dOp gGt (aG 6) (aG 7))) (eU (dOp gEq (aG 5) (iB (bh)))) (gh))
 (cA (sIf (D3.tOr (bI (dOp nA (aG 6) (aG 5))) (D3.tOr (bI (dOp gLt (dCall Eh (aF (aG 5) (bh))) (aG 6))) (bI (dOp gGe (dCall Ed (aF (aG 5) (bh))) (aG 7))))) (eU (dC (.bool false))) (gh))
 (eU (dCall gH (aF (aG 0) (aF (aG 1) (aF (aG 3) (aF (aG 5) (bh))))))))))))))
noncomputable abbrev je:List D→Option D:=Com.je
noncomputable abbrev bA:List D→Option D:=Com.bA
noncomputable abbrev fL:List D→Option D:=Com.fL
noncomputable abbrev gF:List D→Option D:=Com.gF
noncomputable abbrev ig:List D→Option D:=Com.ig
noncomputable abbrev gG:List D→Option D:=Com.gG
noncomputable abbrev j8:List D→Option D:=Com.j8
noncomputable abbrev iQ:List D→Option D:=Com.iQ
noncomputable abbrev dR:List D→Option D:=Com.dR
noncomputable def iT:List D→Option D:=fnD 4 5 (cA (bZ 4 (iB (bh)))
 (cA (sIf (bI (dOp gLt (dCall jZ (aF (iY (jT (aG 0)) (gNl 0) (D3.lE (bI (dOp gLe (dOp gIx (aG 0) (dC (.int 0))) (aG 1))) (bI (dOp gLt (aG 1) (dOp gIx (aG 0) (dC (.int 1)))))) (fY (aG 0)) 1 [3]) (bh))) (aG 1))) (yM 4 (dOp iZ (aG 3) (dC (.int 1)))) (gh))
 (cA (mK (oU (aF (dCall jZ (aF (aG 0) (bh))) (bh))) (gNl 5) (cA (GK (dOp gIx (aG 0) (aG 5)) (gTn 3 (dX (gNl 6) (dX (gNl 7) (dX (gNl 8) (nu))))))
 (sIf (D3.lE (bI (dOp gNe (aG 5) (aG 2))) (D3.lE (bI (dUn uF (aG 8))) (D3.lE (bI (dOp gEq (aG 6) (aG 3))) (bI (dOp gLe (aG 7) (dOp gIx (dOp gIx (aG 0) (aG 2)) (dC (.int 0)))))))) (yM 4 (aG 7)) (gh))))
 (eU (Aq (aG 4))))))
noncomputable abbrev cJ:List D→Option D:=Com.cJ
noncomputable def jf:List D→Option D:=fnD 6 4 (cA (bZ 6 (dCall dR (aF (aG 0) (aF (aG 2) (aF (aG 4) (bh))))))
 (cA (bZ 7 (dOp gIx (dOp gIx (aG 0) (aG 3)) (dC (.int 0))))
 (cA (sIf (D3.oE (bI (dCall cJ (aF (aG 5) (bh))))) (eU (dC (.bool false))) (gh))
 (cA (sIf (bI (dOp gGt (aG 6) (aG 7))) (eU (dOp gEq (aG 5) (iB (bh)))) (gh))
 (cA (sIf (D3.tOr (bI (dOp nA (aG 6) (aG 5))) (D3.tOr (bI (dOp gIn (aG 7) (aG 5))) (D3.tOr (bI (dOp gLt (dOp gIx (aG 5) (dC (.int 0))) (aG 6))) (bI (dOp gGt (dOp gIx (aG 5) (dUn Jg (dC (.int 1)))) (aG 7)))))) (eU (dC (.bool false))) (gh))
 (cA (mK (jT (aG 5)) (gNl 8) (mK (jT (dCall iT (aF (aG 0) (aF (aG 1) (aF (aG 3) (aF (aG 8) (bh))))))) (gNl 9) (sIf (bI (dOp nA (aG 9) (aG 5))) (eU (dC (.bool false))) (gh))))
 (eU (dC (.bool true)))))))))
noncomputable def fH:List D→Option D:=fnD 4 3 (cA (bZ 4 (dC (.dict [])))
 (cA (mK (jT (aG 3)) (gNl 5) (rZ 4 (aG 5)))
 (cA (mK (oU (aF (dOp gIx (dOp gIx (aG 0) (aG 2)) (dC (.int 0))) (bh))) (gNl 5) (sIf (bI (dOp uT (aG 5) (aG 4))) (mK (jT (dCall iT (aF (aG 0) (aF (aG 1) (aF (aG 2) (aF (aG 5) (bh))))))) (gNl 6) (rZ 4 (aG 6))) (gh)))
 (eU (dCall wg (aF (aG 4) (bh)))))))
noncomputable def dJ:List D→Option D:=fnL 3 4 (cA (bZ 3 (dCall bA (aF (aG 0) (aF (dC (.int 43)) (aF (dC (.int 0)) (aF (dC (.int 10)) (bh)))))))
 (cA (bZ 4 (dUn vO (aG 1)))
 (cA (sIf (D3.tOr (bI (dOp gEq (aG 3) (dC (.int 0)))) (bI (dOp gEq (aG 1) (iB (bh))))) (cA (bZ 5 (iB (aF (dC (.none)) (aF (dUn Et (aG 1)) (aF (iB (bh)) (aF (dC (.str "")) (aF (dC (.dict [])) (aF (dC (.int 0)) (aF (iB (aF (dC (.none)) (bh))) (aF (iB (aF (aG 1) (bh))) (aF (dOp oG (aG 1) (iB (aF (dC (.bool true)) (bh)))) (aF (dOp oG (aG 1) (iB (aF (dC (.str "1")) (bh)))) (bh)))))))))))))
 (Bf (dOp gIx (aG 5) (dCall bA (aF (aG 0) (aF (dC (.int 43)) (aF (dC (.int 1)) (aF (dC (.int 10)) (bh))))))))) (gh))
 (cA (bZ 6 (dCall bA (aF (aG 0) (aF (dC (.int 43)) (aF (dC (.int 2)) (aF (dCall jZ (aF (aG 1) (bh))) (bh)))))))
 (cA (sIf (bI (dOp gLt (aG 3) (dC (.int 4)))) (Es 4 (aG 6)) (sIf (bI (dOp gEq (aG 3) (dC (.int 4)))) (zf 4 (aG 6) (dOp gIx (aG 1) (aG 6))) (sIf (bI (dOp gEq (aG 3) (dC (.int 5)))) (Rr 4) (sIf (bI (dOp gEq (aG 3) (dC (.int 6)))) (GP 4 (aG 6) (dOp gIx (iB (aF (dC (.none)) (aF (dC (.bool true)) (aF (dC (.str "3")) (aF (dTup (aF (dOp gIx (aG 1) (aG 6)) (bh))) (aF (dUn Jg (dC (.int 1))) (aF (dC (.int 401)) (bh)))))))) (dCall bA (aF (aG 0) (aF (dC (.int 43)) (aF (dC (.int 1)) (aF (dC (.int 6)) (bh)))))))) (sIf (bI (dOp gEq (aG 3) (dC (.int 7)))) (yM 4 (aG 2)) (bZ 4 (dCall qg (aF (dOp oG (aG 4) (iB (aF (dCall bA (aF (aG 0) (aF (dC (.int 43)) (aF (dC (.int 3)) (aF (dC (.int 400)) (bh)))))) (bh)))) (bh)))))))))
 (Bf (aG 4)))))))
noncomputable def jg:List D→Option D:=fnD 6 4 (cA (bZ 6 (dCall jf (aF (aG 0) (aF (aG 1) (aF (aG 2) (aF (aG 3) (aF (aG 4) (aF (aG 5) (bh)))))))))
 (cA (bZ 7 (aG 5))
 (cA (sIf (bI (dUn (gIs "list") (aG 5))) (bZ 7 (dUn vO (aG 5))) (gh))
 (cA (bZ 8 (dUn vO (aG 0)))
 (cA (bZ 9 (dCall kE (aF (aG 8) (aF (aG 1) (aF (aG 2) (aF (aG 3) (aF (aG 4) (aF (aG 5) (bh)))))))))
 (eU (qe (dUn (gIs "bool") (aG 9)) (qe (dOp tZ (aG 9) (aG 6)) (qe (dOp tZ (aG 8) (aG 0)) (dOp tZ (aG 5) (aG 7)))))))))))
noncomputable def K5:List D→Option D:=fnD 1 14 (cA (bZ 1 (dOp iZ (dC (.int 1)) (dCall bA (aF (aG 0) (aF (dC (.int 0)) (aF (dC (.int 3)) (aF (dOp gIx (iB (aF (dC (.int 3)) (aF (dC (.int 12)) (bh)))) (dCall Cv (aF (dOp gEq (dCall bA (aF (aG 0) (aF (dC (.int 0)) (aF (dC (.int 4)) (aF (dC (.int 4)) (bh)))))) (dC (.int 1))) (bh)))) (bh))))))))
 (cA (bZ 2 (dCall j8 (aF (aG 0) (bh))))
 (cA (bZ 3 (dCall iQ (aF (aG 0) (aF (aG 1) (aF (aG 2) (aF (dC (.int 24)) (bh)))))))
 (cA (bZ 4 (iY (oU (aF (dCall jZ (aF (aG 3) (bh))) (bh))) (gNl 0) (bI (dUn uF (dOp gIx (dOp gIx (aG 1) (aG 0)) (dC (.int 2))))) (fY (aG 0)) 1 [3]))
 (cA (mK (oU (aF (dCall vN (aF (dC (.int 3)) (aF (dCall jZ (aF (aG 4) (bh))) (bh)))) (bh))) (gNl 5) (cA (bZ 6 (dOp gIx (aG 4) (dCall bA (aF (aG 0) (aF (dC (.int 41)) (aF (dOp mW (dC (.int 2)) (aG 5)) (aF (dCall jZ (aF (aG 4) (bh))) (bh))))))))
 (cA (bZ 7 (dCall bA (aF (aG 0) (aF (dC (.int 41)) (aF (dOp iZ (dOp mW (dC (.int 2)) (aG 5)) (dC (.int 1))) (aF (aG 1) (bh)))))))
 (cA (bZ 8 (dCall dR (aF (aG 3) (aF (aG 2) (aF (aG 7) (bh))))))
 (cA (bZ 9 (dOp gIx (dOp gIx (aG 3) (aG 6)) (dC (.int 0))))
 (cA (bZ 10 (iY (oU (aF (dCall bA (aF (aG 0) (aF (dC (.int 42)) (aF (dC (.int 9)) (aF (dC (.int 3)) (bh)))))) (bh))) (gNl 0) (kW) (dOp iZ (aG 1) (dCall bA (aF (aG 2) (aF (dC (.int 42)) (aF (aG 0) (aF (dCall tO (aF (dC (.int 1)) (aF (dOp yH (aG 3) (aG 1)) (bh)))) (bh))))))) 1 [8,0,9]))
 (cA (bZ 11 (iY (jT (dCall fH (aF (aG 3) (aF (aG 1) (aF (aG 6) (aF (iB (aF (aG 8) (bh))) (bh))))))) (gNl 0) (bI (dOp gLt (aG 0) (aG 1))) (fY (aG 0)) 1 [9]))
 (cA (bZ 12 (iY (jT (dCall fH (aF (aG 3) (aF (aG 1) (aF (aG 6) (aF (dOp oG (iB (aF (aG 8) (bh))) (aG 10)) (bh))))))) (gNl 0) (bI (dOp gLt (aG 0) (aG 1))) (fY (aG 0)) 1 [9]))
 (cA (bZ 13 (dCall uJ (aF (dOp oG (aG 10) (iB (aF (aG 8) (bh)))) (bh))))
 (mK (jT (iB (aF (aG 11) (aF (aG 12) (aF (dCall dJ (aF (aG 0) (aF (aG 12) (aF (aG 9) (bh))))) (aF (iB (bh)) (aF (iB (aF (aG 8) (bh))) (aF (iB (aF (aG 9) (bh))) (aF (iB (aF (aG 2) (bh))) (aF (aG 13) (aF (aG 11) (bh)))))))))))) (gNl 14) (sIf (D3.oE (bI (dCall jg (aF (aG 3) (aF (aG 1) (aF (aG 2) (aF (aG 6) (aF (aG 7) (aF (aG 14) (bh)))))))))) (eU (dC (.bool false))) (gh))))))))))))
 (eU (dC (.bool true))))))))
end K43
namespace K43
open PySem D3 My Com
section
variable {L:List Ty} {M:Nat} {now:Int}
structure TO0 (L:List Ty) (M:Nat) (now:Int):Prop where
 len:L.length ≤ 24
 ok:∀ s ∈ L,(s.1 < s.2.1∧0 ≤ s.1∧s.2.1 ≤ 400)∧(∀ r,s.2.2=some r→r < M∧s.1 ≤ now∧now < s.2.1)∧(s.2.2=none→now ≤ s.1)
 nd:(L.filterMap (·.2.2)).Nodup
noncomputable def bk (L:List Ty) (k:Nat):Int:=(tAt L k).1
noncomputable def ek (L:List Ty) (k:Nat):Int:=(tAt L k).2.1
noncomputable def hk (L:List Ty) (k:Nat):Option Nat:=(tAt L k).2.2
theorem ux {g:FG} {b:FS} {v:D} (Inv:Nat→DS→Prop) (P:Nat→Prop) (l:List D) (δ:DS) (h0:Inv 0 δ) (hs:∀ i d δ,l[i]? = some d→(∀ j,j < i→P j)→Inv i δ→∃ δ1,g d δ=some δ1∧((P i∧∃ δ',b δ1=some (.nx δ')∧Inv (i + 1) δ')∨(¬ P i∧b δ1=some (.rt v)))) :
 (∃ δ',jF g b l δ=some (.nx δ')∧Inv l.length δ'∧∀ j,j < l.length→P j)∨(jF g b l δ=some (.rt v)∧∃ j,j < l.length∧¬ P j):=by
 have key:∀ (l:List D) (k:Nat) (δ:DS),Inv k δ→(∀ j,j < k→P j)→(∀ i d δ,l[i]? = some d→(∀ j,j < k + i→P j)→Inv (k + i) δ→∃ δ1,g d δ=some δ1∧((P (k + i)∧∃ δ',b δ1=some (.nx δ')∧Inv (k + i + 1) δ')∨(¬ P (k + i)∧b δ1=some (.rt v)))) →
  (∃ δ',jF g b l δ=some (.nx δ')∧Inv (k + l.length) δ'∧∀ j,j < k + l.length→P j)∨(jF g b l δ=some (.rt v)∧∃ j,j < k + l.length∧¬ P j):=by
  intro l
  induction l with
  | nil=>exact fun k δ h hp _=>.inl ⟨δ,rfl,h,hp⟩
  | cons d r ih =>
   intro k δ h hp hs
   obtain ⟨δ1,e1,z⟩:=hs 0 d δ rfl hp h
   rcases z with ⟨p,δ',e2,e3⟩ | ⟨p,e2⟩
   ·have hp':∀ j,j < k + 1→P j:=fun j hj=>by
     by_cases w:j < k
     ·exact hp j w
     ·have:j=k + 0:=by omega
      rw [this];exact p
    have:=ih (k + 1) δ' e3 hp' fun i d' δ'' hd hq hi=>by
     have:=hs (i + 1) d' δ'' (by simpa using hd) (by rw [show k + (i + 1)=k + 1 + i by omega];exact hq) (by rw [show k + (i + 1)=k + 1 + i by omega];exact hi)
     rw [show k + (i + 1)=k + 1 + i by omega] at this
     exact this
    rw [bK,show k + (r.length + 1)=k + 1 + r.length by omega,jF,e1,aK,e2]
    exact this
   ·refine .inr ⟨?_,k + 0,by rw [bK];omega,p⟩
    rw [jF,e1,aK,e2]
    rfl
 have:=key l 0 δ h0 (fun j hj=>absurd hj (jr _)) fun i d δ hd hp hi=>by
  rw [d8] at hp hi ⊢
  exact hs i d δ hd hp hi
 rw [d8] at this
 exact this
noncomputable def isI:D→Bool
 | .int _=>true
 | _=>false
theorem lwh (d:D):fL [d]=some (.bool (isI d)):=by
 unfold fL Com.fL
 cases d <;> rfl
theorem ay {L:List Ty} {k:Nat} (h:k < L.length):pAt (L.map yD) (k:Int)=some (.tuple [.int (bk L k),.int (ek L k),hD (hk L k)]):=by rw [vp,Ws _ h];rfl
theorem Wu (n:Nat) (h:n ≤ 1000):pO (some [.int (n:Int)])=some (iV 0 (n:Int)):=Bu (by omega) (by omega)
theorem allB {α:Type} (f:α→Bool) (l:List α):yN [.list (l.map fun a=>PyData.bool (f a))]=some (.bool (l.all f)):=by
 have:oH (l.map fun a=>PyData.bool (f a))=some (l.map f):=by
  induction l with
  | nil=>rfl
  | cons a r ih=>rw [bM,oH,ih];rfl
 show (oH (l.map fun a=>PyData.bool (f a))).map _=_
 rw [this,iD,List.all_map]
 rfl
theorem wh (d:D):eE [d]=some (.bool (isI d)):=by
 unfold eE Com.eE
 cases d <;> rfl
theorem O6 (a b:Int):oZ [.tuple [.int a,.int b]]=some (.bool true):=by
 have e:gJ [.tuple [.int a,.int b]]=some (.bool true):=by
  have c:gU (gNl 0) (D3.kW) (dCall eE (aF (aG 0) (bh))) (kY 1 [] [some (.d (.tuple [.int a,.int b]))]) [.int a,.int b]=some [.bool true,.bool true] :=
   wX (g:=(gNl 0)) (c:=(D3.kW)) (e:=(dCall eE (aF (aG 0) (bh)))) (δ:=kY 1 [] [some (.d (.tuple [.int a,.int b]))]) (fun i:Int=>PyData.int i) (fun _=>PyData.bool true) [a,b] fun d _=>⟨[some (.d (.int d))],rfl,rfl,by
    have:=wh (.int d)
    simp only [EV,reduceIte,au,aA,ao,aq,aB,aC,aD,this]
    rfl⟩
  have al:yN [.list [.bool true,.bool true]]=some (.bool true):=rfl
  have l2:(0 + 1 + 1:Nat) ≤ 100000:=by decide
  unfold gJ
  simp only [EV,reduceIte,au,aA,ao,aq,aB,aC,aD,Ru,Rv,c,al,l2]
 have it:D3.isT "tuple" (tyD (.tuple [.int a,.int b]))=true:=rfl
 have e2:gEq (.int ((0 + 1 + 1:Nat):Int)) (.int 2)=some (.bool true):=rfl
 unfold oZ lZ
 simp only [EV,reduceIte,au,aA,ao,aq,aB,aC,aD,it,e2,e]
theorem rN (a b:Int) (d:D):dw [.tuple [.int a,.int b,d]]=some (.tuple [.int a,.int b]):=by
 unfold dw Com.dw
 simp only [EV,reduceIte,au,aA,ao,aq,aB,aC,aD,at0,at1,fli,zl2]
theorem K6 (a b x:Int):jO [.tuple [.int a,.int b],.int x]=some (.bool (decide (a ≤ x) && decide (x < b))):=by
 unfold jO Com.jO
 by_cases c:a ≤ x
 ·simp only [EV,reduceIte,au,aA,ao,aq,aB,aC,aD,at0,at1,dTr c]
  simp
 ·simp only [EV,reduceIte,au,aA,ao,aq,aB,aC,aD,at0,at1,dFa c]
  simp
theorem Dw {a b:Int} (h:0 ≤ a∧a < b∧b ≤ 400):lD [.tuple [.int a,.int b]]=some (.bool true):=by
 unfold lD
 simp only [EV,reduceIte,au,aA,ao,aq,aB,aC,aD,O6,at0,at1,dTr h.1,dTr h.2.1,dTr h.2.2]
theorem O7 {L:List Ty} {M:Nat} {now:Int} (ok:TO0 L M now) {k:Nat} (h:k < L.length):lR [.tuple [.int (bk L k),.int (ek L k),hD (hk L k)],.int (M:Int),.int now]=some (.bool true):=by
 obtain ⟨⟨o1,o2,o3⟩,o4,o5⟩:=ok.ok _ (n8 h)
 have o1:bk L k < ek L k:=o1
 have st:=Dw (a:=bk L k) (b:=ek L k) ⟨o2,o1,o3⟩
 have it:∀ l,D3.isT "tuple" (tyD (.tuple l))=true:=fun _=>rfl
 have e3:gNe (.int ((0 + 1 + 1 + 1:Nat):Int)) (.int 3)=some (.bool false):=rfl
 cases hh:hk L k with
 | none =>
  have o5:now ≤ bk L k:=o5 hh
  have nn:isNone (hD none)=true:=rfl
  unfold lR
  simp only [EV,reduceIte,au,aA,ao,aq,aB,aC,aD,it,e3,rN,st,at0,at2,nn,dTr o5]
 | some r =>
  obtain ⟨q1,q2,q3⟩:=o4 r hh
  have q2:bk L k ≤ now:=q2
  have q3:now < ek L k:=q3
  have nn:isNone (hD (some r))=false:=rfl
  have hw:eE [hD (some r)]=some (.bool true):=wh (.int (r:Int))
  have hv:hD (some r) = .int (r:Int):=rfl
  have r0:(0:Int) ≤ (r:Int):=by omega
  have r1:(r:Int) < (M:Int):=by omega
  unfold lR
  simp only [EV,reduceIte,au,aA,ao,aq,aB,aC,aD,it,e3,rN,st,at0,at2,nn,hw]
  rw [hv]
  simp only [EV,reduceIte,au,aA,ao,aq,aB,aC,aD,dTr r0,dTr r1,rN,K6,dTr q2,dTr q3]
noncomputable def qBP (i:Nat) (x y:Option D) (δ:DS):Option Oc:=match x,y with
 | some x,some y=>(Dh x).bind fun S=>match y with
  | .int k=>if S.length < 1000000 then some (.nx (δ.set i (some (.d (dsB (oK S k)))))) else none
  | _=>none
 | _,_=>none
theorem Dy {i:Nat} {fk:FE} {δ:DS}:rZ i fk δ=qBP i (aG i δ) (fk δ) δ:=by
 unfold rZ qBP
 cases aG i δ with
 | none=>rfl
 | some x=>cases fk δ <;> rfl
theorem wH {i:Nat} {S:List Int} {k:Int} {δ:DS} (h:S.length < 1000000):qBP i (some (dsB S)) (some (.int k)) δ=some (.nx (δ.set i (some (.d (dsB (oK S k)))))):=by
 unfold qBP
 dsimp only
 rw [vf,aK,if_pos h]
theorem Qg {S:List Int} {k:Int}:uT (.int k) (dsB S)=some (.bool (decide (k ∈ S))):=by
 unfold uT
 rw [vf]
 rfl
theorem TX {S:List Int}:uT .none (dsB S)=some (.bool false):=by
 unfold uT
 rw [vf]
 rfl
theorem K7 {L:List Ty} {M:Nat} {now:Int} (ok:TO0 L M now):jV [.list (L.map yD),.int (M:Int),.int now]=some .none:=by
 have l24:=ok.len
 have en:qj (L.map yD)=(aX L.length).map fun p:Nat=>PyData.tuple [.int (p:Int),.tuple [.int (bk L p),.int (ek L p),hD (hk L p)]]:=by
  rw [vp,K4]
  rfl
 obtain ⟨δ',e,S,x,y,_,_,rfl⟩:=lY (g:=(gTn 2 (dX (gNl 4) (dX (gNl 5) (nu))))) (b:=(cA (sIf (D3.oE (bI (dCall lR (aF (aG 5) (aF (aG 1) (aF (aG 2) (bh))))))) ((fun _=>none)) (gh)) (cA (sIf (bI (dOp uT (dOp gIx (aG 5) (dC (.int 2))) (aG 3))) ((fun _=>none)) (gh)) (sIf (bI (dUn rY (dOp gIx (aG 5) (dC (.int 2))))) (rZ 3 (dOp gIx (aG 5) (dC (.int 2)))) (gh)))))
  (fun i δ=>∃ (S:List Int) (x y:Option U),S.length ≤ i∧(∀ s ∈ S,∃ (j:Nat) (r:Nat),j < i∧j < L.length∧hk L j=some r∧s=(r:Int))∧δ=[some (.d (.list (L.map yD))),some (.d (.int (M:Int))),some (.d (.int now)),some (.d (dsB S)),x,y]) ((aX L.length).map fun p:Nat=>PyData.tuple [.int (p:Int),.tuple [.int (bk L p),.int (ek L p),hD (hk L p)]])
  [some (.d (.list (L.map yD))),some (.d (.int (M:Int))),some (.d (.int now)),some (.d (.dict [])),none,none] ⟨[],none,none,aQ _,fun _ h=>(by cases h),rfl⟩ (by
   rintro i d δ hd ⟨S,x,y,s1,s2,rfl⟩
   rw [bf] at hd
   by_cases hi:i < L.length
   case neg=>rw [cF (by simpa using hi)] at hd;cases hd
   rw [d_ hi] at hd
   cases hd
   have st:=O7 ok hi
   cases hh:hk L i with
   | none =>
    rw [hh] at st
    have nn:isNone (hD none)=true:=rfl
    have nb:uT (hD none) (dsB S)=some (.bool false):=TX
    refine ⟨_,[some (.d (.list (L.map yD))),some (.d (.int (M:Int))),some (.d (.int now)),some (.d (dsB S)),some (.d (.int (i:Int))),some (.d (.tuple [.int (bk L i),.int (ek L i),hD none]))],rfl,.inl ?_,S,_,_,by omega,fun s hs=>?_,rfl⟩
    ·simp only [EV,reduceIte,au,aA,ao,aq,aB,aC,aD,hh,st,at2,nb,nn]
    ·obtain ⟨j,r,j1,j2⟩:=s2 s hs
     exact ⟨j,r,by omega,j2⟩
   | some r =>
    rw [hh] at st
    have nn:isNone (hD (some r))=false:=rfl
    have ns:¬ (r:Int) ∈ S:=fun z=>by
     obtain ⟨j,r',j1,j2,j3,j4⟩:=s2 _ z
     have:r'=r:=by omega
     subst this
     have:=BJ ok.nd j2 hi j3 hh
     omega
    have nb:uT (hD (some r)) (dsB S)=some (.bool false):=by
     show uT (.int (r:Int)) _=_
     rw [Qg,dFa ns]
    have pb:∀ δ:DS,qBP 3 (some (dsB S)) (some (hD (some r))) δ=some (.nx (δ.set 3 (some (.d (dsB (oK S (r:Int))))))):=fun δ=>wH (by omega)
    have ep:oK S (r:Int)=S++[(r:Int)]:=by unfold oK;rw [if_neg ns]
    refine ⟨_,[some (.d (.list (L.map yD))),some (.d (.int (M:Int))),some (.d (.int now)),some (.d (dsB (oK S (r:Int)))),some (.d (.int (i:Int))),some (.d (.tuple [.int (bk L i),.int (ek L i),hD (some r)]))],rfl,.inl ?_,oK S (r:Int),_,_,?_,fun s hs=>?_,rfl⟩
    ·simp only [EV,reduceIte,au,aA,ao,aq,aB,aC,aD,hh,st,at2,nb,nn,Dy,pb]
    ·rw [ep,bB];simp;omega
    ·rw [ep] at hs
     rcases bW.mp hs with w | w
     ·obtain ⟨j,r,j1,j2⟩:=s2 s w
      exact ⟨j,r,by omega,j2⟩
     ·exact ⟨i,r,by omega,hi,hh,aV.mp w⟩)
 unfold jV
 simp only [EV,reduceIte,au,aA,ao,aq,aB,aC,aD,en]
 rw [e]
 simp only [EV,reduceIte,au,aA,ao,aq,aB,aC,aD]
theorem BK {g:FG} {b:FS} (Inv:DS→Prop) (p:Int→Bool):∀ (l:List Int) (δ:DS),Inv δ→(∀ x ∈ l,∀ δ,Inv δ→∃ δ1,g (.int x) δ=some δ1∧((p x=true∧b δ1=some (.rt (.int x)))∨(p x=false∧∃ δ',b δ1=some (.nx δ')∧Inv δ'))) →
 (∃ x,l.find? p=some x∧jF g b (l.map .int) δ=some (.rt (.int x)))∨(l.find? p=none∧∃ δ',jF g b (l.map .int) δ=some (.nx δ')∧Inv δ')
 | [],δ,h,_=>.inr ⟨rfl,δ,rfl,h⟩
 | x :: r,δ,h,hs=>by
  obtain ⟨δ1,e1,q⟩:=hs x aP δ h
  rcases q with ⟨hp,e2⟩ | ⟨hp,δ',e2,h'⟩
  ·refine .inl ⟨x,by rw [gQ,hp],?_⟩
   rw [bM,jF,e1,aK,e2]
   rfl
  ·have ih:=BK Inv p r δ' h' fun y hy=>hs y (aL _ hy)
   have ef:(x :: r).find? p=r.find? p:=by rw [gQ,hp]
   have eg:jF g b ((x :: r).map .int) δ=jF g b (r.map .int) δ':=by
    rw [bM,jF,e1,aK,e2]
    rfl
   rw [ef,eg]
   exact ih
noncomputable def outI:Option Int→D
 | none=>.none
 | some x=>.int x
noncomputable def pM (L:List Ty) (M:Nat) (x:Int):Bool:=decide ((M:Int) < (jc L x:Int))
noncomputable def nS (L:List Ty):List Sh:=L.map fun s=>(s.1,s.2.1)
theorem K8 (L:List Ty) (x:Int):cnt (nS L) x=jc L x:=by
 unfold cnt jc nS
 rw [List.filter_map,aH]
 rfl
noncomputable def LT (L:List Ty) (now:Int):List Int:=(L.map (·.1)).filter fun x=>decide (now < x)
theorem O8 {L:List Ty} {M:Nat} {now:Int} (hl:L.length ≤ 24):lB [.list ((nS L).map stD),.int (M:Int),.int now]=some (outI ((now :: j5 (LT L now)).find? (pM L M))):=by
 have ln:(nS L).length=L.length:=aH _
 have fs:=Bv (ss:=nS L) (by omega)
 have fe:(nS L).map (·.1)=L.map (·.1):=by unfold nS;rw [h_];rfl
 rw [fe] at fs
 have cf:gU (gNl 0) (bI (dOp gGt (aG 0) (aG 1))) (fY (aG 0)) [none,some (.d (.int now))] ((L.map (·.1)).map .int)=some ((LT L now).map .int):=by
  unfold LT
  generalize L.map (·.1)=l
  induction l with
  | nil=>rfl
  | cons x r ih =>
   rw [bM,gU]
   by_cases c:now < x
   ·simp only [EV,reduceIte,au,aA,ao,aq,aB,aC,aD,dTr c,aK,ih]
    rw [j9 (by simpa using c)]
    rfl
   ·simp only [EV,reduceIte,au,aA,ao,aq,aB,aC,aD,dFa c,aK,ih]
    rw [j_ (by simpa using c),if_neg (by decide)]
 have ll:(LT L now).length ≤ 60:=bV (dN _ _) (by rw [aH];omega)
 have gs:qg [.list ((LT L now).map .int)]=some (.list ((j5 (LT L now)).map .int)):=by
  unfold qg
  simp only
  rw [lQ,aK,if_pos (by omega)]
 have c1:oG (.list [.int now]) (.list ((j5 (LT L now)).map .int))=some (.list (.int now :: (j5 (LT L now)).map .int)):=by
  rw [wC,if_pos (by rw [aH,(iu _).length_eq];simp;omega)]
  rfl
 have ca:∀ a c d e f:Option U,kY 1 [2] [a,c,d,e,f]=[none,d]:=fun _ _ _ _ _=>rfl
 show Com.lB _=_
 unfold Com.lB
 simp only [EV,reduceIte,au,aA,ao,aq,aB,aC,aD,fs,lMp,show L.length ≤ 100000 by omega,ca,cf,gs,zl1,c1]
 rcases BK (g:=gNl 4) (b:=(sIf (bI (dOp gGt (dCall Com.iW (aF (aG 0) (aF (aG 4) (bh)))) (aG 1))) (eU (fY (aG 4))) (gh))) (fun δ=>∃ y,δ=[some (.d (.list ((nS L).map stD))),some (.d (.int (M:Int))),some (.d (.int now)),some (.d (.list ((LT L now).map .int))),y]) (pM L M) (now :: j5 (LT L now))
  [some (.d (.list ((nS L).map stD))),some (.d (.int (M:Int))),some (.d (.int now)),some (.d (.list ((LT L now).map .int))),none] ⟨none,rfl⟩ (by
   rintro x hx δ ⟨y,rfl⟩
   refine ⟨_,rfl,?_⟩
   have cs:=wG (ss:=nS L) (by omega) x
   rw [K8] at cs
   cases z:pM L M x with
   | true =>
    have z:decide ((M:Int) < (jc L x:Int))=true:=z
    refine .inl ⟨rfl,?_⟩
    simp only [EV,reduceIte,au,aA,ao,aq,aB,aC,aD,cs,z]
   | false =>
    have z:decide ((M:Int) < (jc L x:Int))=false:=z
    refine .inr ⟨rfl,_,?_,some (.d (.int x)),rfl⟩
    simp only [EV,reduceIte,au,aA,ao,aq,aB,aC,aD,cs,z]) with ⟨x,e1,e2⟩ | ⟨e1,δ',e2,y,rfl⟩
 ·rw [bM] at e2
  rw [e2,e1]
  simp only [EV,reduceIte,au,aA,ao,aq,aB,aC,aD]
  rfl
 ·rw [bM] at e2
  rw [e2,e1]
  simp only [EV,reduceIte,au,aA,ao,aq,aB,aC,aD]
  rfl
theorem O9 (n:Nat) (d:D):bD n d=(aX n).map fun _=>d:=by
 rw [List.map_const',cC]
theorem Wv {d:D} {k:Int} (h:k ≤ 1000000) (h' : -(2 ^ 63) ≤ k):Jh (.list [d]) (.int k)=some (.list (bD k.toNat d)):=by
 show (if [d].length * k.toNat ≤ 1000000∧-(2 ^ 63) ≤ k∧k < 2 ^ 63 then some (PyData.list (bD k.toNat [d]).flatten) else none)=_
 rw [if_pos ⟨by simp only [bK,jt];omega,h',by omega⟩]
 congr 2
 generalize k.toNat=n
 induction n with
 | zero=>rfl
 | succ n ih=>rw [dh,gO,ih,dh];rfl
theorem Dz (ok:TO0 L M now) (hM:M ≤ 12):∃ f:Nat→Int,fM [.list (L.map yD),.int (M:Int),.int now]=some (.list ((aX M).map fun r:Nat=>PyData.int (f r)))∧∀ r,r < M→(∃ k,k < L.length∧hk L k=some r∧f r=ek L k)∨((∀ k,k < L.length→hk L k ≠ some r)∧f r=now):=by
 have l24:=ok.len
 have rp:Jh (.list [.int now]) (.int (M:Int))=some (.list ((aX M).map fun r:Nat=>PyData.int ((fun _=>now) r))):=by
  rw [Wv (by omega) (by omega),dO,O9]
 have mt:L.map yD=(aX L.length).map fun k=>PyData.tuple [.int (bk L k),.int (ek L k),hD (hk L k)]:=by rw [vp];rfl
 obtain ⟨δ',e,f,u,hf,rfl⟩:=lY (g:=(gNl 4)) (b:=(sIf (bI (dUn rY (dOp gIx (aG 4) (dC (.int 2))))) (GP 3 (dOp gIx (aG 4) (dC (.int 2))) (dOp gIx (aG 4) (dC (.int 1)))) (gh)))
  (fun i δ=>∃ (f:Nat→Int) (u:Option U),(∀ r,r < M→(∃ k,k < i∧hk L k=some r∧f r=ek L k)∨((∀ k,k < i→hk L k ≠ some r)∧f r=now))∧δ=[some (.d (.list (L.map yD))),some (.d (.int (M:Int))),some (.d (.int now)),some (.d (.list ((aX M).map fun r:Nat=>PyData.int (f r)))),u]) (L.map yD)
  [some (.d (.list (L.map yD))),some (.d (.int (M:Int))),some (.d (.int now)),some (.d (.list ((aX M).map fun r:Nat=>PyData.int ((fun _=>now) r)))),none] ⟨fun _=>now,none,fun r _=>.inr ⟨fun k hk'=>absurd hk' (jr _),rfl⟩,rfl⟩ (by
   rintro i d δ hd ⟨f,u,hf,rfl⟩
   have hi:i < L.length:=by
    have:=(fU.mp hd).1
    rwa [aH] at this
   rw [mt,bf,d_ hi] at hd
   cases hd
   cases hh:hk L i with
   | none =>
    have nn:isNone (hD none)=true:=rfl
    refine ⟨_,[some (.d (.list (L.map yD))),some (.d (.int (M:Int))),some (.d (.int now)),some (.d (.list ((aX M).map fun r:Nat=>PyData.int (f r)))),some (.d (.tuple [.int (bk L i),.int (ek L i),hD none]))],rfl,.inl ?_,f,_,fun r hr=>?_,rfl⟩
    ·simp only [EV,reduceIte,au,aA,ao,aq,aB,aC,aD,hh,at2,nn,bJ]
    ·rcases hf r hr with ⟨k,k1,k2⟩ | ⟨k1,k2⟩
     ·exact .inl ⟨k,by omega,k2⟩
     ·refine .inr ⟨fun k hk'=>?_,k2⟩
      by_cases z:k=i
      ·rw [z,hh];exact fun w=>nomatch w
      ·exact k1 k (by omega)
   | some r0 =>
    have nn:isNone (hD (some r0))=false:=rfl
    have hr0:r0 < M:=((ok.ok _ (n8 hi)).2.1 r0 hh).1
    have hv:hD (some r0) = .int (r0:Int):=rfl
    have p3:=TQ (l:=(aX M).map fun r:Nat=>PyData.int (f r)) (by rw [aH,cC]) hr0
    have st:=Wt (n:=M) (c:=r0) (d:=.int (ek L i)) (fun r:Nat=>PyData.int (f r))
    refine ⟨_,[some (.d (.list (L.map yD))),some (.d (.int (M:Int))),some (.d (.int now)),some (.d (.list (((aX M).map fun r:Nat=>PyData.int (f r)).set r0 (.int (ek L i))))),some (.d (.tuple [.int (bk L i),.int (ek L i),hD (some r0)]))],rfl,.inl ?_,fun r=>if r=r0 then ek L i else f r,some (.d (.tuple [.int (bk L i),.int (ek L i),hD (some r0)])),fun r hr=>?_,?_⟩
    ·generalize (aX M).map (fun r:Nat=>PyData.int (f r))=FF at *
     simp only [EV,reduceIte,au,aA,ao,aq,aB,aC,aD,hh,hv,at1,at2,bR,p3,aK]
    ·by_cases z:r=r0
     ·exact .inl ⟨i,by omega,by rw [z];exact hh,by show (if r=r0 then ek L i else f r)=_;rw [if_pos z]⟩
     ·show (∃ k,k < i + 1∧hk L k=some r∧(if r=r0 then ek L i else f r)=ek L k)∨((∀ k,k < i + 1→hk L k ≠ some r)∧(if r=r0 then ek L i else f r)=now)
      rw [if_neg z]
      rcases hf r hr with ⟨k,k1,k2⟩ | ⟨k1,k2⟩
      ·exact .inl ⟨k,by omega,k2⟩
      ·refine .inr ⟨fun k hk'=>?_,k2⟩
       by_cases w:k=i
       ·rw [w,hh]
        intro y
        injection y with y
        exact z y.symm
       ·exact k1 k (by omega)
    ·rw [st]
     have:(fun x:Nat=>if x=r0 then PyData.int (ek L i) else PyData.int (f x))=fun x=>PyData.int (if x=r0 then ek L i else f x):=by
      funext x
      by_cases z:x=r0
      ·rw [if_pos z,if_pos z]
      ·rw [if_neg z,if_neg z]
     rw [this])
 rw [aH] at hf
 refine ⟨f,?_,hf⟩
 have fl:flats ((aX M).map fun r:Nat=>PyData.int (f r))=true:=m5 _ (fun _=>rfl) _
 show Com.fM _=_
 unfold Com.fM
 simp only [EV,reduceIte,au,aA,ao,aq,aB,aC,aD,zl1,rp]
 rw [e]
 simp only [EV,reduceIte,au,aA,ao,aq,aB,aC,aD,sS,fl]
theorem TO0.of {L:List Ty} {M:Nat} {now:Int} (ok:TOk L M now):TO0 L M now:=⟨ok.len,fun s hs=>⟨⟨(ok.ok s hs).1,(ok.bd s hs).1,(ok.bd s hs).2⟩,(ok.ok s hs).2⟩,ok.nd⟩
theorem BL {L:List Ty} {M:Nat} {now:Int} (ok:TOk L M now):jc L now ≤ M:=by
 cases e:L.filter (hol now) with
 | nil=>unfold jc;rw [e];exact fu _
 | cons s r =>
  have hs:s ∈ L.filter (hol now):=by rw [e];exact aP
  obtain ⟨h1,h2⟩:=fP.mp hs
  have:=ok.full s h1
  unfold hol at h2
  rw [aO,decide_eq_true_iff] at h2
  rwa [if_neg (by omega)] at this
theorem O_ {L:List Ty} {M:Nat} {now:Int} (ok:TOk L M now) {s:Ty} (hs:s ∈ L) (h:now ≤ s.1):jc L s.1 ≤ M:=by
 have:=ok.full s hs
 by_cases z:s.1 > now
 ·rwa [if_pos z] at this
 ·rw [if_neg z] at this
  have:s.1=now:=by omega
  rw [this]
  exact BL ok
theorem Gb {L:List Ty} {g:FG} {c:FT} {e:FE} (hg:g=gNl 0) (hc:c=D3.kW) (he:e=dCall Com.dw (aF (aG 0) (bh))) (δ0:DS):gU g c e (kY 1 [] δ0) (L.map yD)=some ((nS L).map stD):=by
 subst hg hc he
 unfold nS
 rw [h_]
 exact wX yD _ L fun s _=>⟨[some (.d (yD s))],rfl,rfl,by
  obtain ⟨a,b,c⟩:=s
  have:Com.dw [.tuple [.int a,.int b,hD c]]=_:=rN a b (hD c)
  unfold yD
  simp only [EV,reduceIte,au,aA,ao,aq,aB,aC,aD,this]
  rfl⟩
theorem Pa {L:List Ty} {M:Nat} {now:Int} (ok:TOk L M now):iM [.list (L.map yD),.int (M:Int),.int now]=some .none:=by
 have l24:=ok.len
 have len:(L.map yD).length ≤ 100000:=by rw [aH];omega
 have ff:=O8 (L:=L) (M:=M) (now:=now) l24
 have no:(now :: j5 (LT L now)).find? (pM L M)=none:=m6.mpr fun x hx=>by
  have:jc L x ≤ M:=by
   rcases aR.mp hx with rfl | z
   ·exact BL ok
   ·obtain ⟨z1,z2⟩:=fP.mp ((iu _).mem_iff.mp z)
    obtain ⟨s,s1,rfl⟩:=bT.mp z1
    have z2:=of_decide_eq_true z2
    exact O_ ok s1 (by omega)
  unfold pM
  rw [decide_eq_true_iff]
  omega
 rw [no] at ff
 have ff:Com.lB [.list ((nS L).map stD),.int (M:Int),.int now]=some .none:=ff
 have C:=fun δ0=>Gb (L:=L) (g:=(gNl 0)) (c:=(D3.kW)) (e:=(dCall dw (aF (aG 0) (bh)))) rfl rfl rfl δ0
 have nn:isNone .none=true:=rfl
 show Com.iM _=_
 unfold Com.iM
 simp only [EV,reduceIte,au,aA,ao,aq,aB,aC,aD,len,C,ff,nn,bJ]
theorem K9 {L:List Ty} {M:Nat} {now:Int} (ok:TOk L M now) {w:Nat} (hw:w < L.length) (hn:hk L w=none):mH [.list (L.map yD),.int (M:Int),.int now,.int (w:Int)]=some .none:=by
 have l24:=ok.len
 have c1:=K7 (TO0.of ok)
 have c2:=Pa ok
 have a1:=ay hw
 have ll:((L.map yD).length:Int)=(L.length:Int):=by rw [aH]
 have z1:decide ((0:Int) ≤ (w:Int))=true:=dTr (by omega)
 have z2:decide ((w:Int) < (L.length:Int))=true:=dTr (by omega)
 have nn:isNone (hD none)=true:=rfl
 rw [hn] at a1
 unfold mH
 simp only [EV,reduceIte,au,aA,ao,aq,aB,aC,aD,c1,c2,ll,z1,z2,a1,at2,nn,bJ]
theorem Gd {M r:Nat} (h:r < M):gw [.int (M:Int),.int (r:Int)]=some .none:=by
 have z1:decide ((0:Int) ≤ (r:Int))=true:=dTr (by omega)
 have z2:decide ((r:Int) < (M:Int))=true:=dTr (by omega)
 show Com.gw _=_
 unfold Com.gw
 simp only [EV,reduceIte,au,aA,ao,aq,aB,aC,aD,z1,z2,bJ]
noncomputable def gA (L:List Ty) (w k:Nat) (x:Int):Bool:=!decide (k=w) && (!(hk L k).isSome && (decide (bk L k=x) && decide (ek L k ≤ bk L w)))
theorem K_ {L:List Ty} {w k:Nat} {x:Int} (hw:w < L.length) (hk':k < L.length):gB [.list (L.map yD),.int (w:Int),.int (k:Int),.int x]=some (.bool (gA L w k x)):=by
 have a1:=ay hw
 have a2:=ay hk'
 have nn:=Dv (hk L k)
 have e1:decide ((k:Int)=(w:Int))=decide (k=w):=decide_eq_decide.mpr (by omega)
 unfold gA
 show Com.gB _=_
 unfold Com.gB
 cases c1:decide (k=w) with
 | true=>simp only [EV,reduceIte,au,aA,ao,aq,aB,aC,aD,a1,a2,at0,at1,at2,nn,e1,c1,bJ,iw]
 | false =>
  cases c2:(hk L k).isSome with
  | true=>simp only [EV,reduceIte,au,aA,ao,aq,aB,aC,aD,a1,a2,at0,at1,at2,nn,e1,c1,c2,bJ,bR,iw,jz]
  | false =>
   cases c3:decide (bk L k=x) with
   | true=>simp only [EV,reduceIte,au,aA,ao,aq,aB,aC,aD,a1,a2,at0,at1,at2,nn,e1,c1,c2,c3,bJ,bR,iw,jz]
   | false=>simp only [EV,reduceIte,au,aA,ao,aq,aB,aC,aD,a1,a2,at0,at1,at2,nn,e1,c1,c2,c3,bJ,bR,iw,jz]
theorem La {L:List Ty} {M:Nat} {x:Int} (hl:L.length ≤ 24):jm [.list (L.map yD),.int (M:Int),.int x]=some (.bool (decide (jc L x=M))):=by
 have len:(L.map yD).length ≤ 100000:=by rw [aH];omega
 have C:=fun δ0=>Gb (L:=L) (g:=(gNl 0)) (c:=(D3.kW)) (e:=(dCall dw (aF (aG 0) (bh)))) rfl rfl rfl δ0
 have cs:=wG (ss:=nS L) (by unfold nS;rw [aH];omega) x
 rw [K8] at cs
 have e1:decide ((jc L x:Int)=(M:Int))=decide (jc L x=M):=decide_eq_decide.mpr (by omega)
 show Com.jm _=_
 unfold Com.jm
 simp only [EV,reduceIte,au,aA,ao,aq,aB,aC,aD,len,C,cs,e1]
noncomputable def pqD (s:Int × Option Nat):D:=.tuple [.int s.1,hD s.2]
noncomputable def gos (L:List Ty) (w:Nat) (x:Int):List Nat:=(aX L.length).filter fun k=>gA L w k x
noncomputable def stp (L:List Ty) (M w:Nat) (x:Int):List (Int × Option Nat):=((gos L w x).map fun k=>(ek L k,some k))++if jc L x=M then [] else [(x + 1,none)]
theorem TY {L:List Ty} {M w:Nat} {x:Int} (hl:L.length ≤ 24) (hw:w < L.length):gC [.list (L.map yD),.int (M:Int),.int (w:Int),.int x]=some (.list ((stp L M w x).map pqD)):=by
 have en:qj (L.map yD)=(aX L.length).map fun p:Nat=>PyData.tuple [.int (p:Int),yD (tAt L p)]:=by rw [vp];exact K4 _
 have C:gU (gTn 2 (dX (gNl 0) (dX (gNl 1) (nu)))) (bI (dCall gB (aF (aG 2) (aF (aG 3) (aF (aG 0) (aF (aG 4) (bh))))))) (fY (dTup (aF (dOp gIx (aG 1) (dC (.int 1))) (aF (aG 0) (bh))))) (kY 2 [0,2,3] [some (.d (.list (L.map yD))),some (.d (.int (M:Int))),some (.d (.int (w:Int))),some (.d (.int x)),none]) (qj (L.map yD))=some ((gos L w x).map fun k=>pqD (ek L k,some k)):=by
  rw [en]
  exact Hx (fun p:Nat=>PyData.tuple [.int (p:Int),yD (tAt L p)]) (fun k=>gA L w k x) (fun k=>pqD (ek L k,some k)) (aX L.length) fun p hp=>⟨[some (.d (.int (p:Int))),some (.d (yD (tAt L p))),some (.d (.list (L.map yD))),some (.d (.int (w:Int))),some (.d (.int x))],rfl,by
   have:=K_ (x:=x) hw (bO.mp hp)
   have:Com.gB _=_:=this
   simp only [EV,reduceIte,au,aA,ao,aq,aB,aC,aD,this],fun _=>by
   unfold yD
   simp only [EV,reduceIte,au,aA,ao,aq,aB,aC,aD,at1]
   rfl⟩
 have el:(qj (L.map yD)).length ≤ 100000:=by rw [en,aH,cC];omega
 have tt:Com.jm _=_:=La (M:=M) (x:=x) hl
 have gl:(gos L w x).length ≤ 24:=by
  have:=dN (fun k=>gA L w k x) (aX L.length)
  rw [cC] at this
  exact bV this hl
 have lm:((gos L w x).map fun k=>pqD (ek L k,some k)).length < 1000000:=by rw [aH];omega
 have f1:flats ((gos L w x).map fun k=>pqD (ek L k,some k))=true:=m5 _ (fun _=>rfl) _
 unfold stp
 show Com.gC _=_
 unfold Com.gC
 by_cases z:jc L x=M
 ·rw [dTr z] at tt
  rw [if_pos z,cR,h_]
  simp only [EV,reduceIte,au,aA,ao,aq,aB,aC,aD,el,C,tt,bJ,sS,f1]
  rfl
 ·rw [dFa z] at tt
  rw [if_neg z,dj,h_]
  have f2:flats (((gos L w x).map fun k=>pqD (ek L k,some k))++[pqD (x + 1,none)])=true:=by
   rw [show [pqD (x + 1,none)]=([(x + 1,none)]:List (Int × Option Nat)).map pqD from rfl]
   rw [show ((gos L w x).map fun k=>pqD (ek L k,some k))=((gos L w x).map fun k=>(ek L k,some k)).map pqD by rw [h_];rfl,← dj]
   exact m5 _ (fun s=>by obtain ⟨a,b⟩:=s;cases b <;> rfl) _
  have f2':flats (((gos L w x).map fun k=>pqD (ek L k,some k))++[PyData.tuple [.int (x + 1),.none]])=true:=f2
  simp only [EV,reduceIte,au,aA,ao,aq,aB,aC,aD,el,C,tt,bR,zl2,lm,sS,f2']
  rfl
theorem DK (ok:TOk L M now) {r:Nat} {f:Nat→Int} (hr:r < M) (hf:∀ s,s < M→(∃ k,k < L.length∧hk L k=some s∧f s=ek L k)∨((∀ k,k < L.length→hk L k ≠ some s)∧f s=now)) :
 dR [.list (L.map yD),.int now,.int (r:Int)]=some (.int (f r)):=by
 have F:=ux (v:=.int (f r)) (g:=(gTn 3 (dX (gNl 3) (dX (gNl 4) (dX (gNl 5) (nu)))))) (b:=(sIf (D3.lE (bI (dUn rY (aG 5))) (bI (dOp gEq (aG 5) (aG 2)))) (eU (fY (aG 4))) (gh)))
  (fun _ δ=>∃ x y z,δ=[some (.d (.list (L.map yD))),some (.d (.int now)),some (.d (.int (r:Int))),x,y,z]) (fun i=>hk L i ≠ some r) (L.map yD)
  [some (.d (.list (L.map yD))),some (.d (.int now)),some (.d (.int (r:Int))),none,none,none] ⟨none,none,none,rfl⟩ (by
   rintro i d δ hd' _ ⟨x,y,z,rfl⟩
   have hi:i < L.length:=by
    have:=(fU.mp hd').1
    rwa [aH] at this
   have e:d = .tuple [.int (bk L i),.int (ek L i),hD (hk L i)]:=by
    have:=ay hi
    rw [lC,hd'] at this
    injection this
   subst e
   refine ⟨[some (.d (.list (L.map yD))),some (.d (.int now)),some (.d (.int (r:Int))),some (.d (.int (bk L i))),some (.d (.int (ek L i))),some (.d (hD (hk L i)))],rfl,?_⟩
   cases hh:hk L i with
   | none =>
    have nn:isNone (hD none)=true:=rfl
    refine .inl ⟨(fun z=>by cases z),[some (.d (.list (L.map yD))),some (.d (.int now)),some (.d (.int (r:Int))),some (.d (.int (bk L i))),some (.d (.int (ek L i))),some (.d (hD none))],?_,_,_,_,rfl⟩
    simp only [EV,reduceIte,au,aA,ao,aq,aB,aC,aD,nn,bJ]
   | some s =>
    have nn:isNone (hD (some s))=false:=rfl
    by_cases c:s=r
    ·subst c
     refine .inr ⟨fun z=>z rfl,?_⟩
     have ef:ek L i=f s:=by
      rcases hf s hr with ⟨k,k1,k2,k3⟩ | ⟨k1,_⟩
      ·rw [k3,BJ ok.nd hi k1 hh k2]
      ·exact absurd hh (k1 i hi)
     have q:gEq (hD (some s)) (.int (s:Int))=some (.bool true):=by
      show gEq (.int (s:Int)) (.int (s:Int))=_
      rw [KD,dTr rfl]
     rw [ef]
     simp only [EV,reduceIte,au,aA,ao,aq,aB,aC,aD,nn,bR,q,fli]
    ·refine .inl ⟨fun z=>c (by injection z),[some (.d (.list (L.map yD))),some (.d (.int now)),some (.d (.int (r:Int))),some (.d (.int (bk L i))),some (.d (.int (ek L i))),some (.d (hD (some s)))],?_,_,_,_,rfl⟩
     have q:gEq (hD (some s)) (.int (r:Int))=some (.bool false):=by
      show gEq (.int (s:Int)) (.int (r:Int))=_
      rw [KD,dFa (by omega)]
     simp only [EV,reduceIte,au,aA,ao,aq,aB,aC,aD,nn,bR,q])
 show Com.dR _=_
 unfold Com.dR
 rcases F with ⟨δ',e,⟨x,y,z,rfl⟩,a⟩ | ⟨e,_⟩
 ·have ef:f r=now:=by
   rcases hf r hr with ⟨k,k1,k2,k3⟩ | ⟨_,k2⟩
   ·exact absurd k2 (a k (by rw [aH];exact k1))
   ·exact k2
  rw [ef]
  simp only [EV,reduceIte,au,aA,ao,aq,aB,aC,aD]
  rw [e]
  simp only [EV,reduceIte,au,aA,ao,aq,aB,aC,aD,fli]
 ·simp only [EV,reduceIte,au,aA,ao,aq,aB,aC,aD]
  rw [e]
  simp only [EV,reduceIte,au,aA,ao,aq,aB,aC,aD]
theorem inI (cs:List Int) (x:Int):gIn (.int x) (.list (cs.map .int))=some (.bool (decide (x ∈ cs))):=by
 show (if (SeqAt.shaped (.int x) && SeqAt.shaped (.list (cs.map .int)))=true then some (PyData.bool ((cs.map PyData.int).any fun z=>PyData.eqv z (.int x))) else none)=_
 rw [shaped_ints cs,if_pos (by rfl),List.any_map]
 congr 2
 rw [pL,List.any_eq_true,decide_eq_true_eq]
 constructor
 ·rintro ⟨y,h1,h2⟩
  have h2:PyData.eqv (.int y) (.int x)=true:=h2
  have:y=x:=by simpa [PyData.eqv] using h2
  rw [← this];exact h1
 ·intro h
  exact ⟨x,h,by show PyData.eqv (.int x) (.int x)=true;simp [PyData.eqv]⟩
theorem zO (cs:List Int) (x:Int):nA (.int x) (.list (cs.map .int))=some (.bool (!decide (x ∈ cs))):=by
 have:=inI cs x
 unfold gIn at this
 unfold nA
 dsimp only at this ⊢
 split at this
 ·next c =>
  rw [if_pos c]
  injection this with this
  injection this with this
  rw [this]
 ·cases this
noncomputable def nxt (L:List Ty) (M w:Nat) (x:Int):List Int:=(if jc L x < M then [x + 1] else [])++(gos L w x).map (ek L)
theorem X4 (g:FG) (c:FT) (e:FE) (hg:g=gNl 0) (hc:c=D3.lE (bI (dOp gLe (dOp gIx (aG 0) (dC (.int 0))) (aG 1))) (bI (dOp gLt (aG 1) (dOp gIx (aG 0) (dC (.int 1)))))) (he:e=fY (aG 0)) (x:Int) (δ:DS) (hd:δ=[none,some (.d (.int x))]):gU g c e δ (L.map yD)=some ((L.filter (hol x)).map yD):=by
 subst hg hc he hd
 exact Hx yD (hol x) yD L fun s _=>⟨[some (.d (yD s)),some (.d (.int x))],rfl,by
  obtain ⟨a,b,c⟩:=s
  unfold yD hol
  dsimp only
  cases c1:decide (a ≤ x) with
  | true=>simp only [EV,reduceIte,au,aA,ao,aq,aB,aC,aD,at0,at1,c1,jz]
  | false=>simp only [EV,reduceIte,au,aA,ao,aq,aB,aC,aD,at0,at1,c1,iw],fun _=>by
  have fl:flat (yD s)=true:=by obtain ⟨a,b,c⟩:=s;cases c <;> rfl
  simp only [EV,reduceIte,au,aA,ao,aq,aB,aC,aD,fl]⟩
theorem Ge {w:Nat} {x:Int} (hl:L.length ≤ 24) (hw:w < L.length):iT [.list (L.map yD),.int (M:Int),.int (w:Int),.int x]=some (.list ((nxt L M w x).map .int)):=by
 have aw:=ay hw
 have loop:∀ (h:List Int),h.length ≤ 1→∃ u5 u6 u7 u8,jF ((gNl 5)) ((cA (GK (dOp gIx (aG 0) (aG 5)) (gTn 3 (dX (gNl 6) (dX (gNl 7) (dX (gNl 8) (nu)))))) (sIf (D3.lE (bI (dOp gNe (aG 5) (aG 2))) (D3.lE (bI (dUn uF (aG 8))) (D3.lE (bI (dOp gEq (aG 6) (aG 3))) (bI (dOp gLe (aG 7) (dOp gIx (dOp gIx (aG 0) (aG 2)) (dC (.int 0)))))))) (yM 4 (aG 7)) (gh)))) (iV 0 (L.length:Int)) [some (.d (.list (L.map yD))),some (.d (.int (M:Int))),some (.d (.int (w:Int))),some (.d (.int x)),some (.d (.list (h.map .int))),none,none,none,none] =
  some (.nx [some (.d (.list (L.map yD))),some (.d (.int (M:Int))),some (.d (.int (w:Int))),some (.d (.int x)),some (.d (.list ((h++(gos L w x).map (ek L)).map .int))),u5,u6,u7,u8]):=fun h h1=>by
  obtain ⟨δ',e,u5,u6,u7,u8,rfl⟩:=lY (g:=(gNl 5)) (b:=(cA (GK (dOp gIx (aG 0) (aG 5)) (gTn 3 (dX (gNl 6) (dX (gNl 7) (dX (gNl 8) (nu)))))) (sIf (D3.lE (bI (dOp gNe (aG 5) (aG 2))) (D3.lE (bI (dUn uF (aG 8))) (D3.lE (bI (dOp gEq (aG 6) (aG 3))) (bI (dOp gLe (aG 7) (dOp gIx (dOp gIx (aG 0) (aG 2)) (dC (.int 0)))))))) (yM 4 (aG 7)) (gh))))
   (fun i δ=>∃ u5 u6 u7 u8,δ=[some (.d (.list (L.map yD))),some (.d (.int (M:Int))),some (.d (.int (w:Int))),some (.d (.int x)),some (.d (.list ((h++((aX i).filter fun k=>gA L w k x).map (ek L)).map .int))),u5,u6,u7,u8]) (iV 0 (L.length:Int))
   [some (.d (.list (L.map yD))),some (.d (.int (M:Int))),some (.d (.int (w:Int))),some (.d (.int x)),some (.d (.list (h.map .int))),none,none,none,none] ⟨none,none,none,none,by rw [List.range_zero,List.filter_nil,o7,cR]⟩ (by
    rintro i d δ hd ⟨u5,u6,u7,u8,rfl⟩
    obtain ⟨hi,rfl⟩:=wD hd
    have hi:i < L.length:=by omega
    have ai:=ay hi
    have nn:=Dv (hk L i)
    have e1:decide ((i:Int)=(w:Int))=decide (i=w):=decide_eq_decide.mpr (by omega)
    have ml:(((aX i).filter fun k=>gA L w k x).map (ek L)).length ≤ 24:=by
     rw [aH]
     have:=dN (fun k=>gA L w k x) (aX i)
     rw [cC] at this
     omega
    have ll:((h++((aX i).filter fun k=>gA L w k x).map (ek L)).map PyData.int).length < 1000000:=by
     rw [aH,bB];omega
    have et:((aX (i + 1)).filter fun k=>gA L w k x).map (ek L)=((aX i).filter fun k=>gA L w k x).map (ek L)++(if gA L w i x=true then [ek L i] else []):=by
     rw [List.range_succ,List.filter_append,dj]
     by_cases c:gA L w i x=true
     ·rw [j9 (p:=fun k=>gA L w k x) c,if_pos c];rfl
     ·rw [j_ (p:=fun k=>gA L w k x) c,if_neg c];rfl
    rw [et]
    generalize ((aX i).filter fun k=>gA L w k x).map (ek L)=Z at *
    by_cases c:gA L w i x=true
    ·rw [if_pos c]
     refine ⟨_,[some (.d (.list (L.map yD))),some (.d (.int (M:Int))),some (.d (.int (w:Int))),some (.d (.int x)),some (.d (.list ((h++Z).map .int++[.int (ek L i)]))),some (.d (.int (i:Int))),some (.d (.int (bk L i))),some (.d (.int (ek L i))),some (.d (hD (hk L i)))],rfl,.inl ?_,some (.d (.int (i:Int))),some (.d (.int (bk L i))),some (.d (.int (ek L i))),some (.d (hD (hk L i))),?_⟩
     ·unfold gA at c
      rw [aO,aO,aO] at c
      obtain ⟨c1,c2,c3,c4⟩:=c
      have c1:decide (i=w)=false:=by simpa using c1
      have g1:gTn 3 (dX (gNl 6) (dX (gNl 7) (dX (gNl 8) nu))) (.tuple [.int (bk L i),.int (ek L i),hD (hk L i)]) [some (.d (.list (L.map yD))),some (.d (.int (M:Int))),some (.d (.int (w:Int))),some (.d (.int x)),some (.d (.list ((h++Z).map .int))),some (.d (.int (i:Int))),u6,u7,u8]=some [some (.d (.list (L.map yD))),some (.d (.int (M:Int))),some (.d (.int (w:Int))),some (.d (.int x)),some (.d (.list ((h++Z).map .int))),some (.d (.int (i:Int))),some (.d (.int (bk L i))),some (.d (.int (ek L i))),some (.d (hD (hk L i)))]:=rfl
      simp only [EV,reduceIte,au,aA,ao,aq,aB,aC,aD,ai,g1,e1,c1,bR,nn,c2,c3,aw,at0,c4,ll]
     ·rw [← aW,dj (f:=PyData.int) (l₁:=h++Z)]
      rfl
    ·rw [if_neg c,cR]
     refine ⟨_,[some (.d (.list (L.map yD))),some (.d (.int (M:Int))),some (.d (.int (w:Int))),some (.d (.int x)),some (.d (.list ((h++Z).map .int))),some (.d (.int (i:Int))),some (.d (.int (bk L i))),some (.d (.int (ek L i))),some (.d (hD (hk L i)))],rfl,.inl ?_,_,_,_,_,rfl⟩
     have g1:gTn 3 (dX (gNl 6) (dX (gNl 7) (dX (gNl 8) nu))) (.tuple [.int (bk L i),.int (ek L i),hD (hk L i)]) [some (.d (.list (L.map yD))),some (.d (.int (M:Int))),some (.d (.int (w:Int))),some (.d (.int x)),some (.d (.list ((h++Z).map .int))),some (.d (.int (i:Int))),u6,u7,u8]=some [some (.d (.list (L.map yD))),some (.d (.int (M:Int))),some (.d (.int (w:Int))),some (.d (.int x)),some (.d (.list ((h++Z).map .int))),some (.d (.int (i:Int))),some (.d (.int (bk L i))),some (.d (.int (ek L i))),some (.d (hD (hk L i)))]:=rfl
     unfold gA at c
     cases c1:decide (i=w) with
     | true=>simp only [EV,reduceIte,au,aA,ao,aq,aB,aC,aD,ai,g1,e1,c1,bJ]
     | false =>
      rw [c1] at c
      cases c2:(hk L i).isSome with
      | true=>simp only [EV,reduceIte,au,aA,ao,aq,aB,aC,aD,ai,g1,e1,c1,bR,nn,c2,bJ]
      | false =>
       rw [c2] at c
       cases c3:decide (bk L i=x) with
       | false=>simp only [EV,reduceIte,au,aA,ao,aq,aB,aC,aD,ai,g1,e1,c1,bR,nn,c2,c3]
       | true =>
        rw [c3] at c
        cases c4:decide (ek L i ≤ bk L w) with
        | false=>simp only [EV,reduceIte,au,aA,ao,aq,aB,aC,aD,ai,g1,e1,c1,bR,nn,c2,c3,aw,at0,c4]
        | true=>rw [c4] at c;exact absurd rfl c)
  rw [rM,dO] at *
  exact ⟨u5,u6,u7,u8,e⟩
 have C:=X4 (L:=L) ((gNl 0)) ((D3.lE (bI (dOp gLe (dOp gIx (aG 0) (dC (.int 0))) (aG 1))) (bI (dOp gLt (aG 1) (dOp gIx (aG 0) (dC (.int 1))))))) ((fY (aG 0))) rfl rfl rfl x (kY 1 [3] [some (.d (.list (L.map yD))),some (.d (.int (M:Int))),some (.d (.int (w:Int))),some (.d (.int x)),some (.d (.list [])),none,none,none,none]) rfl
 have len:(L.map yD).length ≤ 100000:=by rw [aH];omega
 have ll:((L.map yD).length:Int)=(L.length:Int):=by rw [aH]
 have cl:(((L.filter (hol x)).map yD).length:Int)=(jc L x:Int):=by rw [aH];rfl
 have rg:pO (some [.int (L.length:Int)])=some (iV 0 (L.length:Int)):=Wu _ (by omega)
 have fl:∀ l:List Int,flats (l.map PyData.int)=true:=fun l=>m5 _ (fun _=>rfl) _
 unfold nxt
 unfold iT
 by_cases c:jc L x < M
 ·rw [if_pos c]
  obtain ⟨u5,u6,u7,u8,e⟩:=loop [x + 1] (by simp)
  have dc:decide ((jc L x:Int) < (M:Int))=true:=dTr (by omega)
  have z1:([]:List D).length < 1000000:=by decide
  simp only [EV,reduceIte,au,aA,ao,aq,aB,aC,aD,zl0,len,C,cl,dc,z1,ll,rg]
  have e':([x + 1].map PyData.int)=[PyData.int (x + 1)]:=rfl
  rw [e'] at e
  rw [e]
  simp only [EV,reduceIte,au,aA,ao,aq,aB,aC,aD,sS,fl]
 ·rw [if_neg c]
  obtain ⟨u5,u6,u7,u8,e⟩:=loop [] (by simp)
  have dc:decide ((jc L x:Int) < (M:Int))=false:=dFa (by omega)
  simp only [EV,reduceIte,au,aA,ao,aq,aB,aC,aD,zl0,len,C,cl,dc,ll,rg]
  have e':(([]:List Int).map PyData.int)=[]:=rfl
  rw [e'] at e
  rw [e]
  simp only [EV,reduceIte,au,aA,ao,aq,aB,aC,aD,sS,fl]
theorem Pg {Q:List Int} (h:0 < Q.length):pAt (Q.map PyData.int) (-1)=some (.int (Q[Q.length - 1]'(by omega))):=by
 unfold pAt pIx
 rw [if_neg (by omega),aH,if_pos (by omega)]
 rw [show (-1 + (Q.length:Int)).toNat=Q.length - 1 by omega,aK,bf,aN (by omega)]
 rfl
theorem Lb (ok:TOk L M now) {x:Int} (hx:now ≤ x):jc L x ≤ M:=by
 have key:∀ l:List Ty,(∀ s ∈ l,s ∈ L∧hol x s=true)→l=[]∨∃ s ∈ l,∀ t ∈ l,t.1 ≤ s.1:=by
  intro l
  induction l with
  | nil=>exact fun _=>.inl rfl
  | cons a r ih =>
   intro h
   right
   rcases ih fun s hs=>h s (aL _ hs) with z | ⟨s,s1,s2⟩
   ·subst z
    exact ⟨a,aP,fun t ht=>by rw [aV.mp ht];exact cX _⟩
   ·rcases Int.lt_or_le s.1 a.1 with z | z
    ·refine ⟨a,aP,fun t ht=>?_⟩
     rcases aR.mp ht with rfl | q
     ·exact cX _
     ·have:=s2 t q
      omega
    ·refine ⟨s,aL _ s1,fun t ht=>?_⟩
     rcases aR.mp ht with rfl | q
     ·exact z
     ·exact s2 t q
 have hm:∀ s ∈ L.filter (hol x),s ∈ L∧hol x s=true:=fun s hs=>fP.mp hs
 rcases key _ hm with z | ⟨s,s1,s2⟩
 ·unfold jc;rw [z];exact fu _
 ·obtain ⟨s3,s4⟩:=hm s s1
  unfold hol at s4
  rw [aO,decide_eq_true_iff,decide_eq_true_iff] at s4
  refine bV ?_ (ok.full s s3)
  unfold jc
  have e:L.filter (hol x)=(L.filter (hol (if s.1 > now then s.1 else now))).filter (hol x):=by
   rw [List.filter_filter]
   apply List.filter_congr
   intro t ht
   cases c:hol x t with
   | false=>rfl
   | true =>
    have:=s2 t (fP.mpr ⟨ht,c⟩)
    unfold hol at c
    rw [aO,decide_eq_true_iff,decide_eq_true_iff] at c
    have:hol (if s.1 > now then s.1 else now) t=true:=by
     unfold hol
     rw [aO,decide_eq_true_iff,decide_eq_true_iff]
     split <;> omega
    rw [this]
    rfl
  rw [e]
  exact dN _ _
theorem Gf (ok:TOk L M now) {w:Nat} {x y:Int} (hx:now ≤ x):y ∈ nxt L M w x↔∃ p,(y,p) ∈ stp L M w x:=by
 have:=Lb ok hx
 unfold nxt stp
 constructor
 ·intro h
  rcases bW.mp h with z | z
  ·by_cases c:jc L x < M
   ·rw [if_pos c] at z
    rw [aV.mp z]
    exact ⟨none,bL _ (by rw [if_neg (by omega)];exact aV.mpr rfl)⟩
   ·rw [if_neg c] at z;cases z
  ·obtain ⟨k,k1,rfl⟩:=bT.mp z
   exact ⟨some k,cV _ (bT.mpr ⟨k,k1,rfl⟩)⟩
 ·rintro ⟨p,h⟩
  rcases bW.mp h with z | z
  ·obtain ⟨k,k1,e⟩:=bT.mp z
   cases e
   exact bL _ (bT.mpr ⟨k,k1,rfl⟩)
  ·by_cases c:jc L x=M
   ·rw [if_pos c] at z;cases z
   ·rw [if_neg c] at z
    have:=aV.mp z
    cases this
    exact cV _ (by rw [if_pos (by omega)];exact aV.mpr rfl)
theorem T3 (ok:TOk L M now) {w:Nat} {x y:Int} (h:y ∈ nxt L M w x):x < y:=by
 unfold nxt at h
 rcases bW.mp h with z | z
 ·by_cases c:jc L x < M
  ·rw [if_pos c] at z
   have:=aV.mp z
   omega
  ·rw [if_neg c] at z;cases z
 ·obtain ⟨k,k1,rfl⟩:=bT.mp z
  unfold gos gA at k1
  rw [fP,bO,aO,aO,aO,decide_eq_true_iff] at k1
  obtain ⟨k2,_,_,k3,_⟩:=k1
  have:=(ok.ok _ (n8 k2)).1
  have:bk L k < ek L k:=this
  omega
theorem Ph {S:List Int} {k x:Int}:x ∈ oK S k↔x ∈ S∨x=k:=by
 unfold oK
 split
 ·next c =>
  constructor
  ·exact .inl
  ·rintro (z | rfl)
   ·exact z
   ·exact c
 ·rw [bW,aV]
theorem Pj (Q:List Int) (h:Q.length ≤ 100000):eZ [.list (Q.map .int)]=some (.bool true):=by
 have C:∀ δ0,gU (gNl 0) (D3.kW) (dCall eE (aF (aG 0) (bh))) (kY 1 [] δ0) (Q.map .int)=some (Q.map fun _=>PyData.bool true):=fun δ0 =>
  wX (fun k:Int=>PyData.int k) (fun _=>PyData.bool true) Q fun k _=>⟨[some (.d (.int k))],rfl,rfl,by
   have:=wh (.int k)
   simp only [EV,reduceIte,au,aA,ao,aq,aB,aC,aD,this]
   rfl⟩
 have al:yN [.list (Q.map fun _=>PyData.bool true)]=some (.bool true):=by
  have:=allB (fun _:Int=>true) Q
  rw [this,fD.mpr fun _ _=>rfl]
 have l1:(Q.map PyData.int).length ≤ 100000:=by rw [aH];exact h
 have i2:D3.isT "list" (tyD (.list (Q.map PyData.int)))=true:=rfl
 have aw:gJ [.list (Q.map .int)]=some (.bool true):=by
  unfold gJ
  simp only [EV,reduceIte,au,aA,ao,aq,aB,aC,aD,l1,Ru,JC,C,al]
 unfold eZ
 simp only [EV,reduceIte,au,aA,ao,aq,aB,aC,aD,i2,aw]
noncomputable def mnQ:List Int→Int
 | []=>0
 | x :: r=>mnI x r
noncomputable def mxQ:List Int→Int
 | []=>0
 | x :: r=>mxI x r
theorem Wx {l:List Int} (h:l ≠ []):Eh [.list (l.map .int)]=some (.int (mnQ l)):=by
 cases l with
 | nil=>exact absurd rfl h
 | cons x r =>
  show (match mD ((x :: r).map .int) with | some (i :: r)=>some (PyData.int (mnI i r)) | _=>none)=_
  rw [lQ]
  rfl
theorem Wy {l:List Int} (h:l ≠ []):Ed [.list (l.map .int)]=some (.int (mxQ l)):=by
 cases l with
 | nil=>exact absurd rfl h
 | cons x r =>
  show (match mD ((x :: r).map .int) with | some (i :: r)=>some (PyData.int (mxI i r)) | _=>none)=_
  rw [lQ]
  rfl
theorem T4:∀ (r:List Int) (i:Int),mnI i r ∈ i :: r∧∀ x ∈ i :: r,mnI i r ≤ x:=vQ
theorem T5:∀ (r:List Int) (i:Int),mxI i r ∈ i :: r∧∀ x ∈ i :: r,x ≤ mxI i r:=vR
theorem BP:∀ (l m:List Int),sH (l.map .int) (m.map .int)=(l.zip m).map fun p=>PyData.tuple [.int p.1,.int p.2]
 | [],_=>rfl
 | _ :: _,[]=>rfl
 | a :: l,b :: m=>by
  show PyData.tuple [.int a,.int b] :: sH (l.map .int) (m.map .int)=_
  rw [BP l m]
  rfl
noncomputable def HB (Q:List Int):Bool:=(Q.zip (Q.drop 1)).all fun p=>decide (p.1 < p.2)
theorem T6 (Q:List Int) (h:Q.length ≤ 1000):iR [.list (Q.map .int)]=some (.bool (HB Q)):=by
 have ct:cutD (Q.map .int) (some 1) none=(Q.drop 1).map .int:=by rw [Wo (by decide),ou];rfl
 have C:∀ δ0,gU (gTn 2 (dX (gNl 0) (dX (gNl 1) (nu)))) (D3.kW) (dOp gLt (aG 0) (aG 1)) (kY 2 [] δ0) ((Q.zip (Q.drop 1)).map fun p=>PyData.tuple [.int p.1,.int p.2])=some ((Q.zip (Q.drop 1)).map fun p=>PyData.bool (decide (p.1 < p.2))):=fun δ0 =>
  wX (fun p:Int × Int=>PyData.tuple [.int p.1,.int p.2]) (fun p=>PyData.bool (decide (p.1 < p.2))) _ fun p _=>⟨[some (.d (.int p.1)),some (.d (.int p.2))],rfl,rfl,by simp only [EV,reduceIte,au,aA,ao,aq,aB,aC,aD]⟩
 have al:=allB (fun p:Int × Int=>decide (p.1 < p.2)) (Q.zip (Q.drop 1))
 have l1:((Q.zip (Q.drop 1)).map fun p=>PyData.tuple [.int p.1,.int p.2]).length ≤ 100000:=by
  rw [aH,pN]
  omega
 show Com.iR _=_
 unfold Com.iR
 simp only [EV,reduceIte,au,aA,ao,aq,aB,aC,aD,ct,BP,l1,C,al]
 rfl
theorem T7 {Q:List Int} (h:Q.Pairwise (· < ·)):HB Q=true:=by
 unfold HB
 refine fD.mpr fun p hp=>dTr ?_
 obtain ⟨i,hi,ei⟩:=cH hp
 rw [pN,cL] at hi
 rw [List.getElem_zip] at ei
 have i1:i < Q.length:=by omega
 have i2:i < (Q.drop 1).length:=by rw [cL];omega
 rw [← ei]
 show Q[i]'i1 < (Q.drop 1)[i]'i2
 rw [jD]
 exact dB.mp h i (1 + i) (by omega) (by omega) (by omega)
theorem HD {w:Nat} {Q:List Int} (hl:L.length ≤ 24) (hw:w < L.length):∃ b,gH [.list (L.map yD),.int (M:Int),.int (w:Int),.list (Q.map .int)]=some (.bool b)∧(b=true↔∀ x ∈ Q,∀ s ∈ stp L M w x,s.1 ∈ Q):=by
 have F:=ux (v:=.bool false) (g:=(gNl 4)) (b:=(mK (jT (dCall gC (aF (aG 0) (aF (aG 1) (aF (aG 2) (aF (aG 4) (bh))))))) (gNl 5) (sIf (bI (dOp nA (dOp gIx (aG 5) (dC (.int 0))) (aG 3))) (eU (dC (.bool false))) (gh))))
  (fun _ δ=>∃ x y,δ=[some (.d (.list (L.map yD))),some (.d (.int (M:Int))),some (.d (.int (w:Int))),some (.d (.list (Q.map .int))),x,y]) (fun i=>∀ x,Q[i]? = some x→∀ s ∈ stp L M w x,s.1 ∈ Q) (Q.map .int)
  [some (.d (.list (L.map yD))),some (.d (.int (M:Int))),some (.d (.int (w:Int))),some (.d (.list (Q.map .int))),none,none] ⟨none,none,rfl⟩ (by
   rintro i d δ hd _ ⟨x',y,rfl⟩
   rw [bf] at hd
   cases hx:Q[i]? with
   | none=>rw [hx] at hd;cases hd
   | some x =>
    rw [hx] at hd
    cases hd
    have so:Com.gC _=_:=TY (M:=M) (x:=x) hl hw
    refine ⟨[some (.d (.list (L.map yD))),some (.d (.int (M:Int))),some (.d (.int (w:Int))),some (.d (.list (Q.map .int))),some (.d (.int x)),y],rfl,?_⟩
    have I:=ux (v:=.bool false) (g:=(gNl 5)) (b:=(sIf (bI (dOp nA (dOp gIx (aG 5) (dC (.int 0))) (aG 3))) (eU (dC (.bool false))) (gh)))
     (fun _ δ=>∃ y,δ=[some (.d (.list (L.map yD))),some (.d (.int (M:Int))),some (.d (.int (w:Int))),some (.d (.list (Q.map .int))),some (.d (.int x)),y]) (fun j=>∀ s,(stp L M w x)[j]? = some s→s.1 ∈ Q) ((stp L M w x).map pqD)
     [some (.d (.list (L.map yD))),some (.d (.int (M:Int))),some (.d (.int (w:Int))),some (.d (.list (Q.map .int))),some (.d (.int x)),y] ⟨y,rfl⟩ (by
      rintro j d δ hd _ ⟨y,rfl⟩
      rw [bf] at hd
      cases hs:(stp L M w x)[j]? with
      | none=>rw [hs] at hd;cases hd
      | some s =>
       rw [hs] at hd
       cases hd
       have i0:gIx (pqD s) (.int 0)=some (.int s.1):=rfl
       have ni:=zO Q s.1
       refine ⟨[some (.d (.list (L.map yD))),some (.d (.int (M:Int))),some (.d (.int (w:Int))),some (.d (.list (Q.map .int))),some (.d (.int x)),some (.d (pqD s))],rfl,?_⟩
       by_cases c:s.1 ∈ Q
       ·rw [dTr c] at ni
        refine .inl ⟨fun s' e=>by cases e;exact c,[some (.d (.list (L.map yD))),some (.d (.int (M:Int))),some (.d (.int (w:Int))),some (.d (.list (Q.map .int))),some (.d (.int x)),some (.d (pqD s))],?_,_,rfl⟩
        simp only [EV,reduceIte,au,aA,ao,aq,aB,aC,aD,i0,ni,bJ]
       ·rw [dFa c] at ni
        refine .inr ⟨fun z=>c (z s rfl),?_⟩
        simp only [EV,reduceIte,au,aA,ao,aq,aB,aC,aD,i0,ni,bR])
    rw [aH] at I
    rcases I with ⟨δ',e,⟨y',rfl⟩,al⟩ | ⟨e,j,j1,j2⟩
    ·refine .inl ⟨fun x' e' s hs=>?_,[some (.d (.list (L.map yD))),some (.d (.int (M:Int))),some (.d (.int (w:Int))),some (.d (.list (Q.map .int))),some (.d (.int x)),y'],?_,_,_,rfl⟩
     ·cases e'
      obtain ⟨j,hj,ej⟩:=cH hs
      exact al j hj s (by rw [aN hj,ej])
     ·simp only [EV,reduceIte,au,aA,ao,aq,aB,aC,aD,so]
      exact e
    ·refine .inr ⟨fun z=>j2 fun s hs=>z x rfl s (cW hs),?_⟩
     simp only [EV,reduceIte,au,aA,ao,aq,aB,aC,aD,so]
     exact e)
 rw [aH] at F
 rcases F with ⟨δ',e,⟨x,y,rfl⟩,al⟩ | ⟨e,j,j1,j2⟩
 ·refine ⟨true,?_,⟨fun _ x hx s hs=>?_,fun _=>rfl⟩⟩
  ·show Com.gH _=_
   unfold Com.gH
   simp only [EV,reduceIte,au,aA,ao,aq,aB,aC,aD]
   rw [e]
   simp only [EV,reduceIte,au,aA,ao,aq,aB,aC,aD]
  ·obtain ⟨j,hj,ej⟩:=cH hx
   exact al j hj x (by rw [aN hj,ej]) s hs
 ·refine ⟨false,?_,⟨fun z=>(by cases z),fun z=>absurd (fun x hx s hs=>z x (cW hx) s hs) j2⟩⟩
  show Com.gH _=_
  unfold Com.gH
  simp only [EV,reduceIte,au,aA,ao,aq,aB,aC,aD]
  rw [e]
  simp only [EV,reduceIte,au,aA,ao,aq,aB,aC,aD]
end
noncomputable def Okt (t:D):Prop:=(∀ ds,t = .list ds→ds.length ≤ 100000)∧tZ t t=some (.bool true)
theorem Ld (b:Bool):tZ (.bool b) (.bool b)=some (.bool true):=uY (Com.eq_self (FP (n:=1) ⟨rfl,by simp [PyData.depth]⟩ (by decide)))
theorem zP {n:Nat}:∀ l:List D,(∀ d ∈ l,d.depth ≤ n)→PyData.depthAll l ≤ n
 | [],_=>by simp [PyData.depthAll]
 | a :: r,h=>by
  have h1:=h a aP
  have h2:=zP r fun d hd=>h d (aL _ hd)
  simp only [PyData.depthAll]
  omega
theorem zQ {t:D} (hb:Bd t=true) (hd:t.depth ≤ 60) (hn:noK t=true):tZ t t=some (.bool true):=by
 cases h:SeqAt.shaped t with
 | false=>exact JB h hb (by omega) hn
 | true=>exact uY (Com.eq_self ⟨SeqAt.canLay_of_shaped h,hd⟩)
noncomputable def Sm (d:D):Prop:=d.depth ≤ 50∧noK d=true
theorem Gg {ds:List D} (hl:ds.length ≤ 100000) (h:∀ d ∈ ds,Sm d):Okt (.list ds):=by
 refine ⟨fun ds' z=>(by cases z;exact hl),zQ rfl ?_ ?_⟩
 ·have:=zP (n:=50) ds fun d hd=>(h d hd).1
  simp only [PyData.depth]
  omega
 ·rw [noK]
  exact tY _ fun d hd=>(h d hd).2
theorem T8 {ds:List D} (h:∀ d ∈ ds,Sm d):Okt (.tuple ds):=by
 refine ⟨fun ds' z=>(by cases z),zQ rfl ?_ ?_⟩
 ·have:=zP (n:=50) ds fun d hd=>(h d hd).1
  simp only [PyData.depth]
  omega
 ·rw [noK]
  exact tY _ fun d hd=>(h d hd).2
theorem T9 (i:Int):Sm (.int i):=⟨by simp [PyData.depth],rfl⟩
theorem uy {l:List Int}:∀ d ∈ l.map PyData.int,Sm d:=fun d hd=>by
 obtain ⟨i,_,rfl⟩:=bT.mp hd
 exact T9 i
theorem Gi:Sm .none:=⟨by simp [PyData.depth],rfl⟩
theorem Gj (b:Bool):Sm (.bool b):=⟨by simp [PyData.depth],rfl⟩
theorem Le (s:Str):Sm (.str s):=⟨by simp [PyData.depth],rfl⟩
theorem Gk:Sm (.dict []):=⟨by simp [PyData.depth,PyData.depthKv],rfl⟩
theorem Wz (i:Int):Sm (.tuple [.int i]):=⟨by simp [PyData.depth,PyData.depthAll],rfl⟩
theorem Pk {l:List Int}:Sm (.list (l.map .int)):=by
 refine ⟨?_,?_⟩
 ·have:=zP (n:=40) (l.map PyData.int) fun d hd=>by
   obtain ⟨i,_,rfl⟩:=bT.mp hd
   simp [PyData.depth]
  simp only [PyData.depth]
  omega
 ·rw [noK]
  exact tY _ fun d hd=>(uy d hd).2
theorem zR {t:D} (h:ly 1 t) (hn:∀ ds,t ≠ .list ds):Okt t:=⟨fun ds z=>absurd z (hn ds),uY (Com.eq_self (FP h (by decide)))⟩
theorem T_:0 + 1 + 1 + 1 + 1 + 1 + 1 + 1 + 1 + 1 + 1 ≤ sizeLine:=Com.sz (by decide)
theorem Lf {l:List D} {x:Int} (h0:0 ≤ x) (h1:x < l.length):∃ t ∈ l,pAt l x=some t:=by
 obtain ⟨a,h,e⟩:=FN (fun d:D=>d) (l:=l) h0 h1
 rw [tH] at e
 exact ⟨a,h,e⟩
theorem Pn {l:List D} (h:ly 60 (.list l)):gEq (.list l) (.list [])=some (.bool l.isEmpty):=by
 unfold gEq
 rw [yC h,show SeqAt.shaped (.list [])=true from rfl]
 cases l <;> simp [PyData.eqv,PyData.eqvAll]
theorem zT {t:D} (h:D3.isT "list" (tyD t)=true):∃ ds,t = .list ds:=by
 cases t <;> first | exact ⟨_,rfl⟩ | (exact absurd (show false=true from h) (by decide))
theorem Pq (l:List D) (h:l.length ≤ 100000):eZ [.list l]=some (.bool (l.all isI)):=by
 have C:∀ δ0,gU (gNl 0) (D3.kW) (dCall eE (aF (aG 0) (bh))) (kY 1 [] δ0) l=some (l.map fun d=>PyData.bool (isI d)):=fun δ0=>by
  have:=wX (g:=(gNl 0)) (c:=(D3.kW)) (e:=(dCall eE (aF (aG 0) (bh)))) (δ:=kY 1 [] δ0) (fun d:D=>d) (fun d=>PyData.bool (isI d)) l fun d _=>⟨[some (.d d)],rfl,rfl,by
   have:=wh d
   simp only [EV,reduceIte,au,aA,ao,aq,aB,aC,aD,this]⟩
  rwa [tH] at this
 have al:=allB isI l
 have i2:D3.isT "list" (tyD (.list l))=true:=rfl
 have aw:gJ [.list l]=some (.bool (l.all isI)):=by
  unfold gJ
  simp only [EV,reduceIte,au,aA,ao,aq,aB,aC,aD,h,Ru,JC,C,al]
 unfold eZ
 simp only [EV,reduceIte,au,aA,ao,aq,aB,aC,aD,i2,aw]
theorem WD {d:D} (h:D3.isT "list" (tyD d)=false):eZ [d]=some (.bool false):=by
 unfold eZ
 simp only [EV,reduceIte,au,aA,ao,aq,aB,aC,aD,h]
theorem WK (l:List D) (δ0:DS):gU (gNl 0) (D3.kW) (dCall fL (aF (aG 0) (bh))) (kY 1 [] δ0) l=some (l.map fun d=>PyData.bool (isI d)):=by
 have:=wX (g:=(gNl 0)) (c:=(D3.kW)) (e:=(dCall fL (aF (aG 0) (bh)))) (δ:=kY 1 [] δ0) (fun d:D=>d) (fun d=>PyData.bool (isI d)) l fun d _=>⟨[some (.d d)],rfl,rfl,by
  have:Com.fL _=_:=lwh d
  simp only [EV,reduceIte,au,aA,ao,aq,aB,aC,aD,this]⟩
 rwa [tH] at this
theorem Pr {l:List D} (h:l.length ≤ 100000) (hn:l.all isI=false):cJ [.list l]=some (.bool false):=by
 have C:=WK l
 have al:=allB isI l
 rw [hn] at al
 have i2:D3.isT "list" (tyD (.list l))=true:=rfl
 show Com.cJ _=_
 unfold Com.cJ
 simp only [EV,reduceIte,au,aA,ao,aq,aB,aC,aD,i2,bJ,h,C,al,bR]
theorem WL {d:D} (h:D3.isT "list" (tyD d)=false):cJ [d]=some (.bool false):=by
 show Com.cJ _=_
 unfold Com.cJ
 simp only [EV,reduceIte,au,aA,ao,aq,aB,aC,aD,h,bR]
theorem adj {Q:List Int} (h:∀ (k:Nat) (h:k + 1 < Q.length),Q[k] < Q[k + 1]):Q.Pairwise (· < ·):=by
 rw [dB]
 have key:∀ (d i:Nat) (h2:i + d + 1 < Q.length),Q[i] < Q[i + d + 1]:=by
  intro d
  induction d with
  | zero=>exact fun i h2=>h i h2
  | succ d ih =>
   intro i h2
   have a:=ih i (by omega)
   have b:=h (i + d + 1) (by omega)
   have e:Q[i + (d + 1) + 1]=Q[i + d + 1 + 1]:=rfl
   omega
 intro i j hi hj ij
 have:=key (j - i - 1) i (by omega)
 have e:i + (j - i - 1) + 1=j:=by omega
 simp only [e] at this
 exact this
theorem Gn {Q:List Int}:HB Q=true↔Q.Pairwise (· < ·):=by
 refine ⟨fun h=>adj fun k hk=>?_,T7⟩
 unfold HB at h
 have h:=fD.mp h
 have l1:k < (Q.zip (Q.drop 1)).length:=by rw [pN,cL];omega
 have:=of_decide_eq_true (h _ (dZ l1))
 rw [List.getElem_zip] at this
 have e:(Q.drop 1)[k]'(by rw [cL];omega)=Q[k + 1]:=by
  rw [jD]
  congr 1
  omega
 rw [e] at this
 exact this
theorem Lg (Q:List Int):(Q.map PyData.int).all isI=true:=fD.mpr fun d hd=>by
 obtain ⟨i,_,rfl⟩:=bT.mp hd
 rfl
theorem Pu (Q:List Int) (hl:Q.length ≤ 1000):∃ b,cJ [.list (Q.map .int)]=some (.bool b)∧(b=true↔Q.Pairwise (· < ·)):=by
 have C1:=WK (Q.map .int)
 have a1:=allB isI (Q.map .int)
 rw [Lg] at a1
 have C2:gU (gNl 0) (D3.kW) (dOp gLt (dOp gIx (aG 1) (aG 0)) (dOp gIx (aG 1) (dOp iZ (aG 0) (dC (.int 1))))) (kY 1 [0] [some (.d (.list (Q.map .int)))]) (iV 0 ((Q.length:Int) - 1))=some ((aX ((Q.length:Int) - 1).toNat).map fun k=>PyData.bool (decide (Q.getD k 0 < Q.getD (k + 1) 0))):=by
  rw [vo]
  exact wX (fun k:Nat=>PyData.int (k:Int)) (fun k=>PyData.bool (decide (Q.getD k 0 < Q.getD (k + 1) 0))) _ fun k hk'=>⟨[some (.d (.int (k:Int))),some (.d (.list (Q.map .int)))],rfl,rfl,by
   have hk':=bO.mp hk'
   have k1:k + 1 < Q.length:=by omega
   have b0:pAt (Q.map PyData.int) (k:Int)=some (.int (Q.getD k 0)):=by rw [lC,bf,bQ,aN (by omega)];rfl
   have b1:pAt (Q.map PyData.int) ((k:Int) + 1)=some (.int (Q.getD (k + 1) 0)):=by rw [show (k:Int) + 1=((k + 1:Nat):Int) by omega,lC,bf,bQ,aN k1];rfl
   simp only [EV,reduceIte,au,aA,ao,aq,aB,aC,aD,b0,b1]⟩
 have a2:=allB (fun k:Nat=>decide (Q.getD k 0 < Q.getD (k + 1) 0)) (aX ((Q.length:Int) - 1).toNat)
 have rg:pO (some [.int ((Q.length:Int) - 1)])=some (iV 0 ((Q.length:Int) - 1)):=Bu (by omega) (by omega)
 have ll:((Q.map PyData.int).length:Int)=(Q.length:Int):=by rw [aH]
 have l1:(Q.map PyData.int).length ≤ 100000:=by rw [aH];omega
 have l2:(iV 0 ((Q.length:Int) - 1)).length ≤ 100000:=by rw [rM];omega
 have i2:D3.isT "list" (tyD (.list (Q.map PyData.int)))=true:=rfl
 refine ⟨(aX ((Q.length:Int) - 1).toNat).all fun k:Nat=>decide (Q.getD k 0 < Q.getD (k + 1) 0),?_,?_⟩
 ·show Com.cJ _=_
  unfold Com.cJ
  simp only [EV,reduceIte,au,aA,ao,aq,aB,aC,aD,i2,l1,C1,a1,bJ,ll,rg,l2,C2,a2]
 ·rw [fD]
  constructor
  ·intro z
   refine adj fun k hk=>?_
   have:=of_decide_eq_true (z k (bO.mpr (by omega)))
   rw [bQ,bQ,aN (by omega),aN hk] at this
   exact this
  ·intro z k hk
   have hk:=bO.mp hk
   rw [bQ,bQ,aN (show k < Q.length by omega),aN (show k + 1 < Q.length by omega)]
   exact dTr (dB.mp z k (k + 1) (by omega) (by omega) (by omega))
noncomputable def ShP (L:List Ty) (M w:Nat) (B:Int) (Q:List Int):Prop:=Q.Pairwise (· < ·)∧((bk L w < B∧Q=[])∨(B ≤ bk L w∧B ∈ Q∧(∀ x ∈ Q,B ≤ x∧x < bk L w)∧∀ x ∈ Q,∀ s ∈ stp L M w x,s.1 ∈ Q))
section
variable {L:List Ty} {M:Nat} {now:Int}
theorem Ua (ok:TOk L M now) {w r:Nat} {f:Nat→Int} (hw:w < L.length) (hn:hk L w=none) (hr:r < M)
 (ef:fM [.list (L.map yD),.int (M:Int),.int now]=some (.list ((aX M).map fun s:Nat=>PyData.int (f s)))) {Q:List Int} (hl:Q.length ≤ 1000) :
 ∃ b,kE [.list (L.map yD),.int (M:Int),.int now,.int (w:Int),.int (r:Int),.list (Q.map .int)]=some (.bool b)∧(b=true↔ShP L M w (f r) Q):=by
 have c1:=K9 ok hw hn
 have c2:Com.gw _=_:=Gd hr
 have aw:=ay hw
 have ab:=Ws (n:=M) (c:=r) (fun s:Nat=>PyData.int (f s)) hr
 have ef:Com.fM _=_:=ef
 have wl:=Pj Q (by omega)
 have ri:Com.iR _=_:=T6 Q hl
 obtain ⟨bc,ec,ic⟩:=HD (M:=M) (Q:=Q) ok.len hw
 have ec:Com.gH _=_:=ec
 unfold kE
 cases hris:HB Q with
 | false =>
  rw [hris] at ri
  refine ⟨false,?_,⟨fun z=>(by cases z),fun z=>absurd (Gn.mpr z.1) (by rw [hris];decide)⟩⟩
  simp only [EV,reduceIte,au,aA,ao,aq,aB,aC,aD,c1,c2,wl,ri,bJ,bR]
 | true =>
  have pw:=Gn.mp hris
  rw [hris] at ri
  by_cases hB:bk L w < f r
  ·have z1:decide (f r > bk L w)=true:=dTr hB
   have es:=eq_empty (ns:=Q)
   refine ⟨decide (Q=[]),?_,?_⟩
   ·simp only [EV,reduceIte,au,aA,ao,aq,aB,aC,aD,c1,c2,wl,ri,bJ,ef,ab,aw,at0,z1,zl0,es]
   ·rw [decide_eq_true_iff]
    exact ⟨fun z=>⟨pw,.inl ⟨hB,z⟩⟩,fun z=>by
     rcases z.2 with ⟨_,z⟩ | ⟨z,_⟩
     ·exact z
     ·omega⟩
  ·have z1:decide (f r > bk L w)=false:=dFa (by omega)
   have ni:=zO Q (f r)
   by_cases hb:f r ∈ Q
   ·rw [dTr hb] at ni
    have ne:Q ≠ []:=fun z=>by rw [z] at hb;cases hb
    have m1:=Wx ne
    have m2:=Wy ne
    obtain ⟨p1,p2⟩:(mnQ Q ∈ Q∧∀ x ∈ Q,mnQ Q ≤ x)∧mxQ Q ∈ Q∧∀ x ∈ Q,x ≤ mxQ Q:=by
     cases Q with
     | nil=>exact absurd rfl ne
     | cons q Q=>exact ⟨T4 Q q,T5 Q q⟩
    by_cases k1:mnQ Q < f r
    ·refine ⟨false,?_,⟨fun z=>(by cases z),fun z=>?_⟩⟩
     ·simp only [EV,reduceIte,au,aA,ao,aq,aB,aC,aD,c1,c2,wl,ri,bJ,ef,ab,aw,at0,z1,ni,m1,dTr k1]
     ·rcases z.2 with ⟨z,_⟩ | ⟨_,_,z,_⟩
      ·omega
      ·have:=(z _ p1.1).1
       omega
    ·by_cases k2:bk L w ≤ mxQ Q
     ·refine ⟨false,?_,⟨fun z=>(by cases z),fun z=>?_⟩⟩
      ·simp only [EV,reduceIte,au,aA,ao,aq,aB,aC,aD,c1,c2,wl,ri,bJ,ef,ab,aw,at0,z1,ni,m1,dFa k1,m2,dTr k2]
      ·rcases z.2 with ⟨z,_⟩ | ⟨_,_,z,_⟩
       ·omega
       ·have:=(z _ p2.1).2
        omega
     ·refine ⟨bc,?_,ic.trans ⟨fun z=>⟨pw,.inr ⟨by omega,hb,fun x hx=>?_,z⟩⟩,fun z=>?_⟩⟩
      ·simp only [EV,reduceIte,au,aA,ao,aq,aB,aC,aD,c1,c2,wl,ri,bJ,ef,ab,aw,at0,z1,ni,m1,dFa k1,m2,dFa k2,ec]
      ·have:=p1.2 x hx
       have:=p2.2 x hx
       omega
      ·rcases z.2 with ⟨z,_⟩ | ⟨_,_,_,z⟩
       ·omega
       ·exact z
   ·rw [dFa hb] at ni
    refine ⟨false,?_,⟨fun z=>(by cases z),fun z=>?_⟩⟩
    ·simp only [EV,reduceIte,au,aA,ao,aq,aB,aC,aD,c1,c2,wl,ri,bJ,bR,ef,ab,aw,at0,z1,ni]
    ·rcases z.2 with ⟨z,_⟩ | ⟨_,z,_⟩
     ·omega
     ·exact absurd z hb
theorem Ub (ok:TOk L M now) {w r:Nat} {f:Nat→Int} (hw:w < L.length) (hr:r < M) (hf:∀ s,s < M→(∃ k,k < L.length∧hk L k=some s∧f s=ek L k)∨((∀ k,k < L.length→hk L k ≠ some s)∧f s=now)) (nB:now ≤ f r)
 {Q:List Int} (hl:Q.length ≤ 1000) :
 ∃ b,jf [.list (L.map yD),.int (M:Int),.int now,.int (w:Int),.int (r:Int),.list (Q.map .int)]=some (.bool b)∧(b=true↔ShP L M w (f r) Q):=by
 have l24:=ok.len
 have bg:Com.dR _=_:=DK ok hr hf
 have aw:=ay hw
 obtain ⟨br,ri,ir⟩:=Pu Q hl
 have ri:Com.cJ _=_:=ri
 unfold jf
 cases br with
 | false =>
  refine ⟨false,?_,⟨fun z=>(by cases z),fun z=>absurd (ir.mpr z.1) (by decide)⟩⟩
  simp only [EV,reduceIte,au,aA,ao,aq,aB,aC,aD,bg,aw,at0,ri,bR]
 | true =>
  have pw:=ir.mp rfl
  by_cases hB:bk L w < f r
  ·have z1:decide (f r > bk L w)=true:=dTr hB
   have es:=eq_empty (ns:=Q)
   refine ⟨decide (Q=[]),?_,?_⟩
   ·simp only [EV,reduceIte,au,aA,ao,aq,aB,aC,aD,bg,aw,at0,ri,bJ,z1,zl0,es]
   ·rw [decide_eq_true_iff]
    exact ⟨fun z=>⟨pw,.inl ⟨hB,z⟩⟩,fun z=>by
     rcases z.2 with ⟨_,z⟩ | ⟨z,_⟩
     ·exact z
     ·omega⟩
  ·have z1:decide (f r > bk L w)=false:=dFa (by omega)
   have n1:=zO Q (f r)
   by_cases hb:f r ∈ Q
   ·rw [dTr hb] at n1
    have q0:0 < Q.length:=List.length_pos_of_mem hb
    have n2:=inI Q (bk L w)
    have a0:pAt (Q.map PyData.int) 0=some (.int (Q[0]'q0)):=by
     have:=lC (l:=Q.map PyData.int) (k:=0)
     rw [bf,aN q0] at this
     exact this
    have a1:=Pg q0
    have pg:=dB.mp pw
    have lo:∀ x ∈ Q,Q[0]'q0 ≤ x:=fun x hx=>by
     obtain ⟨k,hk',rfl⟩:=cH hx
     rcases m9 k with z | z
     ·subst z
      exact cX _
     ·exact mU (pg 0 k q0 hk' z)
    have hi:∀ x ∈ Q,x ≤ Q[Q.length - 1]'(by omega):=fun x hx=>by
     obtain ⟨k,hk',rfl⟩:=cH hx
     rcases gZ k (Q.length - 1) with z | z
     ·exact mU (pg k _ hk' (by omega) z)
     ·have:k=Q.length - 1:=by omega
      subst this
      exact cX _
    by_cases k0:bk L w ∈ Q
    ·rw [dTr k0] at n2
     refine ⟨false,?_,⟨fun z=>(by cases z),fun z=>?_⟩⟩
     ·simp only [EV,reduceIte,au,aA,ao,aq,aB,aC,aD,bg,aw,at0,ri,bJ,z1,n1,n2]
     ·rcases z.2 with ⟨z,_⟩ | ⟨_,_,z,_⟩
      ·omega
      ·have:=(z _ k0).2
       omega
    ·rw [dFa k0] at n2
     by_cases k1:Q[0]'q0 < f r
     ·refine ⟨false,?_,⟨fun z=>(by cases z),fun z=>?_⟩⟩
      ·simp only [EV,reduceIte,au,aA,ao,aq,aB,aC,aD,bg,aw,at0,ri,bJ,z1,n1,n2,a0,dTr k1]
      ·rcases z.2 with ⟨z,_⟩ | ⟨_,_,z,_⟩
       ·omega
       ·have:=(z _ (dZ q0)).1
        omega
     ·by_cases k2:Q[Q.length - 1]'(by omega) > bk L w
      ·refine ⟨false,?_,⟨fun z=>(by cases z),fun z=>?_⟩⟩
       ·simp only [EV,reduceIte,au,aA,ao,aq,aB,aC,aD,bg,aw,at0,ri,bJ,z1,n1,n2,a0,dFa k1,a1,dTr k2]
       ·rcases z.2 with ⟨z,_⟩ | ⟨_,_,z,_⟩
        ·omega
        ·have:=(z _ (dZ (show Q.length - 1 < Q.length by omega))).2
         omega
      ·have rg:∀ x ∈ Q,f r ≤ x∧x < bk L w:=fun x hx=>by
        have h1:=lo x hx
        have h2:=hi x hx
        have h3:x ≠ bk L w:=fun z=>k0 (z ▸ hx)
        omega
       have F:=ux (v:=.bool false) (g:=(gNl 8)) (b:=(mK (jT (dCall iT (aF (aG 0) (aF (aG 1) (aF (aG 3) (aF (aG 8) (bh))))))) (gNl 9) (sIf (bI (dOp nA (aG 9) (aG 5))) (eU (dC (.bool false))) (gh))))
        (fun _ δ=>∃ u8 u9:Option U,δ=[some (.d (.list (L.map yD))),some (.d (.int (M:Int))),some (.d (.int now)),some (.d (.int (w:Int))),some (.d (.int (r:Int))),some (.d (.list (Q.map .int))),some (.d (.int (f r))),some (.d (.int (bk L w))),u8,u9]) (fun i=>∀ x,Q[i]? = some x→∀ y ∈ nxt L M w x,y ∈ Q) (Q.map .int)
        [some (.d (.list (L.map yD))),some (.d (.int (M:Int))),some (.d (.int now)),some (.d (.int (w:Int))),some (.d (.int (r:Int))),some (.d (.list (Q.map .int))),some (.d (.int (f r))),some (.d (.int (bk L w))),none,none] ⟨none,none,rfl⟩ (by
         rintro i d δ hd _ ⟨u8,u9,rfl⟩
         rw [bf] at hd
         cases hx:Q[i]? with
         | none=>rw [hx] at hd;cases hd
         | some x =>
          rw [hx] at hd
          cases hd
          have nx:=Ge (M:=M) (x:=x) l24 hw
          refine ⟨[some (.d (.list (L.map yD))),some (.d (.int (M:Int))),some (.d (.int now)),some (.d (.int (w:Int))),some (.d (.int (r:Int))),some (.d (.list (Q.map .int))),some (.d (.int (f r))),some (.d (.int (bk L w))),some (.d (.int x)),u9],rfl,?_⟩
          have I:=ux (v:=.bool false) (g:=(gNl 9)) (b:=(sIf (bI (dOp nA (aG 9) (aG 5))) (eU (dC (.bool false))) (gh)))
           (fun _ δ=>∃ u9:Option U,δ=[some (.d (.list (L.map yD))),some (.d (.int (M:Int))),some (.d (.int now)),some (.d (.int (w:Int))),some (.d (.int (r:Int))),some (.d (.list (Q.map .int))),some (.d (.int (f r))),some (.d (.int (bk L w))),some (.d (.int x)),u9]) (fun j=>∀ y,(nxt L M w x)[j]? = some y→y ∈ Q) ((nxt L M w x).map .int)
           [some (.d (.list (L.map yD))),some (.d (.int (M:Int))),some (.d (.int now)),some (.d (.int (w:Int))),some (.d (.int (r:Int))),some (.d (.list (Q.map .int))),some (.d (.int (f r))),some (.d (.int (bk L w))),some (.d (.int x)),u9] ⟨u9,rfl⟩ (by
            rintro j d δ hd _ ⟨u9,rfl⟩
            rw [bf] at hd
            cases hy:(nxt L M w x)[j]? with
            | none=>rw [hy] at hd;cases hd
            | some y =>
             rw [hy] at hd
             cases hd
             have ni:=zO Q y
             refine ⟨[some (.d (.list (L.map yD))),some (.d (.int (M:Int))),some (.d (.int now)),some (.d (.int (w:Int))),some (.d (.int (r:Int))),some (.d (.list (Q.map .int))),some (.d (.int (f r))),some (.d (.int (bk L w))),some (.d (.int x)),some (.d (.int y))],rfl,?_⟩
             by_cases c:y ∈ Q
             ·rw [dTr c] at ni
              refine .inl ⟨fun y' e=>by cases e;exact c,[some (.d (.list (L.map yD))),some (.d (.int (M:Int))),some (.d (.int now)),some (.d (.int (w:Int))),some (.d (.int (r:Int))),some (.d (.list (Q.map .int))),some (.d (.int (f r))),some (.d (.int (bk L w))),some (.d (.int x)),some (.d (.int y))],?_,_,rfl⟩
              simp only [EV,reduceIte,au,aA,ao,aq,aB,aC,aD,ni,bJ]
             ·rw [dFa c] at ni
              refine .inr ⟨fun z=>c (z y rfl),?_⟩
              simp only [EV,reduceIte,au,aA,ao,aq,aB,aC,aD,ni,bR])
          rw [aH] at I
          rcases I with ⟨δ',e,⟨y',rfl⟩,al⟩ | ⟨e,j,j1,j2⟩
          ·refine .inl ⟨fun x' e' y hy=>?_,[some (.d (.list (L.map yD))),some (.d (.int (M:Int))),some (.d (.int now)),some (.d (.int (w:Int))),some (.d (.int (r:Int))),some (.d (.list (Q.map .int))),some (.d (.int (f r))),some (.d (.int (bk L w))),some (.d (.int x)),y'],?_,_,_,rfl⟩
           ·cases e'
            obtain ⟨j,hj,ej⟩:=cH hy
            exact al j hj y (by rw [aN hj,ej])
           ·simp only [EV,reduceIte,au,aA,ao,aq,aB,aC,aD,nx]
            exact e
          ·refine .inr ⟨fun z=>j2 fun y hy=>z x rfl y (cW hy),?_⟩
           simp only [EV,reduceIte,au,aA,ao,aq,aB,aC,aD,nx]
           exact e)
       rw [aH] at F
       have toS:(∀ x ∈ Q,∀ y ∈ nxt L M w x,y ∈ Q)↔∀ x ∈ Q,∀ s ∈ stp L M w x,s.1 ∈ Q:=by
        constructor
        ·intro z x hx s hs
         have:=rg x hx
         exact z x hx s.1 ((Gf ok (by omega)).mpr ⟨s.2,hs⟩)
        ·intro z x hx y hy
         have:=rg x hx
         obtain ⟨p,hp⟩:=(Gf ok (by omega)).mp hy
         exact z x hx _ hp
       rcases F with ⟨δ',e,⟨x,y,rfl⟩,al⟩ | ⟨e,j,j1,j2⟩
       ·refine ⟨true,?_,⟨fun _=>⟨pw,.inr ⟨by omega,hb,rg,toS.mp fun x hx y hy=>?_⟩⟩,fun _=>rfl⟩⟩
        ·simp only [EV,reduceIte,au,aA,ao,aq,aB,aC,aD,bg,aw,at0,ri,bJ,z1,n1,n2,a0,dFa k1,a1,dFa k2]
         rw [e]
         simp only [EV,reduceIte,au,aA,ao,aq,aB,aC,aD]
        ·obtain ⟨j,hj,ej⟩:=cH hx
         exact al j hj x (by rw [aN hj,ej]) y hy
       ·refine ⟨false,?_,⟨fun z=>(by cases z),fun z=>?_⟩⟩
        ·simp only [EV,reduceIte,au,aA,ao,aq,aB,aC,aD,bg,aw,at0,ri,bJ,z1,n1,n2,a0,dFa k1,a1,dFa k2]
         rw [e]
         simp only [EV,reduceIte,au,aA,ao,aq,aB,aC,aD]
        ·rcases z.2 with ⟨z,_⟩ | ⟨_,_,_,z⟩
         ·omega
         ·exact absurd (fun x hx y hy=>toS.mpr z x (cW hx) y hy) j2
   ·rw [dFa hb] at n1
    refine ⟨false,?_,⟨fun z=>(by cases z),fun z=>?_⟩⟩
    ·simp only [EV,reduceIte,au,aA,ao,aq,aB,aC,aD,bg,aw,at0,ri,bJ,bR,z1,n1]
    ·rcases z.2 with ⟨z,_⟩ | ⟨_,z,_⟩
     ·omega
     ·exact absurd z hb
end
section
variable {L:List Ty} {M:Nat} {now:Int}
noncomputable def nD (t:List Nat):List D:=t.map fun k:Nat=>PyData.int (k:Int)
noncomputable def Tk (t:D):Prop:=tZ t t=some (.bool true)∧((∃ Q:List Int,Q.length ≤ 1000∧t = .list (Q.map .int))∨D3.isT "list" (tyD t)=false∨∃ l:List D,l.length ≤ 1000∧l.all isI=false∧t = .list l)
theorem Px (ok:TOk L M now) {w r:Nat} {f:Nat→Int} (hw:w < L.length) (hn:hk L w=none) (hr:r < M)
 (ef:fM [.list (L.map yD),.int (M:Int),.int now]=some (.list ((aX M).map fun s:Nat=>PyData.int (f s))))
 (hf:∀ s,s < M→(∃ k,k < L.length∧hk L k=some s∧f s=ek L k)∨((∀ k,k < L.length→hk L k ≠ some s)∧f s=now)) (nB:now ≤ f r) {t:D} (ht:Tk t) :
 jg [.list (L.map yD),.int (M:Int),.int now,.int (w:Int),.int (r:Int),t]=some (.bool true):=by
 have c1:=K9 ok hw hn
 have c2:Com.gw _=_:=Gd hr
 have bg:Com.dR _=_:=DK ok hr hf
 have aw:=ay hw
 obtain ⟨b,e1,e2⟩:∃ b,jf [.list (L.map yD),.int (M:Int),.int now,.int (w:Int),.int (r:Int),t]=some (.bool b)∧kE [.list (L.map yD),.int (M:Int),.int now,.int (w:Int),.int (r:Int),t]=some (.bool b):=by
  rcases ht.2 with ⟨Q,hl,rfl⟩ | h | ⟨l,hl,hi,rfl⟩
  ·obtain ⟨b,e1,i1⟩:=Ub ok hw hr hf nB hl
   obtain ⟨b',e2,i2⟩:=Ua ok hw hn hr ef hl
   have:b'=b:=by rw [pL,i1,i2]
   exact ⟨b,e1,this ▸ e2⟩
  ·have h1:Com.cJ _=_:=WL h
   have h2:=WD h
   refine ⟨false,?_,?_⟩
   ·unfold jf
    simp only [EV,reduceIte,au,aA,ao,aq,aB,aC,aD,bg,aw,at0,h1,bR]
   ·unfold kE
    simp only [EV,reduceIte,au,aA,ao,aq,aB,aC,aD,c1,c2,h2,bR]
  ·have h1:Com.cJ _=_:=Pr (by omega) hi
   have h2:=Pq l (by omega)
   rw [hi] at h2
   refine ⟨false,?_,?_⟩
   ·unfold jf
    simp only [EV,reduceIte,au,aA,ao,aq,aB,aC,aD,bg,aw,at0,h1,bR]
   ·unfold kE
    simp only [EV,reduceIte,au,aA,ao,aq,aB,aC,aD,c1,c2,h2,bR]
 have q1:=Ld b
 have q2:tZ (.list (L.map yD)) (.list (L.map yD))=some (.bool true):=uY (Com.eq_self (FP (FW (n:=2) (zM _ Wr _)) (by decide)))
 have q3:=ht.1
 have ib:D3.isT "bool" (tyD (.bool b))=true:=rfl
 cases hl:D3.isT "list" (tyD t) with
 | false =>
  unfold jg
  simp only [EV,reduceIte,au,aA,ao,aq,aB,aC,aD,e1,hl,e2,ib,q1,q2,q3]
 | true =>
  obtain ⟨ds,rfl⟩:=zT hl
  have isL:D3.isT "list" (tyD (.list ds))=true:=rfl
  unfold jg
  simp only [EV,reduceIte,au,aA,ao,aq,aB,aC,aD,e1,isL,e2,ib,q1,q2,q3]
theorem ivl {S:List Int} {B m:Int} (nd:S.Nodup) (h:∀ x ∈ S,B ≤ x∧x ≤ m):S.length ≤ (m - B + 1).toNat:=by
 have sub:∀ x ∈ S,x ∈ (aX (m - B + 1).toNat).map fun k:Nat=>B + (k:Int):=fun x hx=>by
  have:=h x hx
  exact bT.mpr ⟨(x - B).toNat,bO.mpr (by omega),by omega⟩
 have:=List.Nodup.length_le_of_subset nd sub
 rwa [aH,cC] at this
theorem Uc {S:List Int} {k:Int} (h:S.Nodup):(oK S k).Nodup:=by
 unfold oK
 split
 ·exact h
 ·next c=>exact (jK k S).nodup_iff.mpr (dF.mpr ⟨c,h⟩)
theorem Ud {w:Nat} {x y:Int} (hx:x < bk L w) (h:y ∈ nxt L M w x):y ≤ bk L w:=by
 unfold nxt at h
 rcases bW.mp h with z | z
 ·by_cases c:jc L x < M
  ·rw [if_pos c] at z
   have:=aV.mp z
   omega
  ·rw [if_neg c] at z;cases z
 ·obtain ⟨k,k1,rfl⟩:=bT.mp z
  unfold gos gA at k1
  rw [fP,aO,aO,aO,decide_eq_true_iff,decide_eq_true_iff] at k1
  exact k1.2.2.2.2
theorem BR (ok:TOk L M now) {w:Nat} (hw:w < L.length) {B m:Int} (hm:bk L w ≤ m) (m59:m ≤ B + 59) {P:List Int} (hP:∀ x ∈ P,B ≤ x∧x ≤ m) :
 ∃ Q:List Int,Q.length ≤ 60∧fH [.list (L.map yD),.int (M:Int),.int (w:Int),.list (P.map .int)]=some (.list (Q.map .int)):=by
 have l24:=ok.len
 have aw:=ay hw
 have b400:0 ≤ bk L w∧bk L w ≤ 400:=by
  have h1:=ok.bd _ (n8 hw)
  have h2:=(ok.ok _ (n8 hw)).1
  have h3:0 ≤ bk L w:=h1.1
  have h4:ek L w ≤ 400:=h1.2
  have h5:bk L w < ek L w:=h2
  omega
 have small:∀ S:List Int,S.Nodup→(∀ x ∈ S,B ≤ x∧x ≤ m)→S.length ≤ 60:=fun S nd h=>by
  have:=ivl nd h
  omega
 have add:∀ (S:List Int) (k:Int),(S.Nodup∧∀ x ∈ S,B ≤ x∧x ≤ m)→B ≤ k→k ≤ m→(oK S k).Nodup∧∀ x ∈ oK S k,B ≤ x∧x ≤ m:=fun S k h k1 k2=>⟨Uc h.1,fun x hx=>by
  rcases Ph.mp hx with z | rfl
  ·exact h.2 x z
  ·exact ⟨k1,k2⟩⟩
 obtain ⟨δ1,e1,S1,u5,u6,hS1,rfl⟩:=lY (g:=(gNl 5)) (b:=(rZ 4 (aG 5)))
  (fun _ δ=>∃ (S:List Int) (u5 u6:Option U),(S.Nodup∧∀ x ∈ S,B ≤ x∧x ≤ m)∧δ=[some (.d (.list (L.map yD))),some (.d (.int (M:Int))),some (.d (.int (w:Int))),some (.d (.list (P.map .int))),some (.d (dsB S)),u5,u6]) (P.map .int)
  [some (.d (.list (L.map yD))),some (.d (.int (M:Int))),some (.d (.int (w:Int))),some (.d (.list (P.map .int))),some (.d (.dict [])),none,none] ⟨[],none,none,⟨.nil,fun x hx=>(by cases hx)⟩,rfl⟩ (by
   rintro i d δ hd ⟨S,u5,u6,hS,rfl⟩
   obtain ⟨x,hx,rfl⟩:=bT.mp (cW hd)
   have sl:=small S hS.1 hS.2
   have hx':=hP x hx
   refine ⟨_,[some (.d (.list (L.map yD))),some (.d (.int (M:Int))),some (.d (.int (w:Int))),some (.d (.list (P.map .int))),some (.d (dsB (oK S x))),some (.d (.int x)),u6],rfl,.inl ?_,oK S x,_,_,add S x hS hx'.1 hx'.2,rfl⟩
   simp only [EV,reduceIte,au,aA,ao,aq,aB,aC,aD,Dy,wH (show S.length < 1000000 by omega)])
 have rg:pO (some [.int (bk L w)])=some (iV 0 (bk L w)):=Bu (by omega) (by omega)
 obtain ⟨δ2,e2,S2,v5,v6,hS2,rfl⟩:=lY (g:=(gNl 5)) (b:=(sIf (bI (dOp uT (aG 5) (aG 4))) (mK (jT (dCall iT (aF (aG 0) (aF (aG 1) (aF (aG 2) (aF (aG 5) (bh))))))) (gNl 6) (rZ 4 (aG 6))) (gh)))
  (fun _ δ=>∃ (S:List Int) (u5 u6:Option U),(S.Nodup∧∀ x ∈ S,B ≤ x∧x ≤ m)∧δ=[some (.d (.list (L.map yD))),some (.d (.int (M:Int))),some (.d (.int (w:Int))),some (.d (.list (P.map .int))),some (.d (dsB S)),u5,u6]) (iV 0 (bk L w))
  [some (.d (.list (L.map yD))),some (.d (.int (M:Int))),some (.d (.int (w:Int))),some (.d (.list (P.map .int))),some (.d (dsB S1)),u5,u6] ⟨S1,u5,u6,hS1,rfl⟩ (by
   rintro i d δ hd ⟨S,u5,u6,hS,rfl⟩
   obtain ⟨hi,rfl⟩:=wD hd
   have sl:=small S hS.1 hS.2
   have bi:=Qg (S:=S) (k:=(i:Int))
   by_cases c:(i:Int) ∈ S
   ·rw [dTr c] at bi
    have hB:=(hS.2 _ c).1
    have nx:=Ge (M:=M) (x:=(i:Int)) l24 hw
    obtain ⟨δ3,e3,S3,v6,hS3,rfl⟩:=lY (g:=(gNl 6)) (b:=(rZ 4 (aG 6)))
     (fun _ δ=>∃ (S:List Int) (u6:Option U),(S.Nodup∧∀ x ∈ S,B ≤ x∧x ≤ m)∧δ=[some (.d (.list (L.map yD))),some (.d (.int (M:Int))),some (.d (.int (w:Int))),some (.d (.list (P.map .int))),some (.d (dsB S)),some (.d (.int (i:Int))),u6]) ((nxt L M w (i:Int)).map .int)
     [some (.d (.list (L.map yD))),some (.d (.int (M:Int))),some (.d (.int (w:Int))),some (.d (.list (P.map .int))),some (.d (dsB S)),some (.d (.int (i:Int))),u6] ⟨S,u6,hS,rfl⟩ (by
      rintro j d δ hd ⟨S,u6,hS,rfl⟩
      obtain ⟨y,hy,rfl⟩:=bT.mp (cW hd)
      have sl:=small S hS.1 hS.2
      have y1:=T3 ok hy
      have y2:=Ud (by omega) hy
      refine ⟨_,[some (.d (.list (L.map yD))),some (.d (.int (M:Int))),some (.d (.int (w:Int))),some (.d (.list (P.map .int))),some (.d (dsB (oK S y))),some (.d (.int (i:Int))),some (.d (.int y))],rfl,.inl ?_,oK S y,_,add S y hS (by omega) (by omega),rfl⟩
      simp only [EV,reduceIte,au,aA,ao,aq,aB,aC,aD,Dy,wH (show S.length < 1000000 by omega)])
    refine ⟨_,[some (.d (.list (L.map yD))),some (.d (.int (M:Int))),some (.d (.int (w:Int))),some (.d (.list (P.map .int))),some (.d (dsB S3)),some (.d (.int (i:Int))),v6],rfl,.inl ?_,S3,_,_,hS3,rfl⟩
    simp only [EV,reduceIte,au,aA,ao,aq,aB,aC,aD,bi,nx]
    exact e3
   ·rw [dFa c] at bi
    refine ⟨_,[some (.d (.list (L.map yD))),some (.d (.int (M:Int))),some (.d (.int (w:Int))),some (.d (.list (P.map .int))),some (.d (dsB S)),some (.d (.int (i:Int))),u6],rfl,.inl ?_,S,_,_,hS,rfl⟩
    simp only [EV,reduceIte,au,aA,ao,aq,aB,aC,aD,bi])
 have sl:=small S2 hS2.1 hS2.2
 have gs:wg [dsB S2]=some (.list ((j5 S2).map .int)):=by
  unfold wg
  dsimp only
  rw [vf,aK,if_pos (by omega)]
 refine ⟨j5 S2,by rw [(iu _).length_eq];exact sl,?_⟩
 unfold fH
 simp only [EV,reduceIte,au,aA,ao,aq,aB,aC,aD,e1,aw,at0,rg,e2,gs]
theorem jo {Q:List Int} (h:Q.length ≤ 1000):Tk (.list (Q.map .int)):=⟨(Gg (by rw [aH];omega) uy).2,.inl ⟨Q,h,rfl⟩⟩
theorem zU {l:List D} (hl:l.length ≤ 1000) (hs:∀ d ∈ l,Sm d) (hn:∃ d ∈ l,isI d=false):Tk (.list l):=by
 refine ⟨(Gg (by omega) hs).2,.inr (.inr ⟨l,hl,?_,rfl⟩)⟩
 obtain ⟨d,hd,e⟩:=hn
 rw [List.all_eq_false]
 exact ⟨d,hd,by rw [e];decide⟩
theorem zl6:0 + 1 + 1 + 1 + 1 + 1 + 1 ≤ sizeLine:=Com.sz (by decide)
theorem Ue {Q:List Int} {a:Nat} (h:a < Q.length) (hl:Q.length ≤ 1000):G4 (a:Int) (Q.map .int)=some ((Q.eraseIdx a).map PyData.int):=by
 unfold G4
 rw [if_pos (by rw [aH];omega),TQ (aH _) h,iD,dW,dW,dj,rT,ou]
theorem Ug {Q:List Int} {a:Nat} {v:Int} (h:a < Q.length) (hl:Q.length ≤ 1000):Bc (a:Int) (.int v) (Q.map .int)=some ((Q.take a++v :: Q.drop a).map PyData.int):=by
 have e:wV Q.length (a:Int)=a:=by unfold wV;rw [if_neg (by omega)];omega
 unfold Bc
 rw [if_pos (by rw [aH];omega),aH,e,dj,bM,rT,ou]
theorem HJ (ns Q:List Int) (g:Int) (hl:Q.length ≤ 60):∃ t,dJ [.list (ns.map .int),.list (Q.map .int),.int g]=some t∧Tk t:=by
 have p0:=cU (ns:=ns) (i:=43) (k:=0) (m:=10) (by decide) (by decide) (by decide) (by decide)
 have p1:=cU (ns:=ns) (i:=43) (k:=1) (m:=10) (by decide) (by decide) (by decide) (by decide)
 have r1:=cP ns 43 1 (m:=10) (by decide)
 have ll:((Q.map PyData.int).length:Int)=(Q.length:Int):=by rw [aH]
 have en:gEq (.list (Q.map .int)) (.list [])=some (.bool Q.isEmpty):=by
  have:=Pn (l:=Q.map PyData.int) (FP (FW (n:=1) (zM _ (fun _=>wF) _)) (by decide))
  rw [List.isEmpty_map] at this
  exact this
 have g1:∀ d:D,oG (.list (Q.map .int)) (.list [d])=some (.list (Q.map .int++[d])):=fun d=>by
  rw [wC,if_pos (by rw [aH];show Q.length + 1 ≤ _;omega)]
 generalize gk ns 43 0 10=way at *
 generalize gk ns 43 1 10=x at *
 by_cases c0:Q.isEmpty=true∨way=0
 ·obtain ⟨t,ht,et⟩:=Lf (l:=[.none,.tuple (Q.map .int),.list [],.str "", .dict [],.int 0,.list [.none],.list [.list (Q.map .int)],.list (Q.map .int++[.bool true]),.list (Q.map .int++[.str "1"])]) r1.1 (show x < 10 from r1.2)
  refine ⟨t,?_,?_⟩
  ·have ge:∀ b,Q.isEmpty=b→gEq (.list (Q.map .int)) (.list [])=some (.bool b):=fun b z=>z ▸ en
   rcases Bool.eq_false_or_eq_true Q.isEmpty with z | z
   ·have en:=ge _ z
    unfold dJ
    by_cases w0:way=0
    ·simp only [EV,reduceIte,au,aA,ao,aq,aB,aC,aD,p0,zl0,dTr w0,CV,zl1,g1,T_,p1,et,t_,pH,lu,lA]
     rfl
    ·simp only [EV,reduceIte,au,aA,ao,aq,aB,aC,aD,p0,zl0,dFa w0,en,CV,zl1,g1,T_,p1,et,t_,pH,lu,lA]
     rfl
   ·have en:=ge _ z
    have w0:way=0:=c0.resolve_left (by rw [z];decide)
    unfold dJ
    simp only [EV,reduceIte,au,aA,ao,aq,aB,aC,aD,p0,zl0,dTr w0,CV,zl1,g1,T_,p1,et,t_,pH,lu,lA]
    rfl
  ·simp only [aR,d7,or_false] at ht
   have app:∀ d,Sm d→isI d=false→Tk (.list (Q.map .int++[d])):=fun d hd hi=>zU (by rw [bB,aH];simp;omega) (fun e he=>by
    rcases bW.mp he with w | w
    ·exact uy e w
    ·rw [aV.mp w];exact hd) ⟨d,bL _ (aV.mpr rfl),hi⟩
   rcases ht with rfl | rfl | rfl | rfl | rfl | rfl | rfl | rfl | rfl | rfl
   ·exact ⟨(zR ⟨rfl,by simp [PyData.depth]⟩ fun _ z=>by cases z).2,.inr (.inl rfl)⟩
   ·exact ⟨(T8 uy).2,.inr (.inl rfl)⟩
   ·exact jo (Q:=[]) (by decide)
   ·exact ⟨(zR ⟨by rw [PyData.canLay0];decide +kernel,by simp [PyData.depth]⟩ fun _ z=>by cases z).2,.inr (.inl rfl)⟩
   ·exact ⟨zQ rfl (by have:=Gk.1;omega) Gk.2,.inr (.inl rfl)⟩
   ·exact ⟨(zR wF fun _ z=>by cases z).2,.inr (.inl rfl)⟩
   ·exact zU (by simp) (fun d hd=>by rw [aV.mp hd];exact Gi) ⟨_,aV.mpr rfl,rfl⟩
   ·exact zU (by simp) (fun d hd=>by rw [aV.mp hd];exact Pk) ⟨_,aV.mpr rfl,rfl⟩
   ·exact app _ (Gj _) rfl
   ·exact app _ (Le _) rfl
 ·have e0:Q.isEmpty=false:=by
   cases z:Q.isEmpty with
   | false=>rfl
   | true=>exact absurd (.inl z) c0
  have c0:¬ way=0:=fun z=>c0 (.inr z)
  have hpos:0 < Q.length:=by
   cases Q with
   | nil=>cases e0
   | cons=>simp
  rw [e0] at en
  have p2:=cU (ns:=ns) (i:=43) (k:=2) (m:=(Q.length:Int)) (by decide) (by decide) (by decide) (by omega)
  have r2:=cP ns 43 2 (m:=(Q.length:Int)) (by omega)
  obtain ⟨a,ha⟩:∃ a:Nat,gk ns 43 2 (Q.length:Int)=(a:Int):=⟨(gk ns 43 2 (Q.length:Int)).toNat,by omega⟩
  rw [ha] at p2 r2
  have ha':a < Q.length:=by omega
  obtain ⟨va,_,ea⟩:=FN PyData.int (l:=Q) (i:=(a:Int)) (by omega) (by omega)
  have ix1:pIx (Q.map PyData.int).length (a:Int)=some a:=TQ (aH _) ha'
  have po:=Ue ha' (by omega)
  have io:=Ug (v:=va) ha' (by omega)
  have qm:∀ (h:List D→Option (List D)) (i:Nat) (l m:List D) (δ:DS),h l=some m→qM h i (some (.list l)) δ=some (.nx (δ.set i (some (.d (.list m))))):=fun h i l m δ e=>by
   unfold qM
   dsimp only
   rw [e]
  have qpo:=fun i δ=>qm (G4 (a:Int)) i _ _ δ po
  have qin:=fun i δ=>qm (Bc (a:Int) (.int va)) i _ _ δ io
  have qre:=fun i δ=>qm (fun l=>some l.reverse) i (Q.map PyData.int) (Q.reverse.map PyData.int) δ (by rw [List.map_reverse])
  by_cases c1:way < 4
  ·refine ⟨_,?_,jo (Q:=Q.eraseIdx a) (by rw [p7,if_pos ha'];omega)⟩
   unfold dJ
   simp only [EV,reduceIte,au,aA,ao,aq,aB,aC,aD,p0,zl0,en,dFa c0,ll,p2,dTr c1,Rw,JD,qpo,t_,pH,lu,lA]
  ·by_cases c2:way=4
   ·refine ⟨_,?_,jo (Q:=Q.take a++va :: Q.drop a) (by rw [bB,bK,fB,cL];omega)⟩
    unfold dJ
    simp only [EV,reduceIte,au,aA,ao,aq,aB,aC,aD,p0,zl0,en,dFa c0,ll,p2,dFa c1,dTr c2,ea,JF,zj,qin,t_,pH,lu,lA]
   ·by_cases c3:way=5
    ·refine ⟨_,?_,jo (Q:=Q.reverse) (by rw [rO];omega)⟩
     unfold dJ
     simp only [EV,reduceIte,au,aA,ao,aq,aB,aC,aD,p0,zl0,en,dFa c0,ll,p2,dFa c1,dFa c2,dTr c3,D3.Vh,qre,t_,pH,lu,lA]
    ·by_cases c4:way=6
     ·have p6:=cU (ns:=ns) (i:=43) (k:=1) (m:=6) (by decide) (by decide) (by decide) (by decide)
      have r6:=cP ns 43 1 (m:=6) (by decide)
      generalize gk ns 43 1 6=x6 at *
      obtain ⟨t,ht,et⟩:=Lf (l:=[.none,.bool true,.str "3", .tuple [.int va],.int (-1),.int 401]) r6.1 (show x6 < 6 from r6.2)
      refine ⟨.list ((Q.map .int).set a t),?_,?_⟩
      ·unfold dJ
       simp only [EV,reduceIte,au,aA,ao,aq,aB,aC,aD,p0,zl0,en,dFa c0,ll,p2,dFa c1,dFa c2,dFa c3,dTr c4,zl1,ea,zl6,p6,et,ix1,aK,t_,pH,lu,lA]
      ·have odd:Sm t→isI t=false→Tk (.list ((Q.map .int).set a t)):=fun h1 h2=>zU (by rw [cT,aH];omega) (fun d hd=>by
        rcases List.mem_or_eq_of_mem_set hd with w | rfl
        ·exact uy d w
        ·exact h1) ⟨t,List.mem_set (by rw [aH];exact ha') t,h2⟩
       have int:∀ v:Int,t = .int v→Tk (.list ((Q.map .int).set a t)):=fun v e=>by
        subst e
        rw [← List.map_set]
        exact jo (by rw [cT];omega)
       simp only [aR,d7,or_false] at ht
       rcases ht with z | z | z | z | z | z
       ·exact odd (z ▸ Gi) (z ▸ rfl)
       ·exact odd (z ▸ Gj _) (z ▸ rfl)
       ·exact odd (z ▸ Le _) (z ▸ rfl)
       ·exact odd (z ▸ Wz _) (z ▸ rfl)
       ·exact int _ z
       ·exact int _ z
     ·by_cases c5:way=7
      ·refine ⟨.list ((Q++[g]).map .int),?_,jo (by rw [bB];simp;omega)⟩
       have sl:(Q.map PyData.int).length < 1000000:=by rw [aH];omega
       rw [dj]
       unfold dJ
       simp only [EV,reduceIte,au,aA,ao,aq,aB,aC,aD,p0,zl0,en,dFa c0,ll,p2,dFa c1,dFa c2,dFa c3,dFa c4,dTr c5,sl,t_,pH,lu,lA]
      ·have p8:=cU (ns:=ns) (i:=43) (k:=3) (m:=400) (by decide) (by decide) (by decide) (by decide)
       generalize gk ns 43 3 400=x8 at *
       have gs:qg [.list (Q.map .int++[.int x8])]=some (.list ((j5 (Q++[x8])).map .int)):=by
        have e:Q.map PyData.int++[.int x8]=(Q++[x8]).map .int:=by rw [dj];rfl
        rw [e]
        unfold qg
        dsimp only
        rw [lQ,aK,if_pos (by rw [bB];simp;omega)]
       have g8:=g1 (.int x8)
       refine ⟨_,?_,jo (Q:=j5 (Q++[x8])) (by rw [(iu _).length_eq,bB];simp;omega)⟩
       unfold dJ
       simp only [EV,reduceIte,au,aA,ao,aq,aB,aC,aD,p0,zl0,en,dFa c0,ll,p2,dFa c1,dFa c2,dFa c3,dFa c4,dFa c5,p8,zl1,g8,gs,t_,pH,lu,lA]
end
theorem Lh (ns:List Int) (h63:ns.length ≤ 63):K5 [.list (ns.map .int)]=some (.bool true):=by
 have p4:=cU (ns:=ns) (i:=0) (k:=4) (m:=4) (by decide) (by decide) (by decide) (by decide)
 obtain ⟨now,n0,n1,en⟩:=KZ ns
 obtain ⟨b4,hb4⟩:∃ b4,decide (gk ns 0 4 4=1)=b4:=⟨_,rfl⟩
 generalize gk ns 0 4 4=x4 at *
 have ix:pAt [.int 3,.int 12] (if b4=true then 1 else 0)=some (.int (if b4=true then 12 else 3)):=by cases b4 <;> rfl
 have iN:Cv [.bool b4]=some (.int (if b4=true then 1 else 0)):=rfl
 have mm:(0:Int) < (if b4=true then 12 else 3)∧(if b4=true then (12:Int) else 3) ≤ 12:=by cases b4 <;> decide
 have p3:=cU (ns:=ns) (i:=0) (k:=3) (m:=if b4=true then 12 else 3) (by decide) (by decide) (by decide) mm.1
 have r3:=cP ns 0 3 mm.1
 generalize gk ns 0 3 (if b4=true then 12 else 3)=x3 at *
 obtain ⟨M,eM⟩:∃ M:Nat,(M:Int)=1 + x3:=⟨(1 + x3).toNat,by omega⟩
 have hM:M ≤ 12:=by omega
 obtain ⟨L,ok,eS⟩:=Du ns (M:=M) (now:=now) hM n0 n1
 have l24:=ok.len
 obtain ⟨f,ef,hf⟩:=Dz (TO0.of ok) hM
 have nf:∀ r,r < M→now ≤ f r:=fun r hr=>by
  rcases hf r hr with ⟨k,k1,k2,k3⟩ | ⟨_,k3⟩
  ·have:=((ok.ok _ (n8 k1)).2.1 r k2).2.2
   have:now < ek L k:=this
   omega
  ·omega
 have rg:pO (some [.int (L.length:Int)])=some (iV 0 (L.length:Int)):=Wu _ (by omega)
 have ll:((L.map yD).length:Int)=(L.length:Int):=by rw [aH]
 have rl:(iV 0 (L.length:Int)).length ≤ 100000:=by rw [rM];omega
 let sm:=(aX L.length).filter fun k=>!(hk L k).isSome
 have hsm:sm=(aX L.length).filter fun k=>!(hk L k).isSome:=rfl
 have sl:sm.length ≤ 24:=by
  have:=dN (fun k=>!(hk L k).isSome) (aX L.length)
  rw [cC] at this
  rw [hsm]
  omega
 have ms:∀ k ∈ sm,k < L.length∧hk L k=none:=fun k hk'=>by
  obtain ⟨k1,k2⟩:=fP.mp hk'
  refine ⟨bO.mp k1,?_⟩
  cases z:hk L k with
  | none=>rfl
  | some s=>rw [z] at k2;cases k2
 have C:gU (gNl 0) (bI (dUn uF (dOp gIx (dOp gIx (aG 1) (aG 0)) (dC (.int 2))))) (fY (aG 0)) (kY 1 [3] [some (.d (.list (ns.map .int))),some (.d (.int (M:Int))),some (.d (.int now)),some (.d (.list (L.map yD))),none,none,none,none,none,none,none,none,none,none,none]) (iV 0 (L.length:Int))=some (nD sm):=by
  rw [vo,dO]
  exact Hx (fun k:Nat=>PyData.int (k:Int)) (fun k=>!(hk L k).isSome) (fun k:Nat=>PyData.int (k:Int)) (aX L.length) fun k hk'=>⟨[some (.d (.int (k:Int))),some (.d (.list (L.map yD)))],rfl,by
   have ak:=ay (bO.mp hk')
   have nn:=Dv (hk L k)
   simp only [EV,reduceIte,au,aA,ao,aq,aB,aC,aD,ak,at2,nn],fun _=>by simp only [EV,reduceIte,au,aA,ao,aq,aB,aC,aD,fli]⟩
 clear_value sm
 clear hsm
 have lsm:((nD sm).length:Int)=(sm.length:Int):=by unfold nD;rw [aH]
 obtain ⟨N,eN,N0,N1⟩:∃ N:Int,(if (sm.length:Int) < 3 then (sm.length:Int) else 3)=N∧0 ≤ N∧N ≤ 3∧N ≤ (sm.length:Int):=by
  refine ⟨_,rfl,?_,?_,?_⟩ <;> split <;> omega
 have rgN:pO (some [.int N])=some (iV 0 N):=Bu (by omega) (by omega)
 obtain ⟨δ',e,u5,u6,u7,u8,u9,u10,u11,u12,u13,u14,rfl⟩:=lY (g:=(gNl 5)) (b:=(cA (bZ 6 (dOp gIx (aG 4) (dCall bA (aF (aG 0) (aF (dC (.int 41)) (aF (dOp mW (dC (.int 2)) (aG 5)) (aF (dCall jZ (aF (aG 4) (bh))) (bh)))))))) (cA (bZ 7 (dCall bA (aF (aG 0) (aF (dC (.int 41)) (aF (dOp iZ (dOp mW (dC (.int 2)) (aG 5)) (dC (.int 1))) (aF (aG 1) (bh))))))) (cA (bZ 8 (dCall dR (aF (aG 3) (aF (aG 2) (aF (aG 7) (bh)))))) (cA (bZ 9 (dOp gIx (dOp gIx (aG 3) (aG 6)) (dC (.int 0)))) (cA (bZ 10 (iY (oU (aF (dCall bA (aF (aG 0) (aF (dC (.int 42)) (aF (dC (.int 9)) (aF (dC (.int 3)) (bh)))))) (bh))) (gNl 0) (D3.kW) (dOp iZ (aG 1) (dCall bA (aF (aG 2) (aF (dC (.int 42)) (aF (aG 0) (aF (dCall tO (aF (dC (.int 1)) (aF (dOp yH (aG 3) (aG 1)) (bh)))) (bh))))))) 1 [8,0,9])) (cA (bZ 11 (iY (jT (dCall fH (aF (aG 3) (aF (aG 1) (aF (aG 6) (aF (iB (aF (aG 8) (bh))) (bh))))))) (gNl 0) (bI (dOp gLt (aG 0) (aG 1))) (fY (aG 0)) 1 [9])) (cA (bZ 12 (iY (jT (dCall fH (aF (aG 3) (aF (aG 1) (aF (aG 6) (aF (dOp oG (iB (aF (aG 8) (bh))) (aG 10)) (bh))))))) (gNl 0) (bI (dOp gLt (aG 0) (aG 1))) (fY (aG 0)) 1 [9])) (cA (bZ 13 (dCall uJ (aF (dOp oG (aG 10) (iB (aF (aG 8) (bh)))) (bh)))) (mK (jT (iB (aF (aG 11) (aF (aG 12) (aF (dCall dJ (aF (aG 0) (aF (aG 12) (aF (aG 9) (bh))))) (aF (iB (bh)) (aF (iB (aF (aG 8) (bh))) (aF (iB (aF (aG 9) (bh))) (aF (iB (aF (aG 2) (bh))) (aF (aG 13) (aF (aG 11) (bh)))))))))))) (gNl 14) (sIf (D3.oE (bI (dCall jg (aF (aG 3) (aF (aG 1) (aF (aG 2) (aF (aG 6) (aF (aG 7) (aF (aG 14) (bh)))))))))) (eU (dC (.bool false))) (gh)))))))))))) (fun i δ=>∃ u5 u6 u7 u8 u9 u10 u11 u12 u13 u14:Option U,δ=[some (.d (.list (ns.map .int))),some (.d (.int (M:Int))),some (.d (.int now)),some (.d (.list (L.map yD))),some (.d (.list (nD sm))),u5,u6,u7,u8,u9,u10,u11,u12,u13,u14]) (iV 0 N)
  [some (.d (.list (ns.map .int))),some (.d (.int (M:Int))),some (.d (.int now)),some (.d (.list (L.map yD))),some (.d (.list (nD sm))),none,none,none,none,none,none,none,none,none,none] ⟨none,none,none,none,none,none,none,none,none,none,rfl⟩ (by
   rintro i d δ hd ⟨u5,u6,u7,u8,u9,u10,u11,u12,u13,u14,rfl⟩
   obtain ⟨hi,rfl⟩:=wD hd
   have sp:(0:Int) < (sm.length:Int):=by omega
   have m2:mW (.int 2) (.int (i:Int))=some (.int (2 * (i:Int))):=mulL (by decide) (by decide)
   have pi:=cU (ns:=ns) (i:=41) (k:=2 * (i:Int)) (m:=(sm.length:Int)) (by decide) (by omega) (by omega) sp
   have ri:=cP ns 41 (2 * (i:Int)) sp
   generalize gk ns 41 (2 * (i:Int)) (sm.length:Int)=y at *
   obtain ⟨j,ej⟩:∃ j:Nat,(j:Int)=y:=⟨y.toNat,by omega⟩
   have jl:j < sm.length:=by omega
   obtain ⟨hw,hn⟩:=ms (sm[j]) (dZ jl)
   have aj:pAt (nD sm) y=some (.int ((sm[j]:Nat):Int)):=by
    rw [← ej,lC]
    unfold nD
    rw [bf,aN jl]
    rfl
   generalize sm[j]=w at *
   have pr:=cU (ns:=ns) (i:=41) (k:=2 * (i:Int) + 1) (m:=(M:Int)) (by decide) (by omega) (by omega) (by omega)
   have rr:=cP ns 41 (2 * (i:Int) + 1) (m:=(M:Int)) (by omega)
   generalize gk ns 41 (2 * (i:Int) + 1) (M:Int)=yr at *
   obtain ⟨r,er⟩:∃ r:Nat,(r:Int)=yr:=⟨yr.toNat,by omega⟩
   subst er
   have hr:r < M:=by omega
   have bg:Com.dR _=_:=DK ok hr hf
   have aw:=ay hw
   have h1:bk L w ≤ now + 59:=ok.nr _ (n8 hw) hn
   have nB:=nf r hr
   have tk:=fun t ht=>Px ok hw hn hr ef hf nB (t:=t) ht
   generalize f r=B at *
   have p9:=cU (ns:=ns) (i:=42) (k:=9) (m:=3) (by decide) (by decide) (by decide) (by decide)
   have r9:=cP ns 42 9 (m:=3) (by decide)
   generalize gk ns 42 9 3=x9 at *
   have rg9:pO (some [.int x9])=some (iV 0 x9):=Bu (by omega) (by omega)
   have rl9:(iV 0 x9).length ≤ 100000:=by rw [rM];omega
   obtain ⟨md,emd,md0,md1⟩:∃ md:Int,(if bk L w - B > 1 then bk L w - B else 1)=md∧0 < md∧(md ≤ bk L w - B∨md=1):=by
    refine ⟨_,rfl,?_,?_⟩ <;> split <;> omega
   obtain ⟨m,hm1,hm2,hm3⟩:∃ m:Int,bk L w ≤ m∧B ≤ m∧m ≤ B + 59∧md - 1 + B ≤ m:=by
    by_cases c:bk L w ≤ B
    ·exact ⟨B,c,cX _,by omega,by omega⟩
    ·exact ⟨bk L w,cX _,by omega,by omega,by omega⟩
   let be:=(aX x9.toNat).map fun k:Nat=>B + gk ns 42 (k:Int) md
   have hbe:be=(aX x9.toNat).map fun k:Nat=>B + gk ns 42 (k:Int) md:=rfl
   have be1:∀ x ∈ be,B ≤ x∧x ≤ m:=fun x hx=>by
    rw [hbe] at hx
    obtain ⟨k,_,rfl⟩:=bT.mp hx
    have:=cP ns 42 (k:Int) md0
    omega
   have be2:be.length ≤ 3:=by rw [hbe,aH,cC];omega
   have C1:∀ v1 v2 v3 v4 v5 v6 v7 v10 v11 v12 v13 v14:Option U,gU (gNl 0) (D3.kW) (dOp iZ (aG 1) (dCall bA (aF (aG 2) (aF (dC (.int 42)) (aF (aG 0) (aF (dCall tO (aF (dC (.int 1)) (aF (dOp yH (aG 3) (aG 1)) (bh)))) (bh))))))) (kY 1 [8,0,9] [some (.d (.list (ns.map .int))),v1,v2,v3,v4,v5,v6,v7,some (.d (.int B)),some (.d (.int (bk L w))),v10,v11,v12,v13,v14]) (iV 0 x9)=some (be.map .int):=fun _ _ _ _ _ _ _ _ _ _ _ _=>by
    rw [vo,hbe,h_]
    exact wX (fun k:Nat=>PyData.int (k:Int)) _ (aX x9.toNat) fun k hk'=>⟨[some (.d (.int (k:Int))),some (.d (.int B)),some (.d (.list (ns.map .int))),some (.d (.int (bk L w)))],rfl,rfl,by
     have hk':=bO.mp hk'
     have pk:=cU (ns:=ns) (i:=42) (k:=(k:Int)) (m:=md) (by decide) (by omega) (by omega) md0
     simp only [EV,reduceIte,au,aA,ao,aq,aB,aC,aD,emd,pk]
     rfl⟩
   clear_value be
   clear hbe
   obtain ⟨Q1,q1,ec1⟩:=BR ok hw hm1 hm3.1 (P:=[B]) (fun x hx=>by rw [aV.mp hx];exact ⟨cX _,hm2⟩)
   have ec1:fH [.list (L.map yD),.int (M:Int),.int (w:Int),.list [.int B]]=some (.list (Q1.map .int)):=ec1
   obtain ⟨Q2,q2,ec2⟩:=BR ok hw hm1 hm3.1 (P:=B :: be) (fun x hx=>by
    rcases aR.mp hx with rfl | z
    ·exact ⟨cX _,hm2⟩
    ·exact be1 x z)
   have ec2:fH [.list (L.map yD),.int (M:Int),.int (w:Int),.list (.int B :: be.map .int)]=some (.list (Q2.map .int)):=ec2
   have cc:oG (.list [.int B]) (.list (be.map .int))=some (.list (.int B :: be.map .int)):=by
    rw [wC,if_pos (by rw [aH];simp;omega)]
    rfl
   have cf:∀ Q:List Int,∀ v0 v1 v2 v3 v4 v5 v6 v7 v8 v10 v11 v12 v13 v14:Option U,gU (gNl 0) (bI (dOp gLt (aG 0) (aG 1))) (fY (aG 0)) (kY 1 [9] [v0,v1,v2,v3,v4,v5,v6,v7,v8,some (.d (.int (bk L w))),v10,v11,v12,v13,v14]) (Q.map .int)=some ((Q.filter fun x=>decide (x < bk L w)).map .int):=fun Q _ _ _ _ _ _ _ _ _ _ _ _ _ _ =>
    Hx (fun k:Int=>PyData.int k) (fun x=>decide (x < bk L w)) (fun k:Int=>PyData.int k) Q fun x _=>⟨[some (.d (.int x)),some (.d (.int (bk L w)))],rfl,by simp only [EV,reduceIte,au,aA,ao,aq,aB,aC,aD],fun _=>by simp only [EV,reduceIte,au,aA,ao,aq,aB,aC,aD,fli]⟩
   have f1:=dN (fun x=>decide (x < bk L w)) Q1
   have f2:=dN (fun x=>decide (x < bk L w)) Q2
   have cf1:=cf Q1
   have cf2:=cf Q2
   have lq1:(Q1.map PyData.int).length ≤ 100000:=by rw [aH];omega
   have lq2:(Q2.map PyData.int).length ≤ 100000:=by rw [aH];omega
   generalize Q1.filter (fun x=>decide (x < bk L w))=R1 at *
   generalize Q2.filter (fun x=>decide (x < bk L w))=R2 at *
   obtain ⟨t,et,ht⟩:=HJ ns R2 (bk L w) (by omega)
   have cb:oG (.list (be.map .int)) (.list [.int B])=some (.list ((be++[B]).map .int)):=by
    rw [wC,if_pos (by rw [aH];simp;omega),dj]
    rfl
   have gs:uJ [.list ((be++[B]).map .int)]=some (.list ((j5 (ddI (be++[B]))).map .int)):=by
    unfold uJ
    dsimp only
    rw [lQ,aK,if_pos (by rw [bB];simp;omega)]
   have ln:(j5 (ddI (be++[B]))).length ≤ 1000:=by
    rw [(iu _).length_eq]
    have h1:∀ l:List Int,(ddI l).length ≤ l.length:=by
     intro l
     induction l with
     | nil=>exact aQ _
     | cons x r ih =>
      unfold ddI
      split
      ·rw [bK];omega
      ·rw [bK,bK];omega
    have h2:=h1 (be++[B])
    rw [bB] at h2
    simp only [bK,jt] at h2
    omega
   generalize j5 (ddI (be++[B]))=R3 at *
   have tks:∀ d ∈ [PyData.list (R1.map .int),.list (R2.map .int),t,.list [],.list [.int B],.list [.int (bk L w)],.list [.int now],.list (R3.map .int),.list (R1.map .int)],Tk d:=fun d hd=>by
    simp only [aR,d7,or_false] at hd
    rcases hd with rfl | rfl | rfl | rfl | rfl | rfl | rfl | rfl | rfl
    ·exact jo (by omega)
    ·exact jo (by omega)
    ·exact ht
    ·exact jo (Q:=[]) (by decide)
    ·exact jo (Q:=[B]) (by simp)
    ·exact jo (Q:=[bk L w]) (by simp)
    ·exact jo (Q:=[now]) (by simp)
    ·exact jo ln
    ·exact jo (by omega)
   obtain ⟨δ2,e2,v14,rfl⟩:=lY (g:=(gNl 14)) (b:=(sIf (D3.oE (bI (dCall jg (aF (aG 3) (aF (aG 1) (aF (aG 2) (aF (aG 6) (aF (aG 7) (aF (aG 14) (bh)))))))))) (eU (dC (.bool false))) (gh))) (fun _ δ=>∃ v14:Option U,δ=[some (.d (.list (ns.map .int))),some (.d (.int (M:Int))),some (.d (.int now)),some (.d (.list (L.map yD))),some (.d (.list (nD sm))),some (.d (.int (i:Int))),some (.d (.int (w:Int))),some (.d (.int (r:Int))),some (.d (.int B)),some (.d (.int (bk L w))),some (.d (.list (be.map .int))),some (.d (.list (R1.map .int))),some (.d (.list (R2.map .int))),some (.d (.list (R3.map .int))),v14])
    [PyData.list (R1.map .int),.list (R2.map .int),t,.list [],.list [.int B],.list [.int (bk L w)],.list [.int now],.list (R3.map .int),.list (R1.map .int)]
    [some (.d (.list (ns.map .int))),some (.d (.int (M:Int))),some (.d (.int now)),some (.d (.list (L.map yD))),some (.d (.list (nD sm))),some (.d (.int (i:Int))),some (.d (.int (w:Int))),some (.d (.int (r:Int))),some (.d (.int B)),some (.d (.int (bk L w))),some (.d (.list (be.map .int))),some (.d (.list (R1.map .int))),some (.d (.list (R2.map .int))),some (.d (.list (R3.map .int))),u14] ⟨u14,rfl⟩ (by
     rintro j d δ hd ⟨v14,rfl⟩
     have td:=tk d (tks d (cW hd))
     refine ⟨_,[some (.d (.list (ns.map .int))),some (.d (.int (M:Int))),some (.d (.int now)),some (.d (.list (L.map yD))),some (.d (.list (nD sm))),some (.d (.int (i:Int))),some (.d (.int (w:Int))),some (.d (.int (r:Int))),some (.d (.int B)),some (.d (.int (bk L w))),some (.d (.list (be.map .int))),some (.d (.list (R1.map .int))),some (.d (.list (R2.map .int))),some (.d (.list (R3.map .int))),some (.d d)],rfl,.inl ?_,_,rfl⟩
     simp only [EV,reduceIte,au,aA,ao,aq,aB,aC,aD,td,bJ])
   refine ⟨_,[some (.d (.list (ns.map .int))),some (.d (.int (M:Int))),some (.d (.int now)),some (.d (.list (L.map yD))),some (.d (.list (nD sm))),some (.d (.int (i:Int))),some (.d (.int (w:Int))),some (.d (.int (r:Int))),some (.d (.int B)),some (.d (.int (bk L w))),some (.d (.list (be.map .int))),some (.d (.list (R1.map .int))),some (.d (.list (R2.map .int))),some (.d (.list (R3.map .int))),v14],rfl,.inl ?_,_,_,_,_,_,_,_,_,_,_,rfl⟩
   have zl9:0 + 1 + 1 + 1 + 1 + 1 + 1 + 1 + 1 + 1 ≤ sizeLine:=Com.sz (by decide)
   generalize nD sm=SM at *
   simp only [EV,reduceIte,au,aA,ao,aq,aB,aC,aD,lsm,m2,pi,aj,pr,bg,aw,at0,p9,rg9,rl9,C1,zl1,ec1,lq1,cf1,cc,ec2,lq2,cf2,cb,gs,et,zl0,zl9]
   exact e2)
 unfold K5
 simp only [EV,reduceIte,au,aA,ao,aq,aB,aC,aD,p4,hb4,iN,ix,p3,← eM,en,eS,ll,rg,rl,C,lsm,eN,rgN,zl2]
 rw [e]
 simp only [EV,reduceIte,au,aA,ao,aq,aB,aC,aD]
end K43
namespace K43
open PySem PySem.Spec PyProof.Rows L2 My D3
noncomputable def top (i:Nat):Stmt:=PySem.Challenge.pw_nightbook_k43_shut_or_not.main.body.getD i (.Pass ⟨0,0,0,0⟩)
section
seal PE PT PW PA PS PSs PG PGs PI PO PTs
variable {P:Program} {w:World} {K:PySem.W.Frag} {mg:Str→Option Value} {base:Heap} {n:Nat}
theorem BW (D:Dg K mg "is_whole" (top 7) ["thing"]) (B:Bl mg):Has P w K mg base (n + 1) "is_whole" ["thing"] (spD K eE):=by
 have sc:FnScope ["thing"] ["thing"] (bG (top 7)):=fsc
 exact f9 (fl:=[.A]) D sc (by decide) (by decide) fun f cdv A outer s H E hr=>aY (cB (cM (k_ (bC (oJ (T := "int") (by decide) (vP 0) (by rfl) B.isinstance_ (by rfl) B.int_ PyProof.Rows.boot_int)) (qw (Js (bC (oJ (T := "bool") (by decide) (vP 0) (by rfl) B.isinstance_ (by rfl) B.bool_ PyProof.Rows.boot_bool)))))))
theorem zV (D:Dg K mg "all_whole" (top 8) ["things"]) (B:Bl mg) (his_whole:Has P w K mg base n "is_whole" ["thing"] (spD K eE)):Has P w K mg base (n + 1) "all_whole" ["things"] (spD K gJ):=by
 have sc:FnScope ["things"] ["things"] (bG (top 8)):=fsc
 exact f9 (fl:=[.A]) D sc (by decide) (by decide) fun f cdv A outer s H E hr=>aY (cB (cM (eV (rD rfl) yd (by rfl) B.all_ (show bootBuiltins "all" = some (.builtin "all") by decide +kernel) (dq (bC (lg (L:=[]) (fl':=[.A]) rfl ["thing"] [] [] (RB (vB 0)) (fun _ _ _ _ _=>gN' (i:=0) (show (["thing"]:List Str).Nodup by decide +kernel)) (fun _ _ _ _ _=>mY) (fun _ _ _ _ _=>bH his_whole hr (dq (vP 0) dz)))) dz))))
theorem wI (D:Dg K mg "is_tuple_of" (top 9) ["thing", "many"]) (B:Bl mg) (hall_whole:Has P w K mg base n "all_whole" ["things"] (spD K gJ)):Has P w K mg base (n + 1) "is_tuple_of" ["thing", "many"] (spD K lZ):=by
 have sc:FnScope ["thing", "many"] ["thing", "many"] (bG (top 9)):=fsc
 exact f9 (fl:=[.A,.A]) D sc (by decide) (by decide) fun f cdv A outer s H E hr=>aY (cB (xW (k_ (bC (oJ (T := "tuple") (by decide) (vP 0) (by rfl) B.isinstance_ (by rfl) B.tuple_ PyProof.Rows.boot_tuple)) (k_ (bC (j6 (jA hr.units) qu (bC (eV cI jU (by rfl) B.len_ PySem.boot_len (dq (vP 0) dz))) (vP 1) (cG _))) (qw (bH hall_whole hr (dq (vP 0) dz)))))))
theorem DN (D:Dg K mg "is_pair" (top 10) ["thing"]) (B:Bl mg) (his_tuple_of:Has P w K mg base n "is_tuple_of" ["thing", "many"] (spD K lZ)):Has P w K mg base (n + 1) "is_pair" ["thing"] (spD K oZ):=by
 have sc:FnScope ["thing"] ["thing"] (bG (top 10)):=fsc
 exact f9 (fl:=[.A]) D sc (by decide) (by decide) fun f cdv A outer s H E hr=>aY (cB (xW (bH his_tuple_of hr (dq (vP 0) (dq iP dz)))))
theorem uL (D:Dg K mg "is_whole_list" (top 11) ["thing"]) (B:Bl mg) (hall_whole:Has P w K mg base n "all_whole" ["things"] (spD K gJ)):Has P w K mg base (n + 1) "is_whole_list" ["thing"] (spD K eZ):=by
 have sc:FnScope ["thing"] ["thing"] (bG (top 11)):=fsc
 exact f9 (fl:=[.A]) D sc (by decide) (by decide) fun f cdv A outer s H E hr=>aY (cB (xW (k_ (bC (oJ (T := "list") (by decide) (vP 0) (by rfl) B.isinstance_ (by rfl) B.list_ PyProof.Rows.boot_list)) (qw (bH hall_whole hr (dq (vP 0) dz))))))
theorem zW (D:Dg K mg "is_rising" (top 12) ["numbers"]) (B:Bl mg):Has P w K mg base (n + 1) "is_rising" ["numbers"] (spD K iR):=by
 have sc:FnScope ["numbers"] ["numbers"] (bG (top 12)):=fsc
 exact f9 (fl:=[.A]) D sc (by decide) (by decide) fun f cdv A outer s H E hr=>aY (cB (cM (eV (rD rfl) yd (by rfl) B.all_ (show bootBuiltins "all" = some (.builtin "all") by decide +kernel) (dq (bC (lg (L:=[]) (fl':=[.A,.A]) rfl ["one", "other"] [] [] (Rq (L1:=[]) (L2:=[]) (vB 0) (fQ (kh (Vd (vB 0) (M6 iP) M5))) (by rfl) B.zip_) (fun _ _ _ _ _=>vV rfl (jy (gN' (i:=0) (show (["one", "other"]:List Str).Nodup by decide +kernel)) (jy (gN' (i:=1) (show (["one", "other"]:List Str).Nodup by decide +kernel)) (tU)))) (fun _ _ _ _ _=>mY) (fun _ _ _ _ _=>i_ (j6 kO b_lt (vP 0) (vP 1) (cG _))))) dz))))
theorem wY (D:Dg K mg "is_stretch" (top 15) ["thing"]) (B:Bl mg) (his_pair:Has P w K mg base n "is_pair" ["thing"] (spD K oZ)) (gNIGHTS:∃ t,mg "NIGHTS" = some (.int 400 t)):Has P w K mg base (n + 1) "is_stretch" ["thing"] (spD K lD):=by
 have sc:FnScope ["thing"] ["thing"] (bG (top 15)):=fsc
 exact f9 (fl:=[.A]) D sc (by decide) (by decide) fun f cdv A outer s H E hr=>aY (cB (cM (k_ (gj (bH his_pair hr (dq (vP 0) dz))) (qw (GR rW kO rW wU b_lt wU iP (dY (dx (vB 0) iP)) (dY (dx (vB 0) iP)) (bC (Mu gNIGHTS)))))))
theorem zX (D:Dg K mg "nights_of" (top 16) ["stay"]) (B:Bl mg):Has P w K mg base (n + 1) "nights_of" ["stay"] (spD K dw):=by
 have sc:FnScope ["stay"] ["stay"] (bG (top 16)):=fsc
 exact f9 (fl:=[.A]) D sc (by decide) (by decide) fun f cdv A outer s H E hr=>aY (cB (uH rfl (dq (cM (ji (dY (dx (vB 0) iP)))) (dq (cM (ji (dY (dx (vB 0) iP)))) dz))))
theorem Li (D:Dg K mg "holds" (top 17) ["stretch", "night"]) (B:Bl mg):Has P w K mg base (n + 1) "holds" ["stretch", "night"] (spD K jO):=by
 have sc:FnScope ["stretch", "night"] ["stretch", "night"] (bG (top 17)):=fsc
 exact f9 (fl:=[.A,.A]) D sc (by decide) (by decide) fun f cdv A outer s H E hr=>aY (cB (cM (Aw rW kO wU b_lt (dY (dx (vB 0) iP)) (vP 1) (dY (dx (vB 0) iP)))))
theorem BX (D:Dg K mg "count_at" (top 18) ["stretches", "night"]) (B:Bl mg) (hholds:Has P w K mg base n "holds" ["stretch", "night"] (spD K jO)):Has P w K mg base (n + 1) "count_at" ["stretches", "night"] (spD K iW):=by
 have sc:FnScope ["stretches", "night"] ["stretches", "night"] (bG (top 18)):=fsc
 exact f9 (fl:=[.A,.A]) D sc (by decide) (by decide) fun f cdv A outer s H E hr=>aY (cB (cM (eV cI jU (by rfl) B.len_ PySem.boot_len (dq (bC (lg (L:=[]) (fl':=[.A,.A]) rfl ["stretch"] ["night"] [1] (fV (vB 0)) (fun _ _ _ _ _=>gN' (i:=0) (show (["stretch", "night"]:List Str).Nodup by decide +kernel)) (fun _ _ _ _ _=>nR (lK (gj (bH hholds hr (dq (vP 0) (dq (vP 1) dz)))))) (fun _ _ _ _ _=>i_ (ji (vP 0))))) dz))))
theorem HN (D:Dg K mg "firsts" (top 19) ["stretches"]) (B:Bl mg):Has P w K mg base (n + 1) "firsts" ["stretches"] (spD K nG):=by
 have sc:FnScope ["stretches"] ["stretches"] (bG (top 19)):=fsc
 exact f9 (fl:=[.A]) D sc (by decide) (by decide) fun f cdv A outer s H E hr=>aY (cB (cM (lg (L:=[]) (fl':=[.A]) rfl ["stretch"] [] [] (fV (vB 0)) (fun _ _ _ _ _=>gN' (i:=0) (show (["stretch"]:List Str).Nodup by decide +kernel)) (fun _ _ _ _ _=>mY) (fun _ _ _ _ _=>i_ (ji (dY (dx (vB 0) iP)))))))
theorem HS (D:Dg K mg "fuller" (top 20) ["stretches", "many", "since"]) (B:Bl mg) (hcount_at:Has P w K mg base n "count_at" ["stretches", "night"] (spD K iW)) (hfirsts:Has P w K mg base n "firsts" ["stretches"] (spD K nG)):Has P w K mg base (n + 1) "fuller" ["stretches", "many", "since"] (spD K lB):=by
 have sc:FnScope ["stretches", "many", "since", "later", "night"] ["stretches", "many", "since"] (bG (top 20)):=fsc
 exact f9 (fl:=[.A,.A,.A,.A,.A]) D sc (by decide) (by decide) fun f cdv A outer s H E hr=>aZ (qz (i:=3) (L:=[]) (fl':=[.A,.A]) rfl sc.nd rfl rfl rfl ["first"] ["since"] [2] (fV (fQ (jd (bH hfirsts hr (dq (vP 0) dz))))) (fun _ _ _ _ _=>gN' (i:=0) (show (["first", "since"]:List Str).Nodup by decide +kernel)) (fun _ _ _ _ _=>nR (cZ vD Cz (vP 0) (vP 1) (cG _))) (fun _ _ _ _ _=>i_ (ji (vP 0))))
  (aZ (jB (L:=[]) PassesOwn.never rfl (fV (fQ (kh (qH (fQ (kh (jE (dq (vA 2) dz)))) (fQ (d9 (uI (dq (vP 3) dz) (by rfl) B.sorted_))))))) (gN' (i:=4) sc.nd) (aY (fK (cZ vD Cz (gj (bH hcount_at hr (dq (vP 0) (dq (vP 4) dz)))) (vP 1) (cG _)) (aY (cB (cM (ji (vP 4))))) (dg))))
  (aY (cB (cM (sJ)))))
theorem DP (D:Dg K mg "is_stay" (top 22) ["thing", "rooms", "now"]) (B:Bl mg) (his_whole:Has P w K mg base n "is_whole" ["thing"] (spD K eE)) (his_stretch:Has P w K mg base n "is_stretch" ["thing"] (spD K lD)) (hnights_of:Has P w K mg base n "nights_of" ["stay"] (spD K dw)) (hholds:Has P w K mg base n "holds" ["stretch", "night"] (spD K jO)):Has P w K mg base (n + 1) "is_stay" ["thing", "rooms", "now"] (spD K lR):=by
 have sc:FnScope ["thing", "rooms", "now", "room"] ["thing", "rooms", "now"] (bG (top 22)):=fsc
 exact f9 (fl:=[.A,.A,.A,.A]) D sc (by decide) (by decide) fun f cdv A outer s H E hr=>aZ (fK (tW (qx (mL (lK (bC (oJ (T := "tuple") (by decide) (vP 0) (by rfl) B.isinstance_ (by rfl) B.tuple_ PyProof.Rows.boot_tuple)))) (qx (cZ (Cq hr.units) Rc (bC (eV cI jU (by rfl) B.len_ PySem.boot_len (dq (vP 0) dz))) iP (cG _)) (sO (mL (lK (gj (bH his_stretch hr (dq (gj (bH hnights_of hr (dq (vP 0) dz))) dz))))))))) (aY (cB (cM (nW)))) (dg))
  (aZ (sA (i:=3) sc.nd (dx (vB 0) iP))
  (aZ (fK (yX (vP 3)) (aY (cB (cM (j6 Im Ra (dY (dx (vB 0) iP)) (vP 2) (cG _))))) (dg))
  (aY (cB (xW (k_ (gj (bH his_whole hr (dq (vP 3) dz))) (k_ (bC (Aw rW kO wU b_lt iP (vP 3) (vP 1))) (qw (bH hholds hr (dq (gj (bH hnights_of hr (dq (vP 0) dz))) (dq (vP 2) dz)))))))))))
theorem wJ (D:Dg K mg "check_stays" (top 23) ["stays", "rooms", "now"]) (B:Bl mg) (his_stay:Has P w K mg base n "is_stay" ["thing", "rooms", "now"] (spD K lR)):Has P w K mg base (n + 1) "check_stays" ["stays", "rooms", "now"] (spD K jV):=by
 have sc:FnScope ["stays", "rooms", "now", "taken", "at", "stay"] ["stays", "rooms", "now"] (bG (top 23)):=fsc
 exact f9 (fl:=[.A,.A,.A,.N,.A,.A]) D sc (by decide) (by decide) fun f cdv A outer s H E hr=>aZ (Er (i:=3) rfl sc.nd rfl (by first | exact Or.inl rfl | exact Or.inr rfl) (yZ))
  (aY (jB (L:=[]) PassesOwn.never rfl (Eo (vB 0) (by rfl) B.enumerate_) (vV rfl (jy (gN' (i:=4) sc.nd) (jy (gN' (i:=5) sc.nd) (tU)))) (aZ (fK (mL (lK (gj (bH his_stay hr (dq (vP 5) (dq (vP 1) (dq (vP 2) dz))))))) (aY (qJ)) (dg))
  (aZ (fK (cZ (XB.Kh hr.units) XB.Qd (dY (dx (vB 5) iP)) (zc 3 rfl) (by with_unfolding_all rfl)) (aY (qJ)) (dg))
  (aY (fK (tX (dY (dx (vB 5) iP))) (aY (XB.zJ (XK.hu1 hr.units) (i:=3) rfl DX (dY (dx (vB 5) iP)) rfl)) (dg)))))))
theorem wZ (D:Dg K mg "check_full" (top 24) ["stays", "rooms", "now"]) (B:Bl mg) (hnights_of:Has P w K mg base n "nights_of" ["stay"] (spD K dw)) (hfuller:Has P w K mg base n "fuller" ["stretches", "many", "since"] (spD K lB)):Has P w K mg base (n + 1) "check_full" ["stays", "rooms", "now"] (spD K iM):=by
 have sc:FnScope ["stays", "rooms", "now", "night"] ["stays", "rooms", "now"] (bG (top 24)):=fsc
 exact f9 (fl:=[.A,.A,.A,.A]) D sc (by decide) (by decide) fun f cdv A outer s H E hr=>aZ (sA (i:=3) sc.nd (jd (bH hfuller hr (dq (bC (lg (L:=[]) (fl':=[.A]) rfl ["stay"] [] [] (fV (vB 0)) (fun _ _ _ _ _=>gN' (i:=0) (show (["stay"]:List Str).Nodup by decide +kernel)) (fun _ _ _ _ _=>mY) (fun _ _ _ _ _=>bH hnights_of hr (dq (vP 0) dz)))) (dq (vP 1) (dq (vP 2) dz))))))
  (aY (fK (tX (vP 3)) (aY (qJ)) (dg)))
theorem w6 (D:Dg K mg "beginnings" (top 25) ["stays", "rooms", "now"]) (B:Bl mg):Has P w K mg base (n + 1) "beginnings" ["stays", "rooms", "now"] (spD K fM):=by
 have sc:FnScope ["stays", "rooms", "now", "nights", "stay"] ["stays", "rooms", "now"] (bG (top 25)):=fsc
 exact f9 (fl:=[.A,.A,.A,.O,.A]) D sc (by decide) (by decide) fun f cdv A outer s H E hr=>aZ (tR (i:=3) rfl sc.nd rfl (by first | exact Or.inl rfl | exact Or.inr rfl) (Rj (jE (dq (vA 2) dz)) (vP 1)))
  (aZ (jB (L:=[]) PassesOwn.never rfl (fV (vB 0)) (gN' (i:=4) sc.nd) (aY (fK (tX (dY (dx (vB 4) iP))) (aY (Jm (i:=3) rfl (dx (vB 4) iP) (dY (dx (vB 4) iP)) rfl)) (dg))))
  (aY (cB (uW 3 (by decide)))))
theorem zY (D:Dg K mg "check_who" (top 27) ["stays", "rooms", "now", "who"]) (B:Bl mg) (hcheck_stays:Has P w K mg base n "check_stays" ["stays", "rooms", "now"] (spD K jV)) (hcheck_full:Has P w K mg base n "check_full" ["stays", "rooms", "now"] (spD K iM)):Has P w K mg base (n + 1) "check_who" ["stays", "rooms", "now", "who"] (spD K mH):=by
 have sc:FnScope ["stays", "rooms", "now", "who"] ["stays", "rooms", "now", "who"] (bG (top 27)):=fsc
 exact f9 (fl:=[.A,.A,.A,.A]) D sc (by decide) (by decide) fun f cdv A outer s H E hr=>aZ (uX (gj (bH hcheck_stays hr (dq (vP 0) (dq (vP 1) (dq (vP 2) dz))))))
  (aZ (uX (gj (bH hcheck_full hr (dq (vP 0) (dq (vP 1) (dq (vP 2) dz))))))
  (aY (fK (tW (qx (mL (A_ rW kO wU b_lt iP (vP 3) (bC (eV cI jU (by rfl) B.len_ PySem.boot_len (dq (vP 0) dz))))) (sO (tX (dY (dx (fQ (dx (vB 0) (vP 3))) iP)))))) (aY (qJ)) (dg))))
theorem xg (D:Dg K mg "check_room" (top 28) ["rooms", "room"]) (B:Bl mg):Has P w K mg base (n + 1) "check_room" ["rooms", "room"] (spD K gw):=by
 have sc:FnScope ["rooms", "room"] ["rooms", "room"] (bG (top 28)):=fsc
 exact f9 (fl:=[.A,.A]) D sc (by decide) (by decide) fun f cdv A outer s H E hr=>aY (fK (mL (A_ rW kO wU b_lt iP (vP 1) (vP 0))) (aY (qJ)) (dg))
theorem BZ (D:Dg K mg "is_tight" (top 29) ["stays", "rooms", "night"]) (B:Bl mg) (hnights_of:Has P w K mg base n "nights_of" ["stay"] (spD K dw)) (hcount_at:Has P w K mg base n "count_at" ["stretches", "night"] (spD K iW)):Has P w K mg base (n + 1) "is_tight" ["stays", "rooms", "night"] (spD K jm):=by
 have sc:FnScope ["stays", "rooms", "night"] ["stays", "rooms", "night"] (bG (top 29)):=fsc
 exact f9 (fl:=[.A,.A,.A]) D sc (by decide) (by decide) fun f cdv A outer s H E hr=>aY (cB (cM (j6 (jA hr.units) qu (gj (bH hcount_at hr (dq (bC (lg (L:=[]) (fl':=[.A]) rfl ["stay"] [] [] (fV (vB 0)) (fun _ _ _ _ _=>gN' (i:=0) (show (["stay"]:List Str).Nodup by decide +kernel)) (fun _ _ _ _ _=>mY) (fun _ _ _ _ _=>bH hnights_of hr (dq (vP 0) dz)))) (dq (vP 2) dz)))) (vP 1) (cG _))))
theorem xq (D:Dg K mg "goes_ahead" (top 30) ["stays", "who", "place", "night"]) (B:Bl mg):Has P w K mg base (n + 1) "goes_ahead" ["stays", "who", "place", "night"] (spD K gB):=by
 have sc:FnScope ["stays", "who", "place", "night", "stay"] ["stays", "who", "place", "night"] (bG (top 30)):=fsc
 exact f9 (fl:=[.A,.A,.A,.A,.A]) D sc (by decide) (by decide) fun f cdv A outer s H E hr=>aZ (sA (i:=4) sc.nd (dx (vB 0) (vP 2)))
  (aY (cB (cM (k_ (bC (j6 (Cq hr.units) Rc (vP 2) (vP 1) (cG _))) (k_ (bC (Ri (dY (dx (vB 4) iP)))) (k_ (bC (j6 (jA hr.units) qu (dY (dx (vB 4) iP)) (vP 3) (cG _))) (qw (j6 rW wU (dY (dx (vB 4) iP)) (dY (dx (fQ (dx (vB 0) (vP 1))) iP)) (cG _)))))))))
theorem xr (D:Dg K mg "steps_from" (top 31) ["stays", "rooms", "who", "night"]) (B:Bl mg) (his_tight:Has P w K mg base n "is_tight" ["stays", "rooms", "night"] (spD K jm)) (hgoes_ahead:Has P w K mg base n "goes_ahead" ["stays", "who", "place", "night"] (spD K gB)):Has P w K mg base (n + 1) "steps_from" ["stays", "rooms", "who", "night"] (spD K gC):=by
 have sc:FnScope ["stays", "rooms", "who", "night", "steps"] ["stays", "rooms", "who", "night"] (bG (top 31)):=fsc
 exact f9 (fl:=[.A,.A,.A,.A,.O]) D sc (by decide) (by decide) fun f cdv A outer s H E hr=>aZ (Jv (i:=4) (L:=[]) (fl':=[.A,.A,.A,.A,.A]) rfl sc.nd rfl rfl rfl ["place", "stay"] ["stays", "who", "night"] [0,2,3] (Eo (vB 0) (by rfl) B.enumerate_) (fun _ _ _ _ _=>vV rfl (jy (gN' (i:=0) (show (["place", "stay", "stays", "who", "night"]:List Str).Nodup by decide +kernel)) (jy (gN' (i:=1) (show (["place", "stay", "stays", "who", "night"]:List Str).Nodup by decide +kernel)) (tU)))) (fun _ _ _ _ _=>nR (lK (gj (bH hgoes_ahead hr (dq (vP 2) (dq (vP 3) (dq (vP 0) (dq (vP 4) dz)))))))) (fun _ _ _ _ _=>i_ (ji (dY (uH rfl (dq (dx (vB 1) iP) (dq (vA 0) dz)))))))
  (aZ (fK (mL (lK (gj (bH his_tight hr (dq (vP 0) (dq (vP 1) (dq (vP 3) dz))))))) (aY (rB (i:=4) rfl (jd (uH rfl (dq (i_ (dG gR jw (vP 3) iP)) (dq (i_ (sJ)) dz)))) rfl)) (dg))
  (aY (cB (uW 4 (by decide)))))
theorem zZ (D:Dg K mg "is_closed" (top 32) ["stays", "rooms", "who", "nights"]) (B:Bl mg) (hsteps_from:Has P w K mg base n "steps_from" ["stays", "rooms", "who", "night"] (spD K gC)):Has P w K mg base (n + 1) "is_closed" ["stays", "rooms", "who", "nights"] (spD K gH):=by
 have sc:FnScope ["stays", "rooms", "who", "nights", "night", "step"] ["stays", "rooms", "who", "nights"] (bG (top 32)):=fsc
 exact f9 (fl:=[.A,.A,.A,.A,.A,.A]) D sc (by decide) (by decide) fun f cdv A outer s H E hr=>aZ (jB (L:=[]) PassesOwn.never rfl (fV (vB 3)) (gN' (i:=4) sc.nd) (aY (jB (L:=[]) PassesOwn.never rfl (fV (fQ (jd (bH hsteps_from hr (dq (vP 0) (dq (vP 1) (dq (vP 2) (dq (vP 4) dz)))))))) (gN' (i:=5) sc.nd) (aY (fK (cZ (rE hr.units) vd (dY (dx (vB 5) iP)) (vP 3) (by with_unfolding_all rfl)) (aY (cB (cM (nW)))) (dg))))))
  (aY (cB (cM (nW))))
theorem DQ (D:Dg K mg "is_shut" (top 33) ["stays", "rooms", "now", "who", "room", "thing"]) (B:Bl mg) (his_whole_list:Has P w K mg base n "is_whole_list" ["thing"] (spD K eZ)) (his_rising:Has P w K mg base n "is_rising" ["numbers"] (spD K iR)) (hbeginnings:Has P w K mg base n "beginnings" ["stays", "rooms", "now"] (spD K fM)) (hcheck_who:Has P w K mg base n "check_who" ["stays", "rooms", "now", "who"] (spD K mH)) (hcheck_room:Has P w K mg base n "check_room" ["rooms", "room"] (spD K gw)) (his_closed:Has P w K mg base n "is_closed" ["stays", "rooms", "who", "nights"] (spD K gH)):Has P w K mg base (n + 1) "is_shut" ["stays", "rooms", "now", "who", "room", "thing"] (spD K kE):=by
 have sc:FnScope ["stays", "rooms", "now", "who", "room", "thing", "begin", "first"] ["stays", "rooms", "now", "who", "room", "thing"] (bG (top 33)):=fsc
 exact f9 (fl:=[.A,.A,.A,.A,.A,.A,.A,.A]) D sc (by decide) (by decide) fun f cdv A outer s H E hr=>aZ (uX (gj (bH hcheck_who hr (dq (vP 0) (dq (vP 1) (dq (vP 2) (dq (vP 3) dz)))))))
  (aZ (uX (gj (bH hcheck_room hr (dq (vP 1) (dq (vP 4) dz)))))
  (aZ (fK (tW (qx (mL (lK (gj (bH his_whole_list hr (dq (vP 5) dz))))) (sO (mL (lK (gj (bH his_rising hr (dq (vP 5) dz)))))))) (aY (cB (cM (nW)))) (dg))
  (aZ (sA (i:=6) sc.nd (dx (fQ (jd (bH hbeginnings hr (dq (vP 0) (dq (vP 1) (dq (vP 2) dz)))))) (vP 4)))
  (aZ (sA (i:=7) sc.nd (dx (fQ (dx (vB 0) (vP 3))) iP))
  (aZ (fK (cZ vD Cz (vP 6) (vP 7) (cG _)) (aY (cB (cM (j6 (jA hr.units) qu (vP 5) (bC (iz dz)) (cG _))))) (dg))
  (aZ (fK (tW (qx (cZ (rE hr.units) vd (vP 6) (vP 5) (by with_unfolding_all rfl)) (qx (cZ kO b_lt (bC (eV (G3 rfl) Ro (by rfl) B.min_ PyProof.Rows.boot_min (dq (vP 5) dz))) (vP 6) (cG _)) (sO (cZ Im Ra (bC (eV (GZ rfl) Rm (by rfl) B.max_ PyProof.Rows.boot_max (dq (vP 5) dz))) (vP 7) (cG _)))))) (aY (cB (cM (nW)))) (dg))
  (aY (cB (xW (bH his_closed hr (dq (vP 0) (dq (vP 1) (dq (vP 3) (dq (vP 5) dz))))))))))))))
theorem z6 (D:Dg K mg "_law_cell" (top 35) ["_law_script", "_law_at"]) (B:Bl mg):Has P w K mg base (n + 1) "_law_cell" ["_law_script", "_law_at"] (spD K je):=by
 have sc:FnScope ["_law_script", "_law_at"] ["_law_script", "_law_at"] (bG (top 35)):=fsc
 exact f9 (fl:=[.A,.A]) D sc (by decide) (by decide) fun f cdv A outer s H E hr=>aZ (fK (cZ kO b_lt (vP 1) (bC (eV cI jU (by rfl) B.len_ PySem.boot_len (dq (vP 0) dz))) (cG _)) (aY (cB (cM (dG mV tQ (dY (dx (vB 0) (vP 1))) iP)))) (dg))
  (aZ (fK (cZ (jA hr.units) qu (vP 0) (bC (iz dz)) (cG _)) (aY (cB (cM (dG gR jw (bC (dG kZ qt iP (vP 1))) iP)))) (dg))
  (aY (cB (cM (dG gR jw (bC (dG mV tQ (dY (dx (vB 0) (bC (dG mV tQ (bC (dG kZ qt (vP 1) iP)) (bC (eV cI jU (by rfl) B.len_ PySem.boot_len (dq (vP 0) dz))))))) iP)) (bC (dG kZ qt iP (vP 1))))))))
theorem z7 (D:Dg K mg "_law_part" (top 36) ["_law_script", "_law_at", "_law_k", "_law_many"]) (B:Bl mg) (h_law_cell:Has P w K mg base n "_law_cell" ["_law_script", "_law_at"] (spD K je)):Has P w K mg base (n + 1) "_law_part" ["_law_script", "_law_at", "_law_k", "_law_many"] (spD K bA):=by
 have sc:FnScope ["_law_script", "_law_at", "_law_k", "_law_many", "_law_number", "_law_j"] ["_law_script", "_law_at", "_law_k", "_law_many"] (bG (top 36)):=fsc
 exact f9 (fl:=[.A,.A,.A,.A,.A,.A]) D sc (by decide) (by decide) fun f cdv A outer s H E hr=>aZ (fK (tW (pF (cZ kO b_lt (vP 1) (bC (eV cI jU (by rfl) B.len_ PySem.boot_len (dq (vP 0) dz))) (cG _)) (pD (cZ Im Ra (dY (dx (vB 0) (vP 1))) (bC (dG QL Va iP iP)) (cG _))))) (aZ (sA (i:=4) sc.nd (dx (vB 0) (vP 1)))
  (aZ (jB (L:=[]) PassesOwn.never rfl (jN (by rfl) B.range_ (tV (dq (vP 2) dz))) (gN' (i:=5) sc.nd) (aY (sA (i:=4) sc.nd (d9 (dG Ej PJ (vP 4) iP)))))
  (aY (fK (cZ vD Cz (vP 4) iP (cG _)) (aY (cB (cM (dG mV tQ (bC (dG mV tQ (vP 4) iP)) (vP 3))))) (dg))))) (dg))
  (aZ (sA (i:=4) sc.nd (d9 (dG mV tQ (bC (dG kZ qt (bC (dG gR jw (bC (dG gR jw (gj (bH h_law_cell hr (dq (vP 0) (dq (vP 1) dz)))) (bC (dG kZ qt iP (vP 1))))) iP)) (bC (dG gR jw iP (bC (dG kZ qt iP (vP 2))))))) iP)))
  (aZ (sA (i:=4) sc.nd (d9 (dG gR jw (bC (dG mV tQ (bC (dG kZ qt (vP 4) (vP 4))) iP)) iP)))
  (aY (cB (cM (dG mV tQ (bC (dG Ej PJ (bC (dG mV tQ (bC (dG kZ qt (vP 4) (vP 4))) iP)) iP)) (vP 3)))))))
theorem xu (D:Dg K mg "_law_whole" (top 37) ["_law_found"]) (B:Bl mg):Has P w K mg base (n + 1) "_law_whole" ["_law_found"] (spD K fL):=by
 have sc:FnScope ["_law_found"] ["_law_found"] (bG (top 37)):=fsc
 exact f9 (fl:=[.A]) D sc (by decide) (by decide) fun f cdv A outer s H E hr=>aY (cB (cM (k_ (bC (oJ (T := "int") (by decide) (vP 0) (by rfl) B.isinstance_ (by rfl) B.int_ PyProof.Rows.boot_int)) (qw (Js (bC (oJ (T := "bool") (by decide) (vP 0) (by rfl) B.isinstance_ (by rfl) B.bool_ PyProof.Rows.boot_bool)))))))
theorem z8 (D:Dg K mg "_law_stay" (top 38) ["_law_script", "_law_at", "_law_turn", "_law_mode", "_law_now_here"]) (B:Bl mg) (h_law_part:Has P w K mg base n "_law_part" ["_law_script", "_law_at", "_law_k", "_law_many"] (spD K bA)):Has P w K mg base (n + 1) "_law_stay" ["_law_script", "_law_at", "_law_turn", "_law_mode", "_law_now_here"] (spD K gF):=by
 have sc:FnScope ["_law_script", "_law_at", "_law_turn", "_law_mode", "_law_now_here", "_law_first", "_law_long"] ["_law_script", "_law_at", "_law_turn", "_law_mode", "_law_now_here"] (bG (top 38)):=fsc
 exact f9 (fl:=[.A,.A,.A,.A,.A,.A,.A]) D sc (by decide) (by decide) fun f cdv A outer s H E hr=>aZ (sA (i:=5) sc.nd (d9 (eV (q_ rfl) yU (by rfl) B.min_ PyProof.Rows.boot_min (dq iP (dq (bC (dG gR jw (vP 4) (gj (bH h_law_part hr (dq (vP 0) (dq (vP 1) (dq (vP 2) (dq (dY (dx (fQ (d9 (iz (dq iC (dq iC (dq iC (dq iC dz))))))) (vP 3))) dz)))))))) dz)))))
  (aZ (sA (i:=6) sc.nd (d9 (dG gR jw iP (gj (bH h_law_part hr (dq (vP 0) (dq (vP 1) (dq (bC (dG gR jw (vP 2) iP)) (dq (dY (dx (fQ (d9 (iz (dq iC (dq iC (dq iC (dq iC dz))))))) (gj (bH h_law_part hr (dq (vP 0) (dq (vP 1) (dq (bC (dG gR jw (vP 2) iP)) (dq iP dz)))))))) dz)))))))))
  (aY (cB (uH rfl (dq (cM (ji (vP 5))) (dq (cM (eV (q_ rfl) yU (by rfl) B.min_ PyProof.Rows.boot_min (dq iP (dq (bC (dG gR jw (vP 5) (vP 6))) dz)))) (dq (cM (sJ)) dz)))))))
theorem xG (D:Dg K mg "_law_guest" (top 39) ["_law_script", "_law_at", "_law_turn", "_law_now_here", "_law_room"]) (B:Bl mg) (h_law_part:Has P w K mg base n "_law_part" ["_law_script", "_law_at", "_law_k", "_law_many"] (spD K bA)):Has P w K mg base (n + 1) "_law_guest" ["_law_script", "_law_at", "_law_turn", "_law_now_here", "_law_room"] (spD K ig):=by
 have sc:FnScope ["_law_script", "_law_at", "_law_turn", "_law_now_here", "_law_room", "_law_first", "_law_more"] ["_law_script", "_law_at", "_law_turn", "_law_now_here", "_law_room"] (bG (top 39)):=fsc
 exact f9 (fl:=[.A,.A,.A,.A,.A,.A,.A]) D sc (by decide) (by decide) fun f cdv A outer s H E hr=>aZ (sA (i:=5) sc.nd (d9 (eV (uD rfl) CQ (by rfl) B.max_ PyProof.Rows.boot_max (dq iP (dq (bC (dG Cj Jl (vP 3) (gj (bH h_law_part hr (dq (vP 0) (dq (vP 1) (dq (vP 2) (dq iP dz)))))))) dz)))))
  (aZ (sA (i:=6) sc.nd (jd (bH h_law_part hr (dq (vP 0) (dq (vP 1) (dq (bC (dG gR jw (vP 2) iP)) (dq (dY (dx (fQ (d9 (iz (dq iC (dq iC (dq iC dz)))))) (gj (bH h_law_part hr (dq (vP 0) (dq (vP 1) (dq (bC (dG gR jw (vP 2) iP)) (dq iP dz)))))))) dz)))))))
  (aY (cB (uH rfl (dq (cM (ji (vP 5))) (dq (cM (eV (q_ rfl) yU (by rfl) B.min_ PyProof.Rows.boot_min (dq iP (dq (bC (dG gR jw (bC (dG gR jw (vP 3) iP)) (vP 6))) dz)))) (dq (cM (ji (vP 4))) dz)))))))
theorem z9 (D:Dg K mg "_law_full" (top 40) ["_law_stays_here", "_law_rooms", "_law_now_here"]) (B:Bl mg):Has P w K mg base (n + 1) "_law_full" ["_law_stays_here", "_law_rooms", "_law_now_here"] (spD K gG):=by
 have sc:FnScope ["_law_stays_here", "_law_rooms", "_law_now_here", "_law_night"] ["_law_stays_here", "_law_rooms", "_law_now_here"] (bG (top 40)):=fsc
 exact f9 (fl:=[.A,.A,.A,.A]) D sc (by decide) (by decide) fun f cdv A outer s H E hr=>aZ (jB (L:=[]) PassesOwn.never rfl (fV (fQ (d9 (uI (dq (xY (qH (fQ (kh (jE (dq (vA 2) dz)))) (fQ (d9 (lg (L:=[]) (fl':=[.A,.A]) rfl ["_law_one"] ["_law_now_here"] [2] (fV (vB 0)) (fun _ _ _ _ _=>gN' (i:=0) (show (["_law_one", "_law_now_here"]:List Str).Nodup by decide +kernel)) (fun _ _ _ _ _=>mY) (fun _ _ _ _ _=>i_ (eV (uD rfl) CQ (by rfl) B.max_ PyProof.Rows.boot_max (dq (vP 1) (dq (dY (dx (vB 0) iP)) dz))))))))) dz) (by rfl) B.sorted_)))) (gN' (i:=3) sc.nd) (aY (fK (cZ vD Cz (bC (eV cI jU (by rfl) B.len_ PySem.boot_len (dq (bC (lg (L:=[]) (fl':=[.A,.A]) rfl ["_law_one"] ["_law_night"] [3] (fV (vB 0)) (fun _ _ _ _ _=>gN' (i:=0) (show (["_law_one", "_law_night"]:List Str).Nodup by decide +kernel)) (fun _ _ _ _ _=>nR (tW (pF (cZ rW wU (dY (dx (vB 0) iP)) (vP 1) (cG _)) (pD (cZ kO b_lt (vP 1) (dY (dx (vB 0) iP)) (cG _)))))) (fun _ _ _ _ _=>i_ (ji (vP 0))))) dz))) (vP 1) (cG _)) (aY (cB (cM (ji (vP 3))))) (dg))))
  (aY (cB (cM (sJ))))
theorem B_ (D:Dg K mg "_law_now" (top 41) ["_law_script"]) (B:Bl mg) (h_law_part:Has P w K mg base n "_law_part" ["_law_script", "_law_at", "_law_k", "_law_many"] (spD K bA)):Has P w K mg base (n + 1) "_law_now" ["_law_script"] (spD K j8):=by
 have sc:FnScope ["_law_script"] ["_law_script"] (bG (top 41)):=fsc
 exact f9 (fl:=[.A]) D sc (by decide) (by decide) fun f cdv A outer s H E hr=>aY (cB (cM (ji (dY (dx (fQ (d9 (iz (dq iC (dq (bH h_law_part hr (dq (vP 0) (dq iP (dq iP (dq iP dz))))) (dq (bH h_law_part hr (dq (vP 0) (dq iP (dq iP (dq iP dz))))) (dq iC dz))))))) (gj (bH h_law_part hr (dq (vP 0) (dq iP (dq iP (dq iP dz)))))))))))
theorem xH (D:Dg K mg "_law_stays" (top 42) ["_law_script", "_law_rooms", "_law_now_here", "_law_most"]) (B:Bl mg) (h_law_part:Has P w K mg base n "_law_part" ["_law_script", "_law_at", "_law_k", "_law_many"] (spD K bA)) (h_law_stay:Has P w K mg base n "_law_stay" ["_law_script", "_law_at", "_law_turn", "_law_mode", "_law_now_here"] (spD K gF)) (h_law_guest:Has P w K mg base n "_law_guest" ["_law_script", "_law_at", "_law_turn", "_law_now_here", "_law_room"] (spD K ig)) (h_law_full:Has P w K mg base n "_law_full" ["_law_stays_here", "_law_rooms", "_law_now_here"] (spD K gG)):Has P w K mg base (n + 1) "_law_stays" ["_law_script", "_law_rooms", "_law_now_here", "_law_most"] (spD K iQ):=by
 have sc:FnScope ["_law_script", "_law_rooms", "_law_now_here", "_law_most", "_law_mode", "_law_stays_here", "_law_room", "_law_at", "_law_wide", "_law_k", "_law_new"] ["_law_script", "_law_rooms", "_law_now_here", "_law_most"] (bG (top 42)):=fsc
 exact f9 (fl:=[.A,.A,.A,.A,.A,.O,.A,.A,.A,.A,.A]) D sc (by decide) (by decide) fun f cdv A outer s H E hr=>aZ (sA (i:=4) sc.nd (jd (bH h_law_part hr (dq (vP 0) (dq iP (dq iP (dq iP dz)))))))
  (aZ (tR (i:=5) rfl sc.nd rfl (by first | exact Or.inl rfl | exact Or.inr rfl) (yQ (iz dz)))
  (aZ (jB (L:=[]) PassesOwn.never rfl (jN (by rfl) B.range_ (tV (dq (vP 1) dz))) (gN' (i:=6) sc.nd) (aY (fK (tW (pF (cZ (jA hr.units) qu (gj (bH h_law_part hr (dq (vP 0) (dq iP (dq (vP 6) (dq iP dz)))))) iP (cG _)) (pD (cZ kO b_lt (bC (eV cI jU (by rfl) B.len_ PySem.boot_len (dq (xX (sI 5)) dz))) (vP 3) (cG _))))) (aZ (sA (i:=7) sc.nd (jd (bH h_law_part hr (dq (vP 0) (dq iP (dq (bC (dG gR jw iP (vP 6))) (dq (bC (dG gR jw (bC (eV cI jU (by rfl) B.len_ PySem.boot_len (dq (xX (sI 5)) dz))) iP)) dz)))))))
  (aY (CZ (i:=5) rfl (vP 7) (jd (bH h_law_guest hr (dq (vP 0) (dq iP (dq (bC (dG kZ qt iP (vP 6))) (dq (vP 2) (dq (vP 6) dz))))))) rfl))) (dg))))
  (aZ (sA (i:=8) sc.nd (d9 (j6 (jA hr.units) qu (gj (bH h_law_part hr (dq (vP 0) (dq iP (dq iP (dq iP dz)))))) iP (cG _))))
  (aZ (jB (L:=[]) PassesOwn.never rfl (jN (by rfl) B.range_ (tV (dq (dY (dx (fQ (d9 (iz (dq iC (dq iC dz))))) (bC (Ep (dq (vP 8) dz) (by rfl) B.int_)))) dz))) (gN' (i:=9) sc.nd) (aZ (sA (i:=10) sc.nd (jd (bH h_law_stay hr (dq (vP 0) (dq (bC (dG gR jw iP (vP 9))) (dq iP (dq (vP 4) (dq (vP 2) dz))))))))
  (aZ (sA (i:=7) sc.nd (jd (bH h_law_part hr (dq (vP 0) (dq iP (dq (vP 9) (dq (bC (dG gR jw (bC (eV cI jU (by rfl) B.len_ PySem.boot_len (dq (xX (sI 5)) dz))) iP)) dz)))))))
  (aY (fK (tW (pF (cZ kO b_lt (bC (eV cI jU (by rfl) B.len_ PySem.boot_len (dq (xX (sI 5)) dz))) (vP 3) (cG _)) (pD (yX (gj (bH h_law_full hr (dq (xY (qH (sI 5) (fQ (kh (jE (dq (vA 10) dz)))))) (dq (vP 1) (dq (vP 2) dz))))))))) (aY (CZ (i:=5) rfl (vP 7) (vA 10) rfl)) (dg))))))
  (aY (cB (uW 5 (by decide))))))))
theorem xJ (D:Dg K mg "_law_begin" (top 43) ["_law_stays_here", "_law_now_here", "_law_room"]) (B:Bl mg):Has P w K mg base (n + 1) "_law_begin" ["_law_stays_here", "_law_now_here", "_law_room"] (spD K dR):=by
 have sc:FnScope ["_law_stays_here", "_law_now_here", "_law_room", "_law_first", "_law_behind", "_law_held"] ["_law_stays_here", "_law_now_here", "_law_room"] (bG (top 43)):=fsc
 exact f9 (fl:=[.A,.A,.A,.A,.A,.A]) D sc (by decide) (by decide) fun f cdv A outer s H E hr=>aZ (jB (L:=[]) PassesOwn.never rfl (fV (vB 0)) (vV rfl (jy (gN' (i:=3) sc.nd) (jy (gN' (i:=4) sc.nd) (jy (gN' (i:=5) sc.nd) (tU))))) (aY (fK (tW (pF (tX (vP 5)) (pD (cZ (jA hr.units) qu (vP 5) (vP 2) (cG _))))) (aY (cB (cM (ji (vP 4))))) (dg))))
  (aY (cB (cM (ji (vP 1)))))
theorem z_ (D:Dg K mg "_law_next" (top 44) ["_law_stays_here", "_law_rooms", "_law_who", "_law_night"]) (B:Bl mg):Has P w K mg base (n + 1) "_law_next" ["_law_stays_here", "_law_rooms", "_law_who", "_law_night"] (spD K iT):=by
 have sc:FnScope ["_law_stays_here", "_law_rooms", "_law_who", "_law_night", "_law_found", "_law_k", "_law_first", "_law_behind", "_law_held"] ["_law_stays_here", "_law_rooms", "_law_who", "_law_night"] (bG (top 44)):=fsc
 exact f9 (fl:=[.A,.A,.A,.A,.O,.A,.A,.A,.A]) D sc (by decide) (by decide) fun f cdv A outer s H E hr=>aZ (tR (i:=4) rfl sc.nd rfl (by first | exact Or.inl rfl | exact Or.inr rfl) (yQ (iz dz)))
  (aZ (fK (cZ kO b_lt (bC (eV cI jU (by rfl) B.len_ PySem.boot_len (dq (bC (lg (L:=[]) (fl':=[.A,.A]) rfl ["_law_one"] ["_law_night"] [3] (fV (vB 0)) (fun _ _ _ _ _=>gN' (i:=0) (show (["_law_one", "_law_night"]:List Str).Nodup by decide +kernel)) (fun _ _ _ _ _=>nR (tW (pF (cZ rW wU (dY (dx (vB 0) iP)) (vP 1) (cG _)) (pD (cZ kO b_lt (vP 1) (dY (dx (vB 0) iP)) (cG _)))))) (fun _ _ _ _ _=>i_ (ji (vP 0))))) dz))) (vP 1) (cG _)) (aY (rB (i:=4) rfl (d9 (dG gR jw (vP 3) iP)) rfl)) (dg))
  (aZ (jB (L:=[]) PassesOwn.never rfl (jN (by rfl) B.range_ (tV (dq (bC (eV cI jU (by rfl) B.len_ PySem.boot_len (dq (vP 0) dz))) dz))) (gN' (i:=5) sc.nd) (aZ (Rf (dx (vB 0) (vP 5)) (vV rfl (jy (gN' (i:=6) sc.nd) (jy (gN' (i:=7) sc.nd) (jy (gN' (i:=8) sc.nd) (tU))))))
  (aY (fK (tW (pF (cZ (Cq hr.units) Rc (vP 5) (vP 2) (cG _)) (pF (yX (vP 8)) (pF (cZ (jA hr.units) qu (vP 6) (vP 3) (cG _)) (pD (cZ rW wU (vP 7) (dY (dx (fQ (dx (vB 0) (vP 2))) iP)) (cG _))))))) (aY (rB (i:=4) rfl (vA 7) rfl)) (dg)))))
  (aY (cB (uW 4 (by decide))))))
theorem wK (D:Dg K mg "_law_rising" (top 45) ["_law_thing"]) (B:Bl mg) (h_law_whole:Has P w K mg base n "_law_whole" ["_law_found"] (spD K fL)):Has P w K mg base (n + 1) "_law_rising" ["_law_thing"] (spD K cJ):=by
 have sc:FnScope ["_law_thing"] ["_law_thing"] (bG (top 45)):=fsc
 exact f9 (fl:=[.A]) D sc (by decide) (by decide) fun f cdv A outer s H E hr=>aZ (fK (tW (qx (mL (lK (bC (oJ (T := "list") (by decide) (vP 0) (by rfl) B.isinstance_ (by rfl) B.list_ PyProof.Rows.boot_list)))) (sO (mL (lK (bC (eV (rD rfl) yd (by rfl) B.all_ (show bootBuiltins "all" = some (.builtin "all") by decide +kernel) (dq (bC (lg (L:=[]) (fl':=[.A]) rfl ["_law_one"] [] [] (fV (vB 0)) (fun _ _ _ _ _=>gN' (i:=0) (show (["_law_one"]:List Str).Nodup by decide +kernel)) (fun _ _ _ _ _=>mY) (fun _ _ _ _ _=>bH h_law_whole hr (dq (vP 0) dz)))) dz)))))))) (aY (cB (cM (nW)))) (dg))
  (aY (cB (cM (eV (rD rfl) yd (by rfl) B.all_ (show bootBuiltins "all" = some (.builtin "all") by decide +kernel) (dq (bC (lg (L:=[]) (fl':=[.A,.A]) rfl ["_law_k"] ["_law_thing"] [0] (jN (by rfl) B.range_ (tV (dq (bC (dG Cj Jl (bC (eV cI jU (by rfl) B.len_ PySem.boot_len (dq (vP 0) dz))) iP)) dz))) (fun _ _ _ _ _=>gN' (i:=0) (show (["_law_k", "_law_thing"]:List Str).Nodup by decide +kernel)) (fun _ _ _ _ _=>mY) (fun _ _ _ _ _=>i_ (j6 kO b_lt (dY (dx (vB 1) (vP 0))) (dY (dx (vB 1) (bC (dG gR jw (vP 0) iP)))) (cG _))))) dz)))))
theorem Aa (D:Dg K mg "_law_shut" (top 46) ["_law_stays_here", "_law_rooms", "_law_now_here", "_law_who", "_law_room", "_law_thing"]) (B:Bl mg) (h_law_begin:Has P w K mg base n "_law_begin" ["_law_stays_here", "_law_now_here", "_law_room"] (spD K dR)) (h_law_next:Has P w K mg base n "_law_next" ["_law_stays_here", "_law_rooms", "_law_who", "_law_night"] (spD K iT)) (h_law_rising:Has P w K mg base n "_law_rising" ["_law_thing"] (spD K cJ)):Has P w K mg base (n + 1) "_law_shut" ["_law_stays_here", "_law_rooms", "_law_now_here", "_law_who", "_law_room", "_law_thing"] (spD K jf):=by
 have sc:FnScope ["_law_stays_here", "_law_rooms", "_law_now_here", "_law_who", "_law_room", "_law_thing", "_law_begin_here", "_law_goal", "_law_night", "_law_there"] ["_law_stays_here", "_law_rooms", "_law_now_here", "_law_who", "_law_room", "_law_thing"] (bG (top 46)):=fsc
 exact f9 (fl:=[.A,.A,.A,.A,.A,.A,.A,.A,.A,.A]) D sc (by decide) (by decide) fun f cdv A outer s H E hr=>aZ (sA (i:=6) sc.nd (jd (bH h_law_begin hr (dq (vP 0) (dq (vP 2) (dq (vP 4) dz))))))
  (aZ (sA (i:=7) sc.nd (dx (fQ (dx (vB 0) (vP 3))) iP))
  (aZ (fK (mL (lK (gj (bH h_law_rising hr (dq (vP 5) dz))))) (aY (cB (cM (nW)))) (dg))
  (aZ (fK (cZ vD Cz (vP 6) (vP 7) (cG _)) (aY (cB (cM (j6 (jA hr.units) qu (vP 5) (bC (iz dz)) (cG _))))) (dg))
  (aZ (fK (tW (qx (cZ (rE hr.units) vd (vP 6) (vP 5) (by with_unfolding_all rfl)) (qx (cZ (RD hr.units) Xi (vP 7) (vP 5) (by with_unfolding_all rfl)) (qx (cZ kO b_lt (dY (dx (vB 5) iP)) (vP 6) (cG _)) (sO (cZ vD Cz (dY (dx (vB 5) (bC (Ju iP)))) (vP 7) (cG _))))))) (aY (cB (cM (nW)))) (dg))
  (aZ (jB (L:=[]) PassesOwn.never rfl (fV (vB 5)) (gN' (i:=8) sc.nd) (aY (jB (L:=[]) PassesOwn.never rfl (fV (fQ (jd (bH h_law_next hr (dq (vP 0) (dq (vP 1) (dq (vP 3) (dq (vP 8) dz)))))))) (gN' (i:=9) sc.nd) (aY (fK (cZ (rE hr.units) vd (vP 9) (vP 5) (by with_unfolding_all rfl)) (aY (cB (cM (nW)))) (dg))))))
  (aY (cB (cM (nW)))))))))
theorem wL (D:Dg K mg "_law_closed" (top 47) ["_law_stays_here", "_law_rooms", "_law_who", "_law_some"]) (B:Bl mg) (h_law_next:Has P w K mg base n "_law_next" ["_law_stays_here", "_law_rooms", "_law_who", "_law_night"] (spD K iT)):Has P w K mg base (n + 1) "_law_closed" ["_law_stays_here", "_law_rooms", "_law_who", "_law_some"] (spD K fH):=by
 have sc:FnScope ["_law_stays_here", "_law_rooms", "_law_who", "_law_some", "_law_found", "_law_night", "_law_there"] ["_law_stays_here", "_law_rooms", "_law_who", "_law_some"] (bG (top 47)):=fsc
 exact f9 (fl:=[.A,.A,.A,.A,.N,.A,.A]) D sc (by decide) (by decide) fun f cdv A outer s H E hr=>aZ (Er (i:=4) rfl sc.nd rfl (by first | exact Or.inl rfl | exact Or.inr rfl) (yZ))
  (aZ (jB (L:=[]) PassesOwn.never rfl (fV (vB 3)) (gN' (i:=5) sc.nd) (aY (XB.zJ (XK.hu1 hr.units) (i:=4) rfl DX (vP 5) rfl)))
  (aZ (jB (L:=[]) PassesOwn.never rfl (jN (by rfl) B.range_ (tV (dq (dY (dx (fQ (dx (vB 0) (vP 2))) iP)) dz))) (gN' (i:=5) sc.nd) (aY (fK (cZ (XB.Kh hr.units) XB.Qd (vP 5) (zc 4 rfl) (by with_unfolding_all rfl)) (aY (jB (L:=[]) PassesOwn.never rfl (fV (fQ (jd (bH h_law_next hr (dq (vP 0) (dq (vP 1) (dq (vP 2) (dq (vP 5) dz)))))))) (gN' (i:=6) sc.nd) (aY (XB.zJ (XK.hu1 hr.units) (i:=4) rfl DX (vP 6) rfl)))) (dg))))
  (aY (cB (cM (XB.Kp rfl (dq (zc 4 rfl) dz) (by rfl) B.sorted_))))))
theorem wM (D:Dg K mg "_law_spoilt" (top 48) ["_law_script", "_law_nights", "_law_goal"]) (B:Bl mg) (h_law_part:Has P w K mg base n "_law_part" ["_law_script", "_law_at", "_law_k", "_law_many"] (spD K bA)):Has P w K mg base (n + 1) "_law_spoilt" ["_law_script", "_law_nights", "_law_goal"] (spL K dJ):=by
 have sc:FnScope ["_law_script", "_law_nights", "_law_goal", "_law_way", "_law_found", "_law_odd", "_law_at"] ["_law_script", "_law_nights", "_law_goal"] (bG (top 48)):=fsc
 exact RG (fl:=[.A,.A,.A,.A,.O,.A,.A]) D sc (by decide) (by decide) fun f cdv A outer s H E hr=>aZ (sA (i:=3) sc.nd (jd (bH h_law_part hr (dq (vP 0) (dq iP (dq iP (dq iP dz)))))))
  (aZ (tR (i:=4) rfl sc.nd rfl (by first | exact Or.inl rfl | exact Or.inr rfl) (yV (vB 1) (by rfl) B.list_))
  (aZ (fK (tW (qx (cZ (jA hr.units) qu (vP 3) iP (cG _)) (sO (cZ (jA hr.units) qu (vP 1) (bC (iz dz)) (cG _))))) (aZ (sA (i:=5) sc.nd (kh (jE (dq (d9 (sJ)) (dq (Nj (vB 1) (by rfl) B.tuple_) (dq (d9 (iz dz)) (dq (d9 (Cy)) (dq (jd (Vg (yZ))) (dq (d9 (yR)) (dq (d9 (iz (dq (i_ (sJ)) dz))) (dq (kh (jE (dq (vA 1) dz))) (dq (kh (qH (vB 1) (fQ (d9 (iz (dq (i_ (nW)) dz)))))) (dq (kh (qH (vB 1) (fQ (d9 (iz (dq (i_ (Cy)) dz)))))) dz)))))))))))))
  (aY (Ew (dY (dx (vB 5) (gj (bH h_law_part hr (dq (vP 0) (dq iP (dq iP (dq iP dz))))))))))) (dg))
  (aZ (sA (i:=6) sc.nd (jd (bH h_law_part hr (dq (vP 0) (dq iP (dq iP (dq (bC (eV cI jU (by rfl) B.len_ PySem.boot_len (dq (vP 1) dz))) dz)))))))
  (aZ (fK (cZ kO b_lt (vP 3) iP (cG _)) (aY (Ng (i:=4) rfl (vP 6) rfl)) (aY (fK (cZ (jA hr.units) qu (vP 3) iP (cG _)) (aY (CZ (i:=4) rfl (vP 6) (dx (vB 1) (vP 6)) rfl)) (aY (fK (cZ (jA hr.units) qu (vP 3) iP (cG _)) (aY (Rx (i:=4) rfl rfl)) (aY (fK (cZ (jA hr.units) qu (vP 3) iP (cG _)) (aY (Jm (i:=4) rfl (dx (fQ (kh (jE (dq (d9 (sJ)) (dq (d9 (nW)) (dq (d9 (Cy)) (dq (uH rfl (dq (dx (vB 1) (vP 6)) dz)) (dq (d9 (Ju iP)) (dq (d9 (yR)) dz))))))))) (gj (bH h_law_part hr (dq (vP 0) (dq iP (dq iP (dq iP dz))))))) (vP 6) rfl)) (aY (fK (cZ (jA hr.units) qu (vP 3) iP (cG _)) (aY (rB (i:=4) rfl (vA 2) rfl)) (aY (tR (i:=4) rfl sc.nd rfl (by first | exact Or.inl rfl | exact Or.inr rfl) (yQ (uI (dq (xY (qH (sI 4) (fQ (d9 (iz (dq (bH h_law_part hr (dq (vP 0) (dq iP (dq iP (dq iP dz))))) dz)))))) dz) (by rfl) B.sorted_)))))))))))))
  (aY (Ew (xX (sI 4))))))))
theorem Ab (D:Dg K mg "_law_told" (top 49) ["_law_stays_here", "_law_rooms", "_law_now_here", "_law_who", "_law_room", "_law_thing"]) (B:Bl mg) (his_shut:Has P w K mg base n "is_shut" ["stays", "rooms", "now", "who", "room", "thing"] (spD K kE)) (h_law_shut:Has P w K mg base n "_law_shut" ["_law_stays_here", "_law_rooms", "_law_now_here", "_law_who", "_law_room", "_law_thing"] (spD K jf)):Has P w K mg base (n + 1) "_law_told" ["_law_stays_here", "_law_rooms", "_law_now_here", "_law_who", "_law_room", "_law_thing"] (spD K jg):=by
 have sc:FnScope ["_law_stays_here", "_law_rooms", "_law_now_here", "_law_who", "_law_room", "_law_thing", "_law_due", "_law_kept", "_law_handed", "_law_found"] ["_law_stays_here", "_law_rooms", "_law_now_here", "_law_who", "_law_room", "_law_thing"] (bG (top 49)):=fsc
 exact f9 (fl:=[.A,.A,.A,.A,.A,.A,.A,.A,.A,.A]) D sc (by decide) (by decide) fun f cdv A outer s H E hr=>aZ (sA (i:=6) sc.nd (jd (bH h_law_shut hr (dq (vP 0) (dq (vP 1) (dq (vP 2) (dq (vP 3) (dq (vP 4) (dq (vP 5) dz)))))))))
  (aZ (sA (i:=7) sc.nd (vA 5))
  (aZ (fK (lK (bC (oJ (T := "list") (by decide) (vP 5) (by rfl) B.isinstance_ (by rfl) B.list_ PyProof.Rows.boot_list))) (aY (sA (i:=7) sc.nd (kh (yV (vB 5) (by rfl) B.list_)))) (dg))
  (aZ (sA (i:=8) sc.nd (kh (yV (vB 0) (by rfl) B.list_)))
  (aZ (sA (i:=9) sc.nd (jd (bH his_shut hr (dq (vP 8) (dq (vP 1) (dq (vP 2) (dq (vP 3) (dq (vP 4) (dq (vP 5) dz)))))))))
  (aY (cB (cM (k_ (bC (oJ (T := "bool") (by decide) (vP 9) (by rfl) B.isinstance_ (by rfl) B.bool_ PyProof.Rows.boot_bool)) (k_ (bC (j6 (Dc hr.units) JL (vP 9) (vP 6) (cG _))) (k_ (bC (j6 (Dc hr.units) JL (vP 8) (vP 0) (cG _))) (qw (j6 (Dc hr.units) JL (vP 5) (vP 7) (cG _)))))))))))))
theorem Uh {f:Addr} {fd:FuncData} (Fn:FunD K "law" (top 50) f fd) (B:Bl mg) (h_law_part:Has P w K mg base n "_law_part" ["_law_script", "_law_at", "_law_k", "_law_many"] (spD K bA)) (h_law_now:Has P w K mg base n "_law_now" ["_law_script"] (spD K j8)) (h_law_stays:Has P w K mg base n "_law_stays" ["_law_script", "_law_rooms", "_law_now_here", "_law_most"] (spD K iQ)) (h_law_begin:Has P w K mg base n "_law_begin" ["_law_stays_here", "_law_now_here", "_law_room"] (spD K dR)) (h_law_closed:Has P w K mg base n "_law_closed" ["_law_stays_here", "_law_rooms", "_law_who", "_law_some"] (spD K fH)) (h_law_spoilt:Has P w K mg base n "_law_spoilt" ["_law_script", "_law_nights", "_law_goal"] (spL K dJ)) (h_law_told:Has P w K mg base n "_law_told" ["_law_stays_here", "_law_rooms", "_law_now_here", "_law_who", "_law_room", "_law_thing"] (spD K jg)):FnOk P w K mg base CX0 (n + 1) f fd ["_law_script"] (spD K K5):=by
 have sc:FnScope ["_law_script", "_law_rooms", "_law_now_here", "_law_stays_here", "_law_some", "_law_turn", "_law_who", "_law_room", "_law_begin_here", "_law_goal", "_law_beside", "_law_least", "_law_more", "_law_nights", "_law_thing"] ["_law_script"] (bG (top 50)):=fsc
 exact Jx (fl:=[.A,.A,.A,.A,.A,.A,.A,.A,.A,.A,.A,.A,.A,.A,.A]) Fn sc (by decide) (by decide) fun f cdv A outer s H E hr=>aZ (sA (i:=1) sc.nd (d9 (dG gR jw iP (gj (bH h_law_part hr (dq (vP 0) (dq iP (dq iP (dq (dY (dx (fQ (d9 (iz (dq iC (dq iC dz))))) (bC (Ep (dq (bC (j6 (jA hr.units) qu (gj (bH h_law_part hr (dq (vP 0) (dq iP (dq iP (dq iP dz)))))) iP (cG _))) dz) (by rfl) B.int_)))) dz)))))))))
  (aZ (sA (i:=2) sc.nd (jd (bH h_law_now hr (dq (vP 0) dz))))
  (aZ (sA (i:=3) sc.nd (jd (bH h_law_stays hr (dq (vP 0) (dq (vP 1) (dq (vP 2) (dq iP dz)))))))
  (aZ (qz (i:=4) (L:=[]) (fl':=[.A,.A]) rfl sc.nd rfl rfl rfl ["_law_k"] ["_law_stays_here"] [3] (jN (by rfl) B.range_ (tV (dq (bC (eV cI jU (by rfl) B.len_ PySem.boot_len (dq (vP 3) dz))) dz))) (fun _ _ _ _ _=>gN' (i:=0) (show (["_law_k", "_law_stays_here"]:List Str).Nodup by decide +kernel)) (fun _ _ _ _ _=>nR (yX (dY (dx (fQ (dx (vB 1) (vP 0))) iP)))) (fun _ _ _ _ _=>i_ (ji (vP 0))))
  (aZ (jB (L:=[]) PassesOwn.never rfl (jN (by rfl) B.range_ (tV (dq (bC (eV (q_ rfl) yU (by rfl) B.min_ PyProof.Rows.boot_min (dq iP (dq (bC (eV cI jU (by rfl) B.len_ PySem.boot_len (dq (vP 4) dz))) dz)))) dz))) (gN' (i:=5) sc.nd) (aZ (sA (i:=6) sc.nd (dx (vB 4) (gj (bH h_law_part hr (dq (vP 0) (dq iP (dq (bC (dG kZ qt iP (vP 5))) (dq (bC (eV cI jU (by rfl) B.len_ PySem.boot_len (dq (vP 4) dz))) dz))))))))
  (aZ (sA (i:=7) sc.nd (jd (bH h_law_part hr (dq (vP 0) (dq iP (dq (bC (dG gR jw (bC (dG kZ qt iP (vP 5))) iP)) (dq (vP 1) dz)))))))
  (aZ (sA (i:=8) sc.nd (jd (bH h_law_begin hr (dq (vP 3) (dq (vP 2) (dq (vP 7) dz))))))
  (aZ (sA (i:=9) sc.nd (dx (fQ (dx (vB 3) (vP 6))) iP))
  (aZ (qz (i:=10) (L:=[]) (fl':=[.A,.A,.A,.A]) rfl sc.nd rfl rfl rfl ["_law_k"] ["_law_begin_here", "_law_script", "_law_goal"] [8,0,9] (jN (by rfl) B.range_ (tV (dq (gj (bH h_law_part hr (dq (vP 0) (dq iP (dq iP (dq iP dz)))))) dz))) (fun _ _ _ _ _=>gN' (i:=0) (show (["_law_k", "_law_begin_here", "_law_script", "_law_goal"]:List Str).Nodup by decide +kernel)) (fun _ _ _ _ _=>mY) (fun _ _ _ _ _=>i_ (dG gR jw (vP 1) (gj (bH h_law_part hr (dq (vP 2) (dq iP (dq (vP 0) (dq (bC (eV (uD rfl) CQ (by rfl) B.max_ PyProof.Rows.boot_max (dq iP (dq (bC (dG Cj Jl (vP 3) (vP 1))) dz)))) dz)))))))))
  (aZ (qz (i:=11) (L:=[]) (fl':=[.A,.A]) rfl sc.nd rfl rfl rfl ["_law_night"] ["_law_goal"] [9] (fV (fQ (jd (bH h_law_closed hr (dq (vP 3) (dq (vP 1) (dq (vP 6) (dq (xY (jE (dq (vA 8) dz))) dz)))))))) (fun _ _ _ _ _=>gN' (i:=0) (show (["_law_night", "_law_goal"]:List Str).Nodup by decide +kernel)) (fun _ _ _ _ _=>nR (cZ kO b_lt (vP 0) (vP 1) (cG _))) (fun _ _ _ _ _=>i_ (ji (vP 0))))
  (aZ (qz (i:=12) (L:=[]) (fl':=[.A,.A]) rfl sc.nd rfl rfl rfl ["_law_night"] ["_law_goal"] [9] (fV (fQ (jd (bH h_law_closed hr (dq (vP 3) (dq (vP 1) (dq (vP 6) (dq (xY (qH (fQ (kh (jE (dq (vA 8) dz)))) (vB 10))) dz)))))))) (fun _ _ _ _ _=>gN' (i:=0) (show (["_law_night", "_law_goal"]:List Str).Nodup by decide +kernel)) (fun _ _ _ _ _=>nR (cZ kO b_lt (vP 0) (vP 1) (cG _))) (fun _ _ _ _ _=>i_ (ji (vP 0))))
  (aZ (sA (i:=13) sc.nd (d9 (XU.Dm rfl (dq (xY (qH (vB 10) (fQ (kh (jE (dq (vA 8) dz)))))) dz) (by rfl) B.sorted_ (by rfl) B.set_)))
  (aY (jB (L:=[]) PassesOwn.never rfl (fV (fQ (kh (jE (dq (vA 11) (dq (vA 12) (dq (Xj rfl (JM h_law_spoilt hr (dq (vP 0) (dq (vP 12) (dq (vP 9) dz))))) (dq (d9 (iz dz)) (dq (kh (jE (dq (vA 8) dz))) (dq (kh (jE (dq (vA 9) dz))) (dq (kh (jE (dq (vA 2) dz))) (dq (vA 13) (dq (vA 11) dz))))))))))))) (gN' (i:=14) sc.nd) (aY (fK (mL (lK (gj (bH h_law_told hr (dq (vP 3) (dq (vP 1) (dq (vP 2) (dq (vP 6) (dq (vP 7) (dq (vP 14) dz)))))))))) (aY (cB (cM (nW)))) (dg))))))))))))))
  (aY (cB (cM (nW))))))))
end
end K43
namespace D3
theorem len0 {p:List PySem.Value→Prop} (h:p []):∀ us,us.length=0→p us:=fun us hl=>by
 cases us with
 | nil=>exact h
 | cons _ _=>cases hl
theorem cj {n:Nat} {p:List PySem.Value→Prop} (h:∀ a us,us.length=n→p (a :: us)):∀ us,us.length=n + 1→p us:=fun us hl=>by
 cases us with
 | nil=>cases hl
 | cons a r=>exact h a r (Nat.succ.inj hl)
end D3
namespace K43
open PySem L2 My D3
structure Txt (K:PySem.W.Frag) (mg:Str→Option Value):Prop where
 d_is_whole:Dg K mg "is_whole" (top 7) ["thing"]
 d_all_whole:Dg K mg "all_whole" (top 8) ["things"]
 d_is_tuple_of:Dg K mg "is_tuple_of" (top 9) ["thing", "many"]
 d_is_pair:Dg K mg "is_pair" (top 10) ["thing"]
 d_is_whole_list:Dg K mg "is_whole_list" (top 11) ["thing"]
 d_is_rising:Dg K mg "is_rising" (top 12) ["numbers"]
 d_is_stretch:Dg K mg "is_stretch" (top 15) ["thing"]
 d_nights_of:Dg K mg "nights_of" (top 16) ["stay"]
 d_holds:Dg K mg "holds" (top 17) ["stretch", "night"]
 d_count_at:Dg K mg "count_at" (top 18) ["stretches", "night"]
 d_firsts:Dg K mg "firsts" (top 19) ["stretches"]
 d_fuller:Dg K mg "fuller" (top 20) ["stretches", "many", "since"]
 d_is_stay:Dg K mg "is_stay" (top 22) ["thing", "rooms", "now"]
 d_check_stays:Dg K mg "check_stays" (top 23) ["stays", "rooms", "now"]
 d_check_full:Dg K mg "check_full" (top 24) ["stays", "rooms", "now"]
 d_beginnings:Dg K mg "beginnings" (top 25) ["stays", "rooms", "now"]
 d_check_who:Dg K mg "check_who" (top 27) ["stays", "rooms", "now", "who"]
 d_check_room:Dg K mg "check_room" (top 28) ["rooms", "room"]
 d_is_tight:Dg K mg "is_tight" (top 29) ["stays", "rooms", "night"]
 d_goes_ahead:Dg K mg "goes_ahead" (top 30) ["stays", "who", "place", "night"]
 d_steps_from:Dg K mg "steps_from" (top 31) ["stays", "rooms", "who", "night"]
 d_is_closed:Dg K mg "is_closed" (top 32) ["stays", "rooms", "who", "nights"]
 d_is_shut:Dg K mg "is_shut" (top 33) ["stays", "rooms", "now", "who", "room", "thing"]
 d__law_cell:Dg K mg "_law_cell" (top 35) ["_law_script", "_law_at"]
 d__law_part:Dg K mg "_law_part" (top 36) ["_law_script", "_law_at", "_law_k", "_law_many"]
 d__law_whole:Dg K mg "_law_whole" (top 37) ["_law_found"]
 d__law_stay:Dg K mg "_law_stay" (top 38) ["_law_script", "_law_at", "_law_turn", "_law_mode", "_law_now_here"]
 d__law_guest:Dg K mg "_law_guest" (top 39) ["_law_script", "_law_at", "_law_turn", "_law_now_here", "_law_room"]
 d__law_full:Dg K mg "_law_full" (top 40) ["_law_stays_here", "_law_rooms", "_law_now_here"]
 d__law_now:Dg K mg "_law_now" (top 41) ["_law_script"]
 d__law_stays:Dg K mg "_law_stays" (top 42) ["_law_script", "_law_rooms", "_law_now_here", "_law_most"]
 d__law_begin:Dg K mg "_law_begin" (top 43) ["_law_stays_here", "_law_now_here", "_law_room"]
 d__law_next:Dg K mg "_law_next" (top 44) ["_law_stays_here", "_law_rooms", "_law_who", "_law_night"]
 d__law_rising:Dg K mg "_law_rising" (top 45) ["_law_thing"]
 d__law_shut:Dg K mg "_law_shut" (top 46) ["_law_stays_here", "_law_rooms", "_law_now_here", "_law_who", "_law_room", "_law_thing"]
 d__law_closed:Dg K mg "_law_closed" (top 47) ["_law_stays_here", "_law_rooms", "_law_who", "_law_some"]
 d__law_spoilt:Dg K mg "_law_spoilt" (top 48) ["_law_script", "_law_nights", "_law_goal"]
 d__law_told:Dg K mg "_law_told" (top 49) ["_law_stays_here", "_law_rooms", "_law_now_here", "_law_who", "_law_room", "_law_thing"]
 d_law:Dl K mg "law" "_law_script" (top 50)
 blt:Bl mg
 c_NIGHTS:∃ t,mg "NIGHTS" = some (.int 400 t)
theorem Ui {P:Program} {w:World} {K:PySem.W.Frag} {mg:Str→Option Value} {base:Heap} (T:Txt K mg) {f:Addr} {fd:FuncData} (F:FunD K "law" (top 50) f fd):FnOk P w K mg base CX0 65 f fd ["_law_script"] (Jy K):=by
 have h_is_whole:=BW (P:=P) (w:=w) (base:=base) (n:=0) T.d_is_whole T.blt
 have h_is_rising:=zW (P:=P) (w:=w) (base:=base) (n:=0) T.d_is_rising T.blt
 have h_nights_of:=zX (P:=P) (w:=w) (base:=base) (n:=0) T.d_nights_of T.blt
 have h_holds:=Li (P:=P) (w:=w) (base:=base) (n:=0) T.d_holds T.blt
 have h_firsts:=HN (P:=P) (w:=w) (base:=base) (n:=0) T.d_firsts T.blt
 have h_beginnings:=w6 (P:=P) (w:=w) (base:=base) (n:=0) T.d_beginnings T.blt
 have h_check_room:=xg (P:=P) (w:=w) (base:=base) (n:=0) T.d_check_room T.blt
 have h_goes_ahead:=xq (P:=P) (w:=w) (base:=base) (n:=0) T.d_goes_ahead T.blt
 have h__law_cell:=z6 (P:=P) (w:=w) (base:=base) (n:=0) T.d__law_cell T.blt
 have h__law_whole:=xu (P:=P) (w:=w) (base:=base) (n:=0) T.d__law_whole T.blt
 have h__law_full:=z9 (P:=P) (w:=w) (base:=base) (n:=0) T.d__law_full T.blt
 have h__law_begin:=xJ (P:=P) (w:=w) (base:=base) (n:=0) T.d__law_begin T.blt
 have h__law_next:=z_ (P:=P) (w:=w) (base:=base) (n:=0) T.d__law_next T.blt
 have h_all_whole:=zV (P:=P) (w:=w) (base:=base) (n:=1) T.d_all_whole T.blt (h_is_whole.mono (by decide))
 have h_count_at:=BX (P:=P) (w:=w) (base:=base) (n:=1) T.d_count_at T.blt (h_holds.mono (by decide))
 have h__law_part:=z7 (P:=P) (w:=w) (base:=base) (n:=1) T.d__law_part T.blt (h__law_cell.mono (by decide))
 have h__law_rising:=wK (P:=P) (w:=w) (base:=base) (n:=1) T.d__law_rising T.blt (h__law_whole.mono (by decide))
 have h__law_closed:=wL (P:=P) (w:=w) (base:=base) (n:=1) T.d__law_closed T.blt (h__law_next.mono (by decide))
 have h_is_tuple_of:=wI (P:=P) (w:=w) (base:=base) (n:=2) T.d_is_tuple_of T.blt (h_all_whole.mono (by decide))
 have h_is_whole_list:=uL (P:=P) (w:=w) (base:=base) (n:=2) T.d_is_whole_list T.blt (h_all_whole.mono (by decide))
 have h_fuller:=HS (P:=P) (w:=w) (base:=base) (n:=2) T.d_fuller T.blt (h_count_at.mono (by decide)) (h_firsts.mono (by decide))
 have h_is_tight:=BZ (P:=P) (w:=w) (base:=base) (n:=2) T.d_is_tight T.blt (h_nights_of.mono (by decide)) (h_count_at.mono (by decide))
 have h__law_stay:=z8 (P:=P) (w:=w) (base:=base) (n:=2) T.d__law_stay T.blt (h__law_part.mono (by decide))
 have h__law_guest:=xG (P:=P) (w:=w) (base:=base) (n:=2) T.d__law_guest T.blt (h__law_part.mono (by decide))
 have h__law_now:=B_ (P:=P) (w:=w) (base:=base) (n:=2) T.d__law_now T.blt (h__law_part.mono (by decide))
 have h__law_shut:=Aa (P:=P) (w:=w) (base:=base) (n:=2) T.d__law_shut T.blt (h__law_begin.mono (by decide)) (h__law_next.mono (by decide)) (h__law_rising.mono (by decide))
 have h__law_spoilt:=wM (P:=P) (w:=w) (base:=base) (n:=2) T.d__law_spoilt T.blt (h__law_part.mono (by decide))
 have h_is_pair:=DN (P:=P) (w:=w) (base:=base) (n:=3) T.d_is_pair T.blt (h_is_tuple_of.mono (by decide))
 have h_check_full:=wZ (P:=P) (w:=w) (base:=base) (n:=3) T.d_check_full T.blt (h_nights_of.mono (by decide)) (h_fuller.mono (by decide))
 have h_steps_from:=xr (P:=P) (w:=w) (base:=base) (n:=3) T.d_steps_from T.blt (h_is_tight.mono (by decide)) (h_goes_ahead.mono (by decide))
 have h__law_stays:=xH (P:=P) (w:=w) (base:=base) (n:=3) T.d__law_stays T.blt (h__law_part.mono (by decide)) (h__law_stay.mono (by decide)) (h__law_guest.mono (by decide)) (h__law_full.mono (by decide))
 have h_is_stretch:=wY (P:=P) (w:=w) (base:=base) (n:=4) T.d_is_stretch T.blt (h_is_pair.mono (by decide)) T.c_NIGHTS
 have h_is_closed:=zZ (P:=P) (w:=w) (base:=base) (n:=4) T.d_is_closed T.blt (h_steps_from.mono (by decide))
 have h_is_stay:=DP (P:=P) (w:=w) (base:=base) (n:=5) T.d_is_stay T.blt (h_is_whole.mono (by decide)) (h_is_stretch.mono (by decide)) (h_nights_of.mono (by decide)) (h_holds.mono (by decide))
 have h_check_stays:=wJ (P:=P) (w:=w) (base:=base) (n:=6) T.d_check_stays T.blt (h_is_stay.mono (by decide))
 have h_check_who:=zY (P:=P) (w:=w) (base:=base) (n:=7) T.d_check_who T.blt (h_check_stays.mono (by decide)) (h_check_full.mono (by decide))
 have h_is_shut:=DQ (P:=P) (w:=w) (base:=base) (n:=8) T.d_is_shut T.blt (h_is_whole_list.mono (by decide)) (h_is_rising.mono (by decide)) (h_beginnings.mono (by decide)) (h_check_who.mono (by decide)) (h_check_room.mono (by decide)) (h_is_closed.mono (by decide))
 have h__law_told:=Ab (P:=P) (w:=w) (base:=base) (n:=9) T.d__law_told T.blt (h_is_shut.mono (by decide)) (h__law_shut.mono (by decide))
 exact ((Uh (P:=P) (w:=w) (base:=base) (n:=10) F T.blt (h__law_part.mono (by decide)) (h__law_now.mono (by decide)) (h__law_stays.mono (by decide)) (h__law_begin.mono (by decide)) (h__law_closed.mono (by decide)) (h__law_spoilt.mono (by decide)) (h__law_told.mono (by decide))).mono (by decide)).imp (M8 K43.Lh)
end K43
def PySem.W.Fast.tw6550070801507471798:=0
def PySem.W.Fast.tw16765093732282288987:=0
def PySem.W.Fast.tw17943053514327173494:=0
def PySem.W.Fast.tw16821490023677976173:=0
def PySem.W.Fast.tw5986010034455797956:=0
def PySem.W.Fast.tw17784118736368523889:=0
def PySem.W.Fast.tw10486896604029840842:=0
def PySem.W.Fast.tw3152377680769932530:=0
def PySem.W.Fast.tw7883524091124631155:=0
def PySem.W.Fast.tw13813338682993484479:=0
def PySem.W.Fast.tw17240555803901347703:=0
def PySem.W.Fast.tw13257157073605354825:=0
def PySem.W.Fast.tw1095153289889301906:=0
def PySem.W.Fast.tw14676714888955894365:=0
def PySem.W.Fast.tw1618011149023229110:=0
def PySem.W.Fast.tw11322280844198074204:=0
def PySem.W.Fast.tw11934703986672589024:=0
def PySem.W.Fast.tw15380697081008357325:=0
def PySem.W.Fast.tw4397678397136795063:=0
def PySem.W.Fast.tw8392602726802578618:=0
def PySem.W.Fast.tw16427831338375957339:=0
def PySem.W.Fast.tw10562685320753657531:=0
def PySem.W.Fast.tw14126201315550504278:=0
def PySem.W.Fast.tw6602892158983261493:=0
def PySem.W.Fast.tw8548841276946660873:=0
def PySem.W.Fast.tw2091486928678511857:=0
def PySem.W.Fast.tw14184847598801396579:=0
def PySem.W.Fast.tw3400524898587079433:=0
def PySem.W.Fast.tw1468921198583243041:=0
def PySem.W.Fast.tw3207232541755096320:=0
def PySem.W.Fast.tw16643681297057533819:=0
def PySem.W.Fast.tw15284488537997734523:=0
def PySem.W.Fast.tw3194509433096982954:=0
open PySem PySem.W PyProof.Rows
set_option maxRecDepth 100000 in
set_option maxHeartbeats 0 in
theorem PySem.Challenge.cw_nightbook_k43_shut_or_not_holds : PySem.Challenge.rw_nightbook_k43_shut_or_not.Holds := by
 w_on;o_law;k_head;(case hw=>w_witness2)
 k_fill
 refine L2.Jb (l:=PySem.Challenge.rw_nightbook_k43_shut_or_not) (n:=63) (k:=65) (x := "_law_script") (CX:=L2.CX0) (sp:=D3.Jy) rfl (by decide) rfl ⟨rfl,by decide,by decide⟩ (fun w h Y=>PySem.W.kIn_of Y) ?F D3.tabs (fun _ _ _=>⟨(fun _ h=>nomatch (show _ ∈ ([]:List (Addr × Str × Pos)) from h)),(fun _ h=>nomatch (show _ ∈ ([]:List (Addr × Str × Pos)) from h)),(fun _ h=>nomatch (show _ ∈ ([]:List (Addr × Str × Pos)) from h))⟩) (fun _ h=>nomatch (show _ ∈ ([]:List (Addr × Str × Pos)) from h)) ?S ?C
 case F =>
  intro w mg fa h KX G hmg
  have T:K43.Txt (L2.KOf KX) mg:=by
   dsimp only [L2.KOf]
   have d_is_whole:D3.Dg (L2.KOf KX) mg "is_whole" (K43.top 7) ["thing"]:=by
    dsimp only [L2.KOf]
    refine' D3.fZ KX G ?b ?a ?l ?c ?k
    (case a=>k_is);(case l=>k_is);(case c=>k_is);(case k=>k_is)
    (case b=>exact fun _ _ _ _ _ _=>D3.cj fun _=>D3.len0 rfl)
   have d_all_whole:D3.Dg (L2.KOf KX) mg "all_whole" (K43.top 8) ["things"]:=by
    dsimp only [L2.KOf]
    refine' D3.fZ KX G ?b ?a ?l ?c ?k
    (case a=>k_is);(case l=>k_is);(case c=>k_is);(case k=>k_is)
    (case b=>exact fun _ _ _ _ _ _=>D3.cj fun _=>D3.len0 rfl)
   have d_is_tuple_of:D3.Dg (L2.KOf KX) mg "is_tuple_of" (K43.top 9) ["thing", "many"]:=by
    dsimp only [L2.KOf]
    refine' D3.fZ KX G ?b ?a ?l ?c ?k
    (case a=>k_is);(case l=>k_is);(case c=>k_is);(case k=>k_is)
    (case b=>exact fun _ _ _ _ _ _=>D3.cj fun _=>D3.cj fun _=>D3.len0 rfl)
   have d_is_pair:D3.Dg (L2.KOf KX) mg "is_pair" (K43.top 10) ["thing"]:=by
    dsimp only [L2.KOf]
    refine' D3.fZ KX G ?b ?a ?l ?c ?k
    (case a=>k_is);(case l=>k_is);(case c=>k_is);(case k=>k_is)
    (case b=>exact fun _ _ _ _ _ _=>D3.cj fun _=>D3.len0 rfl)
   have d_is_whole_list:D3.Dg (L2.KOf KX) mg "is_whole_list" (K43.top 11) ["thing"]:=by
    dsimp only [L2.KOf]
    refine' D3.fZ KX G ?b ?a ?l ?c ?k
    (case a=>k_is);(case l=>k_is);(case c=>k_is);(case k=>k_is)
    (case b=>exact fun _ _ _ _ _ _=>D3.cj fun _=>D3.len0 rfl)
   have d_is_rising:D3.Dg (L2.KOf KX) mg "is_rising" (K43.top 12) ["numbers"]:=by
    dsimp only [L2.KOf]
    refine' D3.fZ KX G ?b ?a ?l ?c ?k
    (case a=>k_is);(case l=>k_is);(case c=>k_is);(case k=>k_is)
    (case b=>exact fun _ _ _ _ _ _=>D3.cj fun _=>D3.len0 rfl)
   have d_is_stretch:D3.Dg (L2.KOf KX) mg "is_stretch" (K43.top 15) ["thing"]:=by
    dsimp only [L2.KOf]
    refine' D3.fZ KX G ?b ?a ?l ?c ?k
    (case a=>k_is);(case l=>k_is);(case c=>k_is);(case k=>k_is)
    (case b=>exact fun _ _ _ _ _ _=>D3.cj fun _=>D3.len0 rfl)
   have d_nights_of:D3.Dg (L2.KOf KX) mg "nights_of" (K43.top 16) ["stay"]:=by
    dsimp only [L2.KOf]
    refine' D3.fZ KX G ?b ?a ?l ?c ?k
    (case a=>k_is);(case l=>k_is);(case c=>k_is);(case k=>k_is)
    (case b=>exact fun _ _ _ _ _ _=>D3.cj fun _=>D3.len0 rfl)
   have d_holds:D3.Dg (L2.KOf KX) mg "holds" (K43.top 17) ["stretch", "night"]:=by
    dsimp only [L2.KOf]
    refine' D3.fZ KX G ?b ?a ?l ?c ?k
    (case a=>k_is);(case l=>k_is);(case c=>k_is);(case k=>k_is)
    (case b=>exact fun _ _ _ _ _ _=>D3.cj fun _=>D3.cj fun _=>D3.len0 rfl)
   have d_count_at:D3.Dg (L2.KOf KX) mg "count_at" (K43.top 18) ["stretches", "night"]:=by
    dsimp only [L2.KOf]
    refine' D3.fZ KX G ?b ?a ?l ?c ?k
    (case a=>k_is);(case l=>k_is);(case c=>k_is);(case k=>k_is)
    (case b=>exact fun _ _ _ _ _ _=>D3.cj fun _=>D3.cj fun _=>D3.len0 rfl)
   have d_firsts:D3.Dg (L2.KOf KX) mg "firsts" (K43.top 19) ["stretches"]:=by
    dsimp only [L2.KOf]
    refine' D3.fZ KX G ?b ?a ?l ?c ?k
    (case a=>k_is);(case l=>k_is);(case c=>k_is);(case k=>k_is)
    (case b=>exact fun _ _ _ _ _ _=>D3.cj fun _=>D3.len0 rfl)
   have d_fuller:D3.Dg (L2.KOf KX) mg "fuller" (K43.top 20) ["stretches", "many", "since"]:=by
    dsimp only [L2.KOf]
    refine' D3.Rk KX G ?b ?a ?l ?c ?k ?t ?s
    (case a=>k_is);(case l=>k_is);(case c=>k_is);(case k=>k_is);(case t=>k_is);(case s=>rfl)
    (case b=>exact fun _ _ _ _ _ _=>D3.cj fun _=>D3.cj fun _=>D3.cj fun _=>D3.len0 ⟨_,rfl,rfl⟩)
   have d_is_stay:D3.Dg (L2.KOf KX) mg "is_stay" (K43.top 22) ["thing", "rooms", "now"]:=by
    dsimp only [L2.KOf]
    refine' D3.fZ KX G ?b ?a ?l ?c ?k
    (case a=>k_is);(case l=>k_is);(case c=>k_is);(case k=>k_is)
    (case b=>exact fun _ _ _ _ _ _=>D3.cj fun _=>D3.cj fun _=>D3.cj fun _=>D3.len0 rfl)
   have d_check_stays:D3.Dg (L2.KOf KX) mg "check_stays" (K43.top 23) ["stays", "rooms", "now"]:=by
    dsimp only [L2.KOf]
    refine' D3.fZ KX G ?b ?a ?l ?c ?k
    (case a=>k_is);(case l=>k_is);(case c=>k_is);(case k=>k_is)
    (case b=>exact fun _ _ _ _ _ _=>D3.cj fun _=>D3.cj fun _=>D3.cj fun _=>D3.len0 rfl)
   have d_check_full:D3.Dg (L2.KOf KX) mg "check_full" (K43.top 24) ["stays", "rooms", "now"]:=by
    dsimp only [L2.KOf]
    refine' D3.fZ KX G ?b ?a ?l ?c ?k
    (case a=>k_is);(case l=>k_is);(case c=>k_is);(case k=>k_is)
    (case b=>exact fun _ _ _ _ _ _=>D3.cj fun _=>D3.cj fun _=>D3.cj fun _=>D3.len0 rfl)
   have d_beginnings:D3.Dg (L2.KOf KX) mg "beginnings" (K43.top 25) ["stays", "rooms", "now"]:=by
    dsimp only [L2.KOf]
    refine' D3.fZ KX G ?b ?a ?l ?c ?k
    (case a=>k_is);(case l=>k_is);(case c=>k_is);(case k=>k_is)
    (case b=>exact fun _ _ _ _ _ _=>D3.cj fun _=>D3.cj fun _=>D3.cj fun _=>D3.len0 rfl)
   have d_check_who:D3.Dg (L2.KOf KX) mg "check_who" (K43.top 27) ["stays", "rooms", "now", "who"]:=by
    dsimp only [L2.KOf]
    refine' D3.fZ KX G ?b ?a ?l ?c ?k
    (case a=>k_is);(case l=>k_is);(case c=>k_is);(case k=>k_is)
    (case b=>exact fun _ _ _ _ _ _=>D3.cj fun _=>D3.cj fun _=>D3.cj fun _=>D3.cj fun _=>D3.len0 rfl)
   have d_check_room:D3.Dg (L2.KOf KX) mg "check_room" (K43.top 28) ["rooms", "room"]:=by
    dsimp only [L2.KOf]
    refine' D3.fZ KX G ?b ?a ?l ?c ?k
    (case a=>k_is);(case l=>k_is);(case c=>k_is);(case k=>k_is)
    (case b=>exact fun _ _ _ _ _ _=>D3.cj fun _=>D3.cj fun _=>D3.len0 rfl)
   have d_is_tight:D3.Dg (L2.KOf KX) mg "is_tight" (K43.top 29) ["stays", "rooms", "night"]:=by
    dsimp only [L2.KOf]
    refine' D3.fZ KX G ?b ?a ?l ?c ?k
    (case a=>k_is);(case l=>k_is);(case c=>k_is);(case k=>k_is)
    (case b=>exact fun _ _ _ _ _ _=>D3.cj fun _=>D3.cj fun _=>D3.cj fun _=>D3.len0 rfl)
   have d_goes_ahead:D3.Dg (L2.KOf KX) mg "goes_ahead" (K43.top 30) ["stays", "who", "place", "night"]:=by
    dsimp only [L2.KOf]
    refine' D3.fZ KX G ?b ?a ?l ?c ?k
    (case a=>k_is);(case l=>k_is);(case c=>k_is);(case k=>k_is)
    (case b=>exact fun _ _ _ _ _ _=>D3.cj fun _=>D3.cj fun _=>D3.cj fun _=>D3.cj fun _=>D3.len0 rfl)
   have d_steps_from:D3.Dg (L2.KOf KX) mg "steps_from" (K43.top 31) ["stays", "rooms", "who", "night"]:=by
    dsimp only [L2.KOf]
    refine' D3.fZ KX G ?b ?a ?l ?c ?k
    (case a=>k_is);(case l=>k_is);(case c=>k_is);(case k=>k_is)
    (case b=>exact fun _ _ _ _ _ _=>D3.cj fun _=>D3.cj fun _=>D3.cj fun _=>D3.cj fun _=>D3.len0 rfl)
   have d_is_closed:D3.Dg (L2.KOf KX) mg "is_closed" (K43.top 32) ["stays", "rooms", "who", "nights"]:=by
    dsimp only [L2.KOf]
    refine' D3.fZ KX G ?b ?a ?l ?c ?k
    (case a=>k_is);(case l=>k_is);(case c=>k_is);(case k=>k_is)
    (case b=>exact fun _ _ _ _ _ _=>D3.cj fun _=>D3.cj fun _=>D3.cj fun _=>D3.cj fun _=>D3.len0 rfl)
   have d_is_shut:D3.Dg (L2.KOf KX) mg "is_shut" (K43.top 33) ["stays", "rooms", "now", "who", "room", "thing"]:=by
    dsimp only [L2.KOf]
    refine' D3.fZ KX G ?b ?a ?l ?c ?k
    (case a=>k_is);(case l=>k_is);(case c=>k_is);(case k=>k_is)
    (case b=>exact fun _ _ _ _ _ _=>D3.cj fun _=>D3.cj fun _=>D3.cj fun _=>D3.cj fun _=>D3.cj fun _=>D3.cj fun _=>D3.len0 rfl)
   have d__law_cell:D3.Dg (L2.KOf KX) mg "_law_cell" (K43.top 35) ["_law_script", "_law_at"]:=by
    dsimp only [L2.KOf]
    refine' D3.fZ KX G ?b ?a ?l ?c ?k
    (case a=>k_is);(case l=>k_is);(case c=>k_is);(case k=>k_is)
    (case b=>exact fun _ _ _ _ _ _=>D3.cj fun _=>D3.cj fun _=>D3.len0 rfl)
   have d__law_part:D3.Dg (L2.KOf KX) mg "_law_part" (K43.top 36) ["_law_script", "_law_at", "_law_k", "_law_many"]:=by
    dsimp only [L2.KOf]
    refine' D3.fZ KX G ?b ?a ?l ?c ?k
    (case a=>k_is);(case l=>k_is);(case c=>k_is);(case k=>k_is)
    (case b=>exact fun _ _ _ _ _ _=>D3.cj fun _=>D3.cj fun _=>D3.cj fun _=>D3.cj fun _=>D3.len0 rfl)
   have d__law_whole:D3.Dg (L2.KOf KX) mg "_law_whole" (K43.top 37) ["_law_found"]:=by
    dsimp only [L2.KOf]
    refine' D3.fZ KX G ?b ?a ?l ?c ?k
    (case a=>k_is);(case l=>k_is);(case c=>k_is);(case k=>k_is)
    (case b=>exact fun _ _ _ _ _ _=>D3.cj fun _=>D3.len0 rfl)
   have d__law_stay:D3.Dg (L2.KOf KX) mg "_law_stay" (K43.top 38) ["_law_script", "_law_at", "_law_turn", "_law_mode", "_law_now_here"]:=by
    dsimp only [L2.KOf]
    refine' D3.fZ KX G ?b ?a ?l ?c ?k
    (case a=>k_is);(case l=>k_is);(case c=>k_is);(case k=>k_is)
    (case b=>exact fun _ _ _ _ _ _=>D3.cj fun _=>D3.cj fun _=>D3.cj fun _=>D3.cj fun _=>D3.cj fun _=>D3.len0 rfl)
   have d__law_guest:D3.Dg (L2.KOf KX) mg "_law_guest" (K43.top 39) ["_law_script", "_law_at", "_law_turn", "_law_now_here", "_law_room"]:=by
    dsimp only [L2.KOf]
    refine' D3.fZ KX G ?b ?a ?l ?c ?k
    (case a=>k_is);(case l=>k_is);(case c=>k_is);(case k=>k_is)
    (case b=>exact fun _ _ _ _ _ _=>D3.cj fun _=>D3.cj fun _=>D3.cj fun _=>D3.cj fun _=>D3.cj fun _=>D3.len0 rfl)
   have d__law_full:D3.Dg (L2.KOf KX) mg "_law_full" (K43.top 40) ["_law_stays_here", "_law_rooms", "_law_now_here"]:=by
    dsimp only [L2.KOf]
    refine' D3.fZ KX G ?b ?a ?l ?c ?k
    (case a=>k_is);(case l=>k_is);(case c=>k_is);(case k=>k_is)
    (case b=>exact fun _ _ _ _ _ _=>D3.cj fun _=>D3.cj fun _=>D3.cj fun _=>D3.len0 rfl)
   have d__law_now:D3.Dg (L2.KOf KX) mg "_law_now" (K43.top 41) ["_law_script"]:=by
    dsimp only [L2.KOf]
    refine' D3.fZ KX G ?b ?a ?l ?c ?k
    (case a=>k_is);(case l=>k_is);(case c=>k_is);(case k=>k_is)
    (case b=>exact fun _ _ _ _ _ _=>D3.cj fun _=>D3.len0 rfl)
   have d__law_stays:D3.Dg (L2.KOf KX) mg "_law_stays" (K43.top 42) ["_law_script", "_law_rooms", "_law_now_here", "_law_most"]:=by
    dsimp only [L2.KOf]
    refine' D3.fZ KX G ?b ?a ?l ?c ?k
    (case a=>k_is);(case l=>k_is);(case c=>k_is);(case k=>k_is)
    (case b=>exact fun _ _ _ _ _ _=>D3.cj fun _=>D3.cj fun _=>D3.cj fun _=>D3.cj fun _=>D3.len0 rfl)
   have d__law_begin:D3.Dg (L2.KOf KX) mg "_law_begin" (K43.top 43) ["_law_stays_here", "_law_now_here", "_law_room"]:=by
    dsimp only [L2.KOf]
    refine' D3.fZ KX G ?b ?a ?l ?c ?k
    (case a=>k_is);(case l=>k_is);(case c=>k_is);(case k=>k_is)
    (case b=>exact fun _ _ _ _ _ _=>D3.cj fun _=>D3.cj fun _=>D3.cj fun _=>D3.len0 rfl)
   have d__law_next:D3.Dg (L2.KOf KX) mg "_law_next" (K43.top 44) ["_law_stays_here", "_law_rooms", "_law_who", "_law_night"]:=by
    dsimp only [L2.KOf]
    refine' D3.fZ KX G ?b ?a ?l ?c ?k
    (case a=>k_is);(case l=>k_is);(case c=>k_is);(case k=>k_is)
    (case b=>exact fun _ _ _ _ _ _=>D3.cj fun _=>D3.cj fun _=>D3.cj fun _=>D3.cj fun _=>D3.len0 rfl)
   have d__law_rising:D3.Dg (L2.KOf KX) mg "_law_rising" (K43.top 45) ["_law_thing"]:=by
    dsimp only [L2.KOf]
    refine' D3.fZ KX G ?b ?a ?l ?c ?k
    (case a=>k_is);(case l=>k_is);(case c=>k_is);(case k=>k_is)
    (case b=>exact fun _ _ _ _ _ _=>D3.cj fun _=>D3.len0 rfl)
   have d__law_shut:D3.Dg (L2.KOf KX) mg "_law_shut" (K43.top 46) ["_law_stays_here", "_law_rooms", "_law_now_here", "_law_who", "_law_room", "_law_thing"]:=by
    dsimp only [L2.KOf]
    refine' D3.fZ KX G ?b ?a ?l ?c ?k
    (case a=>k_is);(case l=>k_is);(case c=>k_is);(case k=>k_is)
    (case b=>exact fun _ _ _ _ _ _=>D3.cj fun _=>D3.cj fun _=>D3.cj fun _=>D3.cj fun _=>D3.cj fun _=>D3.cj fun _=>D3.len0 rfl)
   have d__law_closed:D3.Dg (L2.KOf KX) mg "_law_closed" (K43.top 47) ["_law_stays_here", "_law_rooms", "_law_who", "_law_some"]:=by
    dsimp only [L2.KOf]
    refine' D3.fZ KX G ?b ?a ?l ?c ?k
    (case a=>k_is);(case l=>k_is);(case c=>k_is);(case k=>k_is)
    (case b=>exact fun _ _ _ _ _ _=>D3.cj fun _=>D3.cj fun _=>D3.cj fun _=>D3.cj fun _=>D3.len0 rfl)
   have d__law_spoilt:D3.Dg (L2.KOf KX) mg "_law_spoilt" (K43.top 48) ["_law_script", "_law_nights", "_law_goal"]:=by
    dsimp only [L2.KOf]
    refine' D3.fZ KX G ?b ?a ?l ?c ?k
    (case a=>k_is);(case l=>k_is);(case c=>k_is);(case k=>k_is)
    (case b=>exact fun _ _ _ _ _ _=>D3.cj fun _=>D3.cj fun _=>D3.cj fun _=>D3.len0 rfl)
   have d__law_told:D3.Dg (L2.KOf KX) mg "_law_told" (K43.top 49) ["_law_stays_here", "_law_rooms", "_law_now_here", "_law_who", "_law_room", "_law_thing"]:=by
    dsimp only [L2.KOf]
    refine' D3.fZ KX G ?b ?a ?l ?c ?k
    (case a=>k_is);(case l=>k_is);(case c=>k_is);(case k=>k_is)
    (case b=>exact fun _ _ _ _ _ _=>D3.cj fun _=>D3.cj fun _=>D3.cj fun _=>D3.cj fun _=>D3.cj fun _=>D3.cj fun _=>D3.len0 rfl)
   have d_law:D3.Dl (L2.KOf KX) mg "law" "_law_script" (K43.top 50):=by
    dsimp only [L2.KOf]
    refine' D3.Vf KX G ?b ?a ?l ?c ?k
    (case a=>k_is);(case l=>k_is);(case c=>k_is);(case k=>k_is)
    (case b=>exact fun _ _ _ _ _ _ u=>rfl)
   have jU:mg "len" = none:=by
    refine' PySem.W.mg_none_of KX G ?z
    (case z=>k_is)
   have b_range:mg "range" = none:=by
    refine' PySem.W.mg_none_of KX G ?z
    (case z=>k_is)
   have b_abs:mg "abs" = none:=by
    refine' PySem.W.mg_none_of KX G ?z
    (case z=>k_is)
   have b_isinstance:mg "isinstance" = none:=by
    refine' PySem.W.mg_none_of KX G ?z
    (case z=>k_is)
   have b_int:mg "int" = none:=by
    refine' PySem.W.mg_none_of KX G ?z
    (case z=>k_is)
   have b_bool:mg "bool" = none:=by
    refine' PySem.W.mg_none_of KX G ?z
    (case z=>k_is)
   have b_tuple:mg "tuple" = none:=by
    refine' PySem.W.mg_none_of KX G ?z
    (case z=>k_is)
   have b_list:mg "list" = none:=by
    refine' PySem.W.mg_none_of KX G ?z
    (case z=>k_is)
   have b_str:mg "str" = none:=by
    refine' PySem.W.mg_none_of KX G ?z
    (case z=>k_is)
   have b_max:mg "max" = none:=by
    refine' PySem.W.mg_none_of KX G ?z
    (case z=>k_is)
   have b_min:mg "min" = none:=by
    refine' PySem.W.mg_none_of KX G ?z
    (case z=>k_is)
   have b_sorted:mg "sorted" = none:=by
    refine' PySem.W.mg_none_of KX G ?z
    (case z=>k_is)
   have PL:mg "sum" = none:=by
    refine' PySem.W.mg_none_of KX G ?z
    (case z=>k_is)
   have b_reversed:mg "reversed" = none:=by
    refine' PySem.W.mg_none_of KX G ?z
    (case z=>k_is)
   have b_enumerate:mg "enumerate" = none:=by
    refine' PySem.W.mg_none_of KX G ?z
    (case z=>k_is)
   have b_zip:mg "zip" = none:=by
    refine' PySem.W.mg_none_of KX G ?z
    (case z=>k_is)
   have b_set:mg "set" = none:=by
    refine' PySem.W.mg_none_of KX G ?z
    (case z=>k_is)
   have b_any:mg "any" = none:=by
    refine' PySem.W.mg_none_of KX G ?z
    (case z=>k_is)
   have yd:mg "all" = none:=by
    refine' PySem.W.mg_none_of KX G ?z
    (case z=>k_is)
   have b_dict:mg "dict" = none:=by
    refine' PySem.W.mg_none_of KX G ?z
    (case z=>k_is)
   have c_NIGHTS:∃ t,mg "NIGHTS" = some (.int 400 t):=by
    refine' ⟨?t_NIGHTS,PySem.W.mg_of KX G ?z⟩
    (case z=>rfl)
   exact ⟨d_is_whole,d_all_whole,d_is_tuple_of,d_is_pair,d_is_whole_list,d_is_rising,d_is_stretch,d_nights_of,d_holds,d_count_at,d_firsts,d_fuller,d_is_stay,d_check_stays,d_check_full,d_beginnings,d_check_who,d_check_room,d_is_tight,d_goes_ahead,d_steps_from,d_is_closed,d_is_shut,d__law_cell,d__law_part,d__law_whole,d__law_stay,d__law_guest,d__law_full,d__law_now,d__law_stays,d__law_begin,d__law_next,d__law_rising,d__law_shut,d__law_closed,d__law_spoilt,d__law_told,d_law,⟨jU,b_range,b_abs,b_isinstance,b_int,b_bool,b_tuple,b_list,b_str,b_max,b_min,b_sorted,PL,b_reversed,b_enumerate,b_zip,b_set,b_any,yd,b_dict⟩,c_NIGHTS⟩
  obtain ⟨f,fd,F,b,m⟩:=T.d_law.ex
  have e0:=hmg.symm.trans m
  cases e0
  exact ⟨fd,b,fun base kb nb=>K43.Ui T F⟩
 case S=>exact fun K H a ns hl hO hS=>⟨a,ns,hO,rfl,hS,hl,fun _=>rfl⟩
 case C=>exact fun _ _ _ _ z=>z
